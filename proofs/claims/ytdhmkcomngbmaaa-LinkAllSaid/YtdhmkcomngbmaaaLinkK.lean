/- The contract of the document's Take. -/
import Derived.Test.YtdhmkcomngbmaaaLinkJ
namespace Go.Proofs.Ytdhmkcomngbmaaa
open Go.RowKit

theorem own_form15 {w : World} {base : Nat} {e : TypeId} {size : Nat} {v : Value} {n : Nat} {xs : List Value} (h : w.ownsRow base e size v n xs) : ∃ A c, v = .slice A n c := by
  rcases h.2 with ⟨rfl, rfl⟩ | ⟨g, cap, cur, rfl, _⟩
  · exact ⟨none, 0, rfl⟩
  · exact ⟨_, _, rfl⟩
/-- An append of a slice that lies anywhere, at a step of a region that draws its order. -/
theorem step_append_rows {P : Program} {w : World} {ops : Array Oper} {o : Oper} {a : Act} {K : Act → World → Prop} {Q : Exit → Act → World → Prop} {E : Prop} (hgd : o.guard = none) (s x : Operand) (t : TypeId)
    (ho : o.op = .call { callee := .builtin .append, args := #[s, x], argTypes := #[t, t] })
    (base : Nat) (e : TypeId) (i : TypeInfo) (z : Value) (size bytes : Nat) (ht : P.underlying t = some (.slice e)) (hi : P.info? e = some i) (hz : i.zero = some z)
    (hsize : i.size = size) (hby : i.bytes = bytes) (hzs : z.cells.size = size) (hsz : 0 < size)
    (v : Value) (n : Nat) (xs : List Value) (hs : a.eval s = v) (hown : w.ownsRow base e size v n xs)
    (A : Option Addr) (m c : Nat) (news : List Value) (hx : a.eval x = .slice A m c) (hl : news.length = m * size) (B : Nat) (hlies : Lies w B A news) (hnil : A = none → c = 0) (h1 : ∀ u ∈ news, u.oneCell' = true)
    (h63 : n + m ≤ maxLen) (hbytes : (n + m) * bytes ≤ 140737488355328) (hbase : base ≤ w.heap.size)
    (h : ∀ A' c' w', w'.ownsRow base e size (.slice A' (n + m) c') (n + m) (xs ++ news) → w.grownBy w' v.ownBlock → K (a.put o.dst (.slice A' (n + m) c')) w') :
    if Region.wanted o (yielded ops a.tmps) = true then Oper.wp P o a w K Q else E := by
  have hw : Region.wanted o (yielded ops a.tmps) = true := by simp [Region.wanted, hgd]
  rw [if_pos hw]
  have hrun : ∃ v' w', (Builtin.append_ #[t, t] o.type #[v, .slice A m c]).run P w = .ok v' w' ∧ w'.ownsRow base e size v' (n + m) (xs ++ news) ∧ w.grownBy w' v.ownBlock := by
    cases A with
    | none =>
      have hne : news = [] := by
        rcases hlies with h | ⟨b, off, hA, _⟩
        · exact h
        · cases hA
      subst hne
      have hm0 : m = 0 := by
        have : m * size = 0 := by simpa using hl.symm
        rcases Nat.mul_eq_zero.1 this with h | h
        · exact h
        · omega
      subst hm0
      have hc := hnil rfl
      subst hc
      exact ⟨v, w, run_append_owned_none (P := P) (w := w) base t o.type e i size ht hi v n xs hown, by simpa using hown, grown_refl _ _⟩
    | some ad =>
      obtain ⟨v', w', hr, h2, h3, _, _⟩ := run_append_own_at (P := P) w base t o.type e i z size bytes ht hi hz hsize hby hzs hsz v n xs hown ad m c news hl (fun j u hu => by
        rcases hlies with h | ⟨b, off, hA, _, hc⟩
        · rw [h] at hu; simp at hu
        · cases hA
          obtain ⟨hj1, hj2⟩ := List.getElem?_eq_some_iff.1 hu
          rw [WideShapes.add_plain, hc j hj1, hj2]) h1 h63 hbytes hbase
      exact ⟨v', w', hr, h2, h3⟩
  obtain ⟨v', w', hr, h2, h3⟩ := hrun
  obtain ⟨A', c', rfl⟩ := own_form15 h2
  unfold Oper.wp execOp
  simp only [ho, resolve, invoke, builtin, Sem.run_bind, Sem.run_pure, Result.andThen_ok, List.map_toArray, List.map_cons, List.map_nil, hs, hx, hr]
  exact h A' c' w' h2 h3

/-- What lies in memory while a packet is taken: the end's block, the answer's. -/
structure RkAt (w wd : World) (a b c d e : Value) : Prop where
  p : Five wd w.heap.size a b c d e 33
  e : Five wd (w.heap.size + 1) (.int .i64 0) (.int .i64 0) (.int .i64 0) (.int .i64 0) (.slice none 0 0) 33
  bel : Below w.heap.size w wd
section
variable {w wd w' : World} {a b c d e : Value}
theorem RkAt.later (h : RkAt w wd a b c d e) (hb : Below wd.heap.size wd w') : RkAt w w' a b c d e := ⟨h.p.below hb, h.e.below hb, h.bel.trans (hb.mono h.bel.size)⟩
theorem RkAt.lat (h : RkAt w wd a b c d e) (z : LatW wd) : RkAt w z.wd a b c d e := h.later z.bel
theorem RkAt.set1 (h : RkAt w wd a b c d e) (u : Value) : RkAt w (wd.setCell ⟨w.heap.size, 1, none⟩ u) a u c d e := ⟨h.p.set1 _, h.e.far (p := ⟨w.heap.size, 1, none⟩) (by show w.heap.size + 1 ≠ w.heap.size; omega) _, h.bel.setCell (p := ⟨w.heap.size, 1, none⟩) (Nat.le_refl _) _⟩
theorem RkAt.set2 (h : RkAt w wd a b c d e) (u : Value) : RkAt w (wd.setCell ⟨w.heap.size, 2, none⟩ u) a b u d e := ⟨h.p.set2 _, h.e.far (p := ⟨w.heap.size, 2, none⟩) (by show w.heap.size + 1 ≠ w.heap.size; omega) _, h.bel.setCell (p := ⟨w.heap.size, 2, none⟩) (Nat.le_refl _) _⟩
theorem RkAt.set3 (h : RkAt w wd a b c d e) (u : Value) : RkAt w (wd.setCell ⟨w.heap.size, 3, none⟩ u) a b c u e := ⟨h.p.set3 _, h.e.far (p := ⟨w.heap.size, 3, none⟩) (by show w.heap.size + 1 ≠ w.heap.size; omega) _, h.bel.setCell (p := ⟨w.heap.size, 3, none⟩) (Nat.le_refl _) _⟩
theorem RkAt.set4 (h : RkAt w wd a b c d e) (u : Value) : RkAt w (wd.setCell ⟨w.heap.size, 4, none⟩ u) a b c d u := ⟨h.p.set4 _, h.e.far (p := ⟨w.heap.size, 4, none⟩) (by show w.heap.size + 1 ≠ w.heap.size; omega) _, h.bel.setCell (p := ⟨w.heap.size, 4, none⟩) (Nat.le_refl _) _⟩
theorem RkAt.fin (h : RkAt w wd a b c d e) (v0 v1 v2 v3 v4 : Value) : Five (fiveSet wd (w.heap.size + 1) v0 v1 v2 v3 v4) (w.heap.size + 1) v0 v1 v2 v3 v4 33 ∧ Below w.heap.size w (fiveSet wd (w.heap.size + 1) v0 v1 v2 v3 v4) :=
  ⟨h.e.set _ _ _ _ _, below_five h.bel (by omega) _ _ _ _ _⟩
end

/-- What the document's Take leaves. -/
def RTakeEnd (r : LEnd × CameL) (w : World) (e : Ending) (w' : World) : Prop := ∃ v, e = .returned (.tuple #[v, .string (str r.2.piece), .bool r.2.has, .string (str r.2.reply), .bool r.2.anew]) ∧ EndR r.1 w v w'
theorem RTakeEnd.mk2 {r : LEnd × CameL} {w w' : World} {ep ot fi wa : Int} {out : List (List UInt8)} {pc rp : List UInt8} {has an : Bool} {A : Option Addr} {c B : Nat} (hr : r = (⟨ep, ot, fi, wa, out⟩, ⟨pc, has, rp, an⟩)) (hs : Strs w' B A out) (hB : B ≤ w'.heap.size) (hb : Below w.heap.size w w') :
    RTakeEnd r w (.returned (.tuple #[.agg #[.int .i64 ep, .int .i64 ot, .int .i64 fi, .int .i64 wa, .slice A out.length c], .string (str pc), .bool has, .string (str rp), .bool an])) w' := by
  subst hr
  exact ⟨_, rfl, A, c, rfl, hs.more hB, hb⟩
theorem heard_fields {k a b c d : Nat} {p : List UInt8} {s : List UInt8} (h : (⟨k, a, b, c, d, p⟩ : Heard) = heardOf s) : k = (heardOf s).kind ∧ a = (heardOf s).n0 ∧ b = (heardOf s).n1 ∧ c = (heardOf s).n2 ∧ d = (heardOf s).n3 ∧ p = (heardOf s).piece := by
  rw [← h]; exact ⟨rfl, rfl, rfl, rfl, rfl, rfl⟩
/-- The pieces stay where cells of a block are turned that hold no text. -/
theorem Strs.far5 {w : World} {B H : Nat} {A : Option Addr} {xs : List (List UInt8)} {a b c d : Int} {A' : Option Addr} {n m : Nat} {ty : TypeId} (h : Strs w B A xs) (hf : Five w H (.int .i64 a) (.int .i64 b) (.int .i64 c) (.int .i64 d) (.slice A' n m) ty) (j : Nat) (v : Value) : Strs (w.setCell ⟨H, j, none⟩ v) B A xs := by
  rcases h with h | ⟨g, off, hA, hg, hc⟩
  · exact .inl h
  · by_cases hx : xs = []
    · exact .inl hx
    · refine .inr ⟨g, off, hA, hg, fun i hi => ?_⟩
      have hgH : g ≠ H := by
        intro e
        subst e
        have h0 := hc i hi
        rw [Lib.cell_of_heap hf.blk] at h0
        unfold txt at h0
        rcases (show off + i = 0 ∨ off + i = 1 ∨ off + i = 2 ∨ off + i = 3 ∨ off + i = 4 ∨ 5 ≤ off + i by omega) with e | e | e | e | e | e
        · rw [e] at h0; simp at h0
        · rw [e] at h0; simp at h0
        · rw [e] at h0; simp at h0
        · rw [e] at h0; simp at h0
        · rw [e] at h0; simp at h0
        · rw [Array.getElem?_eq_none (by simpa using e)] at h0; cases h0
      rw [World.cell?_of_block (w := w) (a := ⟨g, off + i, none⟩) (Below.heap_setCell w ⟨H, j, none⟩ v g hgH)]
      exact hc i hi

theorem Strs.fiveSet {w : World} {B H : Nat} {A : Option Addr} {xs : List (List UInt8)} {a b c d : Int} {A' : Option Addr} {n m : Nat} {ty : TypeId} (h : Strs w B A xs) (hf : Five w H (.int .i64 a) (.int .i64 b) (.int .i64 c) (.int .i64 d) (.slice A' n m) ty) (a' b' c' d' : Int) (u : Value) :
    Strs (fiveSet w H (.int .i64 a') (.int .i64 b') (.int .i64 c') (.int .i64 d') u) B A xs :=
  ((((h.far5 hf 0 (.int .i64 a')).far5 (hf.set0 (.int .i64 a')) 1 (.int .i64 b')).far5 ((hf.set0 (.int .i64 a')).set1 (.int .i64 b')) 2 (.int .i64 c')).far5 (((hf.set0 (.int .i64 a')).set1 (.int .i64 b')).set2 (.int .i64 c')) 3 (.int .i64 d')).far5 ((((hf.set0 (.int .i64 a')).set1 (.int .i64 b')).set2 (.int .i64 c')).set3 (.int .i64 d')) 4 u
theorem fiveSet_size (w : World) (H : Nat) (a b c d e : Value) : (fiveSet w H a b c d e).heap.size = w.heap.size := by simp [fiveSet, World.setCell]

set_option maxHeartbeats 16000000 in
set_option maxRecDepth 100000 in
theorem RTake_any (x : LEnd) (A : Option Addr) (c : Nat) (s : List UInt8) (w : World) (h : Strs w w.heap.size A x.out) (hn : A = none → c = 0) (hc : x.out.length ≤ c) (hx : x.Ok) (hs : s.length ≤ 281474976710656) :
    Calls Try.prog 22 #[x.rval A c, .string (str s)] w (RTakeEnd (takeX x s) w) := by
  obtain ⟨V, hV⟩ : ∃ V, V = (w.alloc (.cells #[.int .i64 x.ep, .int .i64 x.ot, .int .i64 x.fi, .int .i64 x.wa, .slice A x.out.length c] 33)).alloc (.cells #[.int .i64 0, .int .i64 0, .int .i64 0, .int .i64 0, .slice none 0 0] 33) := ⟨_, rfl⟩
  have hT : RkAt w V (.int .i64 x.ep) (.int .i64 x.ot) (.int .i64 x.fi) (.int .i64 x.wa) (.slice A x.out.length c) := by
    rw [hV]
    obtain ⟨h0, h1, hb⟩ := boxes5 w (.int .i64 x.ep) (.int .i64 x.ot) (.int .i64 x.fi) (.int .i64 x.wa) (.slice A x.out.length c) (.int .i64 0) (.int .i64 0) (.int .i64 0) (.int .i64 0) (.slice none 0 0) 33 33 (Below.refl _ _)
    exact ⟨h0, h1, hb⟩
  have HV := Lib.hid hV
  have hsV : w.heap.size + 2 ≤ V.heap.size := by rw [hV]; simp
  have HHd := Lib.hid (RHeard_any s V hs)
  have HSt := Lib.hid (h.below hT.bel)
  have HEn : Hid (∀ w', takeX x s = (x, CameL.none_) → Below w.heap.size w w' → RTakeEnd (takeX x s) w (.returned (.tuple #[.agg #[.int .i64 x.ep, .int .i64 x.ot, .int .i64 x.fi, .int .i64 x.wa, .slice A x.out.length c], .string ⟨#[]⟩, .bool false, .string ⟨#[]⟩, .bool false])) w') := Lib.hid (fun w' hr hb => RTakeEnd.mk2 (pc := []) (rp := []) hr (h.below hb) hb.size hb)
  have HT := Lib.hid hT
  have HN := Lib.hid hn
  have HC := Lib.hid hc
  have HX := Lib.hid hx
  clear hV hT h hn hc hs
  unfold LEnd.rval
  go_enter Try.func22, Try.ntmps22
  go_upto_region 1 with fail
  rw [← HV.out]
  go_wp2_with fail
  refine HHd.out.mono ?_
  rintro e w1 ⟨k, n0, n1, n2, n3, pc, rfl, hcase, hb1⟩
  obtain ⟨C, hC⟩ : ∃ C, w1.heap.size = C := ⟨_, rfl⟩
  have hlo : w.heap.size + 1 < C := by have := hb1.size; omega
  have hQ := Quad.new w1 (.int .i64 n0) (.int .i64 n1) (.int .i64 n2) (.int .i64 n3) 68
  have HT1 := Lib.hid ((HT.out.later hb1).later (below_one w1 (.cells #[.int .i64 n0, .int .i64 n1, .int .i64 n2, .int .i64 n3] 68 (0, 0))))
  have HS1 := Lib.hid ((HSt.out.below (hb1.mono HT.out.bel.size)).below ((below_one w1 (.cells #[.int .i64 n0, .int .i64 n1, .int .i64 n2, .int .i64 n3] 68 (0, 0))).mono (HT.out.later hb1).bel.size))
  obtain ⟨W1, hW1⟩ : ∃ W1, w1.alloc (.cells #[.int .i64 n0, .int .i64 n1, .int .i64 n2, .int .i64 n3] 68 (0, 0)) = W1 := ⟨_, rfl⟩
  rw [hW1] at hQ HT1 HS1
  rw [hC] at hQ
  have HQ := Lib.hid hQ
  have HW1 := Lib.hid hW1
  have HC1 := Lib.hid hC
  have HCase := Lib.hid hcase
  clear hb1 hC hQ hW1 HHd HT HSt HV hcase
  go_upto_region 2 with fail
  rw [HW1.out]
  (try rw [HC1.out])
  clear HW1 HC1
  have x0 := HT1.out.p.c0
  have x1 := HT1.out.p.c1
  have x2 := HT1.out.p.c2
  have x3 := HT1.out.p.c3
  have x4 := HT1.out.p.c4
  have y0 := HT1.out.e.c0
  have y1 := HT1.out.e.c1
  have y2 := HT1.out.e.c2
  have y3 := HT1.out.e.c3
  have y4 := HT1.out.e.c4
  have q0 := HQ.out.c0
  have q1 := HQ.out.c1
  have q2 := HQ.out.c2
  have q3 := HQ.out.c3
  have xf := HT1.out.p.fr
  have yf := HT1.out.e.fr
  rcases HCase.out with ⟨hhd, hval⟩ | ⟨hnh, hk0⟩
  case inr =>
    subst hk0
    have hno : Hid (takeX x s = (x, CameL.none_)) := Lib.hid (takeX_no (.inl hnh))
    go_wp2_with fail
    obtain ⟨hR, hE⟩ := HT1.out.fin (.int .i64 x.ep) (.int .i64 x.ot) (.int .i64 x.fi) (.int .i64 x.wa) (.slice A x.out.length c)
    have t0 := hR.c0
    have t1 := hR.c1
    have t2 := hR.c2
    have t3 := hR.c3
    have t4 := hR.c4
    unfold fiveSet at t0 t1 t2 t3 t4 hE
    exact bodyPost_ret (v := .tuple #[.agg #[.int .i64 x.ep, .int .i64 x.ot, .int .i64 x.fi, .int .i64 x.wa, .slice A x.out.length c], .string ⟨#[]⟩, .bool false, .string ⟨#[]⟩, .bool false]) (by simp [results, Try.results22, go_sem, t0, t1, t2, t3, t4]) rfl (HEn.out _ hno.out hE)
  case inl =>
    obtain ⟨rfl, rfl, rfl, rfl, rfl, rfl⟩ := heard_fields hval
    have hkd : (heardOf s).kind = 1 ∨ (heardOf s).kind = 2 := hhd.2.1.1
    have hN1 : 1 ≤ (heardOf s).n0 := hhd.2.2.1
    have hN2 : (heardOf s).n0 ≤ 1099511627776 := hhd.2.2.2
    have hN3 : (heardOf s).n3 < 9223372036854775808 := hhd.2.1.2.2.2.1 3 (by omega)
    have hkq : (((heardOf s).kind : Int) == 0) = false := by rw [beq_eq_false_iff_ne]; omega
    by_cases g2 : ((heardOf s).n0 : Int) < x.ot
    case pos =>
      have hno : Hid (takeX x s = (x, CameL.none_)) := Lib.hid (take_old g2)
      go_wp2_with fail
      obtain ⟨hR, hE⟩ := HT1.out.fin (.int .i64 x.ep) (.int .i64 x.ot) (.int .i64 x.fi) (.int .i64 x.wa) (.slice A x.out.length c)
      have t0 := hR.c0
      have t1 := hR.c1
      have t2 := hR.c2
      have t3 := hR.c3
      have t4 := hR.c4
      unfold fiveSet at t0 t1 t2 t3 t4 hE
      exact bodyPost_ret (v := .tuple #[.agg #[.int .i64 x.ep, .int .i64 x.ot, .int .i64 x.fi, .int .i64 x.wa, .slice A x.out.length c], .string ⟨#[]⟩, .bool false, .string ⟨#[]⟩, .bool false]) (by simp [results, Try.results22, go_sem, t0, t1, t2, t3, t4]) rfl (HEn.out _ hno.out hE)
    have hon : ¬ (¬ IsHeard s ∨ ((heardOf s).n0 : Int) < x.ot) := by rintro (e | e); exact e hhd; exact g2 e
    obtain ⟨hok, mep, _, _, _, _, _⟩ := met_ok HX.out (n := ((heardOf s).n0 : Int)) (by omega)
    obtain ⟨an, han⟩ : ∃ an, decide (x.ot < ((heardOf s).n0 : Int) ∧ x.ot ≠ 0) = an := ⟨_, rfl⟩
    have HAn := Lib.hid han
    have HOky := Lib.hid hok
    have HR1 := Lib.hid (fun h1 => @take_other x s hon h1)
    have HR2 := Lib.hid (fun h1 h2 => @take_ack x s hon h1 h2)
    have HR3 := Lib.hid (fun h1 h2 h3 => @take_yes x s hon h1 h2 h3)
    have HR4 := Lib.hid (fun h1 h2 h3 => @take_no x s hon h1 h2 h3)
    rw [han] at HR1 HR2 HR3 HR4
    have MEP := Lib.hid mep
    have HM0 := Lib.hid (fun h => @metX_same x ((heardOf s).n0 : Int) h)
    have HM1 := Lib.hid (fun h h0 => @metX_first x ((heardOf s).n0 : Int) h h0)
    have HM2 := Lib.hid (fun h h0 => @metX_anew x ((heardOf s).n0 : Int) h h0)
    have hot0 := hx.o1
    clear han hon hx hok mep hhd hval HCase HEn
    generalize takeX x s = R at *
    generalize metX x ((heardOf s).n0 : Int) = y at *
    generalize (heardOf s).n0 = n0 at *
    generalize (heardOf s).n1 = n1 at *
    generalize (heardOf s).n2 = n2 at *
    generalize (heardOf s).n3 = n3 at *
    generalize (heardOf s).kind = kd at *
    generalize (heardOf s).piece = pc at *
    by_cases g3 : (n0 : Int) = x.ot
    case pos =>
      have hy := HM0.out g3
      subst hy
      have han : an = false := by rw [← HAn.out, decide_eq_false_iff_not]; omega
      subst han
      have g4 : ¬ y.ot < (n0 : Int) := by omega
      have HS3 := HS1
      have HT3 := HT1
      have HQ3 := HQ
      have HN1 := HN
      have HC1 := HC
      clear g3 HM0 HM1 HM2 HS1 HT1 HQ HAn HN HC
      go_upto_region 9 with fail
      clear x0 x1 x2 x3 x4 y0 y1 y2 y3 y4 q0 q1 q2 q3 xf yf
      have x0 := HT3.out.p.c0
      have x1 := HT3.out.p.c1
      have x2 := HT3.out.p.c2
      have x3 := HT3.out.p.c3
      have x4 := HT3.out.p.c4
      have y0 := HT3.out.e.c0
      have y1 := HT3.out.e.c1
      have y2 := HT3.out.e.c2
      have y3 := HT3.out.e.c3
      have y4 := HT3.out.e.c4
      have q0 := HQ3.out.c0
      have q1 := HQ3.out.c1
      have q2 := HQ3.out.c2
      have q3 := HQ3.out.c3
      have xf := HT3.out.p.fr
      have yf := HT3.out.e.fr
      by_cases h1 : (n1 : Int) = y.ep
      case neg =>
        have hq : ((n1 : Int) != y.ep) = true := by simpa using h1
        have hr := Lib.hid (HR1.out (fun e => h1 (e.trans MEP.out.symm)))
        clear h1 HR1 HR2 HR3 HR4
        go_upto_region 10 with fail
        clear x0 x1 x2 x3 x4 y0 y1 y2 y3 y4 q0 q1 q2 q3 xf yf
        have HAk := Lib.hid (fun W => RPacket_any (y) A c 2 0 [] W HOky.out.ok3 (.inr rfl) (by omega) (by omega) (by simp))
        have HAk2 : Hid (∀ W, Calls Try.prog 38 #[.agg #[.int .i64 y.ep, .int .i64 y.ot, .int .i64 y.fi, .int .i64 (y.wa), .slice A y.out.length c], .int .i64 2, .int .i64 0, .string ⟨#[]⟩] W fun e w' => e = .returned (.string (str (ackB (y)))) ∧ Below W.heap.size W w') := Lib.hid (fun W => HAk.out W)
        obtain ⟨AK, hAK⟩ : ∃ AK, ackB (y) = AK := ⟨_, rfl⟩
        rw [hAK] at HAk2 hr
        clear hAK HAk
        have y0 := fun z : LatW W1 => (HT3.out.lat z).e.c0
        have y1 := fun z : LatW W1 => (HT3.out.lat z).e.c1
        have y2 := fun z : LatW W1 => (HT3.out.lat z).e.c2
        have y3 := fun z : LatW W1 => (HT3.out.lat z).e.c3
        have y4 := fun z : LatW W1 => (HT3.out.lat z).e.c4
        have yf := fun z : LatW W1 => (HT3.out.lat z).e.fr
        have hd0 := HT3.out.p.drew.all
        have HLz := Lib.hid (fun z : LatW W1 => (HT3.out.lat z).p.all)
        have hne1 : w.heap.size ≠ w.heap.size + 1 := by omega
        have HLe := Lib.hid (fun zz : LatW W1 => ((HT3.out.lat zz).p.farSet hne1 (.int .i64 y.ep) (.int .i64 y.ot) (.int .i64 y.fi) (.int .i64 y.wa) (.slice A y.out.length c)).all)
        unfold fiveSet at HLe
        go_region_held3 (fun w' => w'.cell? ⟨w.heap.size, 0, none⟩ = some (.int .i64 y.ep) ∧ w'.cell? ⟨w.heap.size, 1, none⟩ = some (.int .i64 y.ot) ∧ w'.cell? ⟨w.heap.size, 2, none⟩ = some (.int .i64 y.fi) ∧ w'.cell? ⟨w.heap.size, 3, none⟩ = some (.int .i64 y.wa) ∧ w'.cell? ⟨w.heap.size, 4, none⟩ = some (.slice A y.out.length c)) (first | with_reducible exact HLz.out z4 | with_reducible exact hd0 | with_reducible exact HLe.out z4 | fail) (first | (go_at_call 38; refine (HAk2.out _).mono ?_; rintro e w8 ⟨rfl, hb8⟩; obtain ⟨z4, hz4⟩ := LatW.later (LatW.first W1) hb8; subst hz4; clear hb8) | fail)
        all_goals
          go_wp2_with fail
          obtain ⟨hR, hE⟩ := (HT3.out.lat z4).fin (.int .i64 y.ep) (.int .i64 y.ot) (.int .i64 y.fi) (.int .i64 y.wa) (.slice A y.out.length c)
          have t0 := hR.c0
          have t1 := hR.c1
          have t2 := hR.c2
          have t3 := hR.c3
          have t4 := hR.c4
          have hSS := ((HS3.out.below (lat_bel HT3.out.bel.size z4))).fiveSet (HT3.out.lat z4).e y.ep y.ot y.fi y.wa (.slice A y.out.length c)
          have hfin := RTakeEnd.mk2 (w := w) (ep := y.ep) (ot := y.ot) (fi := y.fi) (wa := y.wa) (out := y.out) (pc := []) (has := false) (rp := AK) (an := false) (A := A) (c := c) hr.out hSS (by rw [fiveSet_size]; exact (HT3.out.lat z4).bel.size) hE
          unfold fiveSet at t0 t1 t2 t3 t4 hfin
          exact bodyPost_ret (v := .tuple #[.agg #[.int .i64 y.ep, .int .i64 y.ot, .int .i64 y.fi, .int .i64 (y.wa), .slice A y.out.length c], .string (str []), .bool false, .string (str AK), .bool false]) (by simp [results, Try.results22, go_sem, str_none, t0, t1, t2, t3, t4]) rfl hfin
      have hq : ((n1 : Int) != y.ep) = false := by simpa using h1
      have h1' : ¬ (n1 : Int) ≠ y.ep := fun e => e (h1.trans MEP.out)
      replace HR2 := Lib.hid (HR2.out h1')
      replace HR3 := Lib.hid (HR3.out h1')
      replace HR4 := Lib.hid (HR4.out h1')
      have hok3 := (acked_ok3 HOky.out.ok3 (n3 : Int)).1
      have HNy := Lib.hid (fun h => @ackedX_no y (n3 : Int) h)
      have HYy := Lib.hid (fun h => @ackedX_yes y (n3 : Int) h)
      have HZ3 := Lib.hid hok3
      clear HR1 h1 hok3 h1' MEP
      generalize ackedX y (n3 : Int) = z at *
      have hyf1 := HOky.out.f1
      have hyf2 := HOky.out.f2
      have hyl := HOky.out.len
      have hwn : IntKind.i64.wrap ((n3 : Int) - y.fi) = (n3 : Int) - y.fi := by rw [IntKind.wrap_i64]; omega
      go_upto_region 12 with fail
      clear y0 y1 y2 y3 y4 q0 q1 q2 x0 x1 x3 yf hq
      go_cut [13, 76] from 68 to 86 (fun v13 v76 wx => v13 = .int .i64 ((n3 : Int) - y.fi) ∧ v76 = .bool (decide ((0 : Int) ≤ (n3 : Int) - y.fi ∧ (n3 : Int) - y.fi ≤ (y.out.length : Int))) ∧ wx = W1)
      case first =>
        by_cases ha : (0 : Int) ≤ (n3 : Int) - y.fi
        case neg =>
          go_wp2_with fail
          go_meet
          case rel => exact ⟨rfl, congrArg Value.bool (decide_eq_false (by omega)).symm, rfl⟩
        by_cases hb : (n3 : Int) - y.fi ≤ (y.out.length : Int)
        case neg =>
          go_wp2_with fail
          go_meet
          case rel => exact ⟨rfl, congrArg Value.bool (decide_eq_false (by omega)).symm, rfl⟩
        go_wp2_with fail
        go_meet
        case rel => exact ⟨rfl, congrArg Value.bool (decide_eq_true (by omega)).symm, rfl⟩
      case rest =>
      obtain ⟨rfl, rfl, hwc⟩ := hcut
      rw [hwc]
      clear hwc
      clear x2 x4 q3 xf
      have x0 := HT3.out.p.c0
      have x1 := HT3.out.p.c1
      have x2 := HT3.out.p.c2
      have x3 := HT3.out.p.c3
      have x4 := HT3.out.p.c4
      have y0 := HT3.out.e.c0
      have y1 := HT3.out.e.c1
      have y2 := HT3.out.e.c2
      have y3 := HT3.out.e.c3
      have y4 := HT3.out.e.c4
      have q0 := HQ3.out.c0
      have q1 := HQ3.out.c1
      have q2 := HQ3.out.c2
      have q3 := HQ3.out.c3
      have xf := HT3.out.p.fr
      have yf := HT3.out.e.fr
      go_upto_if 76 with fail
      go_cut [13, 14] from 54 to 86 (fun v13 v14 wx => v13 = .int .i64 ((n3 : Int) - y.fi) ∧ Hid (∃ (A2 : Option Addr) (a2 : Nat), RkAt w wx (.int .i64 z.ep) (.int .i64 z.ot) (.int .i64 z.fi) (.int .i64 z.wa) (.slice A2 z.out.length a2) ∧ Strs wx wx.heap.size A2 z.out ∧ Quad wx C (.int .i64 n0) (.int .i64 n1) (.int .i64 n2) (.int .i64 n3) 68))
      case first =>
        by_cases hab : (0 : Int) ≤ (n3 : Int) - y.fi ∧ (n3 : Int) - y.fi ≤ (y.out.length : Int)
        case neg =>
          rw [decide_eq_false hab]
          have HZz := Lib.hid (HNy.out (by omega))
          go_wp2_with fail
          go_meet
          case rel => exact ⟨rfl, Lib.hid (by rw [HZz.out]; exact ⟨_, _, HT3.out, HS3.out.more HT3.out.bel.size, HQ3.out⟩)⟩
        rw [decide_eq_true hab]
        obtain ⟨ha, hb⟩ := hab
        have hz := HYy.out (by omega)
        obtain ⟨m, hm⟩ : ∃ m : Nat, (n3 : Int) - y.fi = (m : Nat) := ⟨n3 - y.fi.toNat, by omega⟩
        rw [hm] at ha hb hwn
        rw [hm, Int.toNat_natCast] at hz
        rw [hm]
        have hml : m ≤ y.out.length := by omega
        have hwm : IntKind.i64.wrap (m : Int) = (m : Int) := by rw [IntKind.wrap_i64]; omega
        have HLn : Hid ((y.out.drop m).length = y.out.length - m) := Lib.hid List.length_drop
        by_cases hcm : c = m
        case pos =>
          subst hcm
          have HD : Hid (∀ W, Strs W w.heap.size A y.out → Strs W w.heap.size A (y.out.drop c) ∧ ((A : Option Addr) = none → 0 = 0)) := Lib.hid (fun W hW => ⟨.inl (List.eq_nil_of_length_eq_zero (by rw [List.length_drop]; have := HC1.out; omega)), fun _ => rfl⟩)
          obtain ⟨d1, d2⟩ := HD.out _ (HS3.out.below (Below.refl _ _).drew)
          have HLi := Lib.hid d1.toLies
          have HNl := Lib.hid d2
          obtain ⟨i0, hi0, hz0, hz1, hz2⟩ := info_parts Try.infoStr
          have HXl : Hid (((y.out.drop c).map txt).length = (y.out.length - c) * 1) := Lib.hid (by rw [List.length_map, HLn.out, Nat.mul_one])
          have HX1 := Lib.hid (map_txt_one (y.out.drop c))
          have hsz : w.heap.size ≤ W1.drew.heap.size := HT3.out.bel.size
          have hfit : 0 + (y.out.length - c) ≤ maxLen := by unfold maxLen; omega
          have hfit2 : (0 + (y.out.length - c)) * 16 ≤ 140737488355328 := by omega
          have HFm : Hid (∀ (A5 : Option Addr) (c5 : Nat) (W : World), W.ownsRow W1.heap.size 9 1 (.slice A5 (0 + (y.out.length - c)) c5) (0 + (y.out.length - c)) ([] ++ (y.out.drop c).map txt) → Strs W W.heap.size A5 (y.out.drop c)) := Lib.hid (fun A5 c5 W ho => by
            rw [List.nil_append] at ho
            obtain ⟨A6, c6, hv6, _, hs6⟩ := own_strs ho
            injection hv6 with e1 e2 e3
            rw [e1]; exact hs6)
          have HZz := Lib.hid hz
          have HM := Lib.hid hm
          clear HC1 HN1 HS3 hyf1 hyf2 HNy HYy hz d1 d2
          go_upto_region 14 with fail
          go_region_law (refine step_append_rows (by rfl) (.tmp 77) (.tmp 81) 22 (by rfl) W1.heap.size 9 i0 (.string ⟨#[]⟩) 1 16 Try.underlying22 hi0 hz0 hz1 hz2 rfl (by decide) (.slice none 0 0) 0 [] (by rfl) (World.ownsRow_nil _ _ _ _) A (y.out.length - c) 0 ((y.out.drop c).map txt) (by rfl) HXl.out w.heap.size HLi.out HNl.out HX1.out hfit hfit2 (Nat.le_refl _) ?_; intro A5 c5 w6 ho6 hg6; have HB6 : Hid (Below W1.heap.size W1 w6) := Lib.hid ((Below.refl W1.heap.size W1).drew.grown hg6 (Nat.le_refl _) (fun q hq => (by cases hq))); have HT6 := Lib.hid (HT3.out.later HB6.out); have HQ6 := Lib.hid (HQ3.out.below HB6.out); have HO6 := Lib.hid ho6; clear ho6 hg6; have x2 := HT6.out.p.c2; have x4 := HT6.out.p.c4; have xf := HT6.out.p.fr; have q3 := HQ6.out.c3)
          all_goals
            clear x2 x4 xf q3
            go_wp2_with fail
            go_meet
            case rel =>
              have hS9 := HFm.out _ _ _ HO6.out
              refine ⟨by rw [HM.out], Lib.hid ?_⟩
              rw [HZz.out]
              refine ⟨A5, c5, ?_, ?_, ?_⟩
              · have := (HT6.out.set4 (.slice A5 (y.out.length - c) c5)).set2 (.int .i64 n3)
                rw [← HLn.out] at this ⊢
                exact this
              · have := ((hS9.far5 HT6.out.p 4 (.slice A5 (y.out.length - c) c5)).far5 (HT6.out.p.set4 (.slice A5 (y.out.length - c) c5)) 2 (.int .i64 n3))
                exact this.more (by simp [World.setCell])
              · exact ((HQ6.out.far (p := ⟨w.heap.size, 4, none⟩) (by show C ≠ w.heap.size; omega) _).far (p := ⟨w.heap.size, 2, none⟩) (by show C ≠ w.heap.size; omega) _)
        have HD : Hid (∀ W, Strs W w.heap.size A y.out → Strs W w.heap.size (Option.map (fun q => q.add m) A) (y.out.drop m) ∧ (((Option.map (fun q => q.add m) A) : Option Addr) = none → (c - m) = 0)) := Lib.hid (fun W hW => ⟨hW.drop m, fun e => by
          cases hAA : A with
          | none => have := HN1.out hAA; omega
          | some q => rw [hAA] at e; cases e⟩)
        obtain ⟨d1, d2⟩ := HD.out _ (HS3.out.below (Below.refl _ _).drew)
        have HLi := Lib.hid d1.toLies
        have HNl := Lib.hid d2
        obtain ⟨i0, hi0, hz0, hz1, hz2⟩ := info_parts Try.infoStr
        have HXl : Hid (((y.out.drop m).map txt).length = (y.out.length - m) * 1) := Lib.hid (by rw [List.length_map, HLn.out, Nat.mul_one])
        have HX1 := Lib.hid (map_txt_one (y.out.drop m))
        have hsz : w.heap.size ≤ W1.drew.heap.size := HT3.out.bel.size
        have hfit : 0 + (y.out.length - m) ≤ maxLen := by unfold maxLen; omega
        have hfit2 : (0 + (y.out.length - m)) * 16 ≤ 140737488355328 := by omega
        have HFm : Hid (∀ (A5 : Option Addr) (c5 : Nat) (W : World), W.ownsRow W1.heap.size 9 1 (.slice A5 (0 + (y.out.length - m)) c5) (0 + (y.out.length - m)) ([] ++ (y.out.drop m).map txt) → Strs W W.heap.size A5 (y.out.drop m)) := Lib.hid (fun A5 c5 W ho => by
          rw [List.nil_append] at ho
          obtain ⟨A6, c6, hv6, _, hs6⟩ := own_strs ho
          injection hv6 with e1 e2 e3
          rw [e1]; exact hs6)
        have HZz := Lib.hid hz
        have HM := Lib.hid hm
        clear HC1 HN1 HS3 hyf1 hyf2 HNy HYy hz d1 d2
        go_upto_region 14 with fail
        go_region_law (refine step_append_rows (by rfl) (.tmp 77) (.tmp 81) 22 (by rfl) W1.heap.size 9 i0 (.string ⟨#[]⟩) 1 16 Try.underlying22 hi0 hz0 hz1 hz2 rfl (by decide) (.slice none 0 0) 0 [] (by rfl) (World.ownsRow_nil _ _ _ _) (Option.map (fun q => q.add m) A) (y.out.length - m) (c - m) ((y.out.drop m).map txt) (by rfl) HXl.out w.heap.size HLi.out HNl.out HX1.out hfit hfit2 (Nat.le_refl _) ?_; intro A5 c5 w6 ho6 hg6; have HB6 : Hid (Below W1.heap.size W1 w6) := Lib.hid ((Below.refl W1.heap.size W1).drew.grown hg6 (Nat.le_refl _) (fun q hq => (by cases hq))); have HT6 := Lib.hid (HT3.out.later HB6.out); have HQ6 := Lib.hid (HQ3.out.below HB6.out); have HO6 := Lib.hid ho6; clear ho6 hg6; have x2 := HT6.out.p.c2; have x4 := HT6.out.p.c4; have xf := HT6.out.p.fr; have q3 := HQ6.out.c3)
        all_goals
          clear x2 x4 xf q3
          go_wp2_with fail
          go_meet
          case rel =>
            have hS9 := HFm.out _ _ _ HO6.out
            refine ⟨by rw [HM.out], Lib.hid ?_⟩
            rw [HZz.out]
            refine ⟨A5, c5, ?_, ?_, ?_⟩
            · have := (HT6.out.set4 (.slice A5 (y.out.length - m) c5)).set2 (.int .i64 n3)
              rw [← HLn.out] at this ⊢
              exact this
            · have := ((hS9.far5 HT6.out.p 4 (.slice A5 (y.out.length - m) c5)).far5 (HT6.out.p.set4 (.slice A5 (y.out.length - m) c5)) 2 (.int .i64 n3))
              exact this.more (by simp [World.setCell])
            · exact ((HQ6.out.far (p := ⟨w.heap.size, 4, none⟩) (by show C ≠ w.heap.size; omega) _).far (p := ⟨w.heap.size, 2, none⟩) (by show C ≠ w.heap.size; omega) _)
      case rest =>
      clear x0 x1 x2 x3 x4 y0 y1 y2 y3 y4 q0 q1 q2 q3 xf yf HT3 HQ3 HS3 HN1 HC1 HNy HYy hwn hyf1 hyf2 hyl HOky
      obtain ⟨rfl, HH⟩ := hcut
      obtain ⟨A2, a2, hT4, hS4, hQ4⟩ := HH.out
      have HT4 := Lib.hid hT4
      have HS4 := Lib.hid hS4
      have HQ4 := Lib.hid hQ4
      clear HH hT4 hS4 hQ4
      have x0 := HT4.out.p.c0
      have x1 := HT4.out.p.c1
      have x2 := HT4.out.p.c2
      have x3 := HT4.out.p.c3
      have x4 := HT4.out.p.c4
      have y0 := HT4.out.e.c0
      have y1 := HT4.out.e.c1
      have y2 := HT4.out.e.c2
      have y3 := HT4.out.e.c3
      have y4 := HT4.out.e.c4
      have q0 := HQ4.out.c0
      have q1 := HQ4.out.c1
      have q2 := HQ4.out.c2
      have q3 := HQ4.out.c3
      have xf := HT4.out.p.fr
      have yf := HT4.out.e.fr
      by_cases hk : kd = 2
      case pos =>
        have hr := Lib.hid (HR2.out hk)
        have hkq2 : ((kd : Int) == 2) = true := by rw [beq_iff_eq]; omega
        clear HR2 HR3 HR4 hk hkd
        go_wp2_with fail
        obtain ⟨hR, hE⟩ := (HT4.out).fin (.int .i64 z.ep) (.int .i64 z.ot) (.int .i64 z.fi) (.int .i64 z.wa) (.slice A2 z.out.length a2)
        have t0 := hR.c0
        have t1 := hR.c1
        have t2 := hR.c2
        have t3 := hR.c3
        have t4 := hR.c4
        have hSS := (HS4.out).fiveSet (HT4.out).e z.ep z.ot z.fi z.wa (.slice A2 z.out.length a2)
        have hfin := RTakeEnd.mk2 (w := w) (ep := z.ep) (ot := z.ot) (fi := z.fi) (wa := z.wa) (out := z.out) (pc := []) (has := false) (rp := []) (an := false) (A := A2) (c := a2) hr.out hSS (by rw [fiveSet_size]; exact Nat.le_refl _) hE
        unfold fiveSet at t0 t1 t2 t3 t4 hfin
        exact bodyPost_ret (v := .tuple #[.agg #[.int .i64 z.ep, .int .i64 z.ot, .int .i64 z.fi, .int .i64 (z.wa), .slice A2 z.out.length a2], .string (str []), .bool false, .string (str []), .bool false]) (by simp [results, Try.results22, go_sem, str_none, t0, t1, t2, t3, t4]) rfl hfin
      have hkq2 : ((kd : Int) == 2) = false := by rw [beq_eq_false_iff_ne]; omega
      replace HR3 := Lib.hid (HR3.out hk)
      replace HR4 := Lib.hid (HR4.out hk)
      clear HR2 hk hkd
      by_cases h3 : (n2 : Int) = z.wa
      case neg =>
        have hq3 : ((n2 : Int) == z.wa) = false := beq_eq_false_iff_ne.2 h3
        have hr := Lib.hid (HR4.out (fun e => h3 e.1))
        clear HR3 HR4
        go_upto_region 19 with fail
        clear x0 x1 x2 x3 x4 y0 y1 y2 y3 y4 q0 q1 q2 q3 xf yf
        have HAk := Lib.hid (fun W => RPacket_any (z) A2 a2 2 0 [] W HZ3.out (.inr rfl) (by omega) (by omega) (by simp))
        have HAk2 : Hid (∀ W, Calls Try.prog 38 #[.agg #[.int .i64 z.ep, .int .i64 z.ot, .int .i64 z.fi, .int .i64 (z.wa), .slice A2 z.out.length a2], .int .i64 2, .int .i64 0, .string ⟨#[]⟩] W fun e w' => e = .returned (.string (str (ackB (z)))) ∧ Below W.heap.size W w') := Lib.hid (fun W => HAk.out W)
        obtain ⟨AK, hAK⟩ : ∃ AK, ackB (z) = AK := ⟨_, rfl⟩
        rw [hAK] at HAk2 hr
        clear hAK HAk
        have y0 := fun z : LatW wc => (HT4.out.lat z).e.c0
        have y1 := fun z : LatW wc => (HT4.out.lat z).e.c1
        have y2 := fun z : LatW wc => (HT4.out.lat z).e.c2
        have y3 := fun z : LatW wc => (HT4.out.lat z).e.c3
        have y4 := fun z : LatW wc => (HT4.out.lat z).e.c4
        have yf := fun z : LatW wc => (HT4.out.lat z).e.fr
        have hd0 := HT4.out.p.drew.all
        have HLz := Lib.hid (fun z : LatW wc => (HT4.out.lat z).p.all)
        have hne1 : w.heap.size ≠ w.heap.size + 1 := by omega
        have HLe := Lib.hid (fun zz : LatW wc => ((HT4.out.lat zz).p.farSet hne1 (.int .i64 z.ep) (.int .i64 z.ot) (.int .i64 z.fi) (.int .i64 z.wa) (.slice A2 z.out.length a2)).all)
        unfold fiveSet at HLe
        go_region_held3 (fun w' => w'.cell? ⟨w.heap.size, 0, none⟩ = some (.int .i64 z.ep) ∧ w'.cell? ⟨w.heap.size, 1, none⟩ = some (.int .i64 z.ot) ∧ w'.cell? ⟨w.heap.size, 2, none⟩ = some (.int .i64 z.fi) ∧ w'.cell? ⟨w.heap.size, 3, none⟩ = some (.int .i64 z.wa) ∧ w'.cell? ⟨w.heap.size, 4, none⟩ = some (.slice A2 z.out.length a2)) (first | with_reducible exact HLz.out z4 | with_reducible exact hd0 | with_reducible exact HLe.out z4 | fail) (first | (go_at_call 38; refine (HAk2.out _).mono ?_; rintro e w8 ⟨rfl, hb8⟩; obtain ⟨z4, hz4⟩ := LatW.later (LatW.first wc) hb8; subst hz4; clear hb8) | fail)
        all_goals
          go_wp2_with fail
          obtain ⟨hR, hE⟩ := (HT4.out.lat z4).fin (.int .i64 z.ep) (.int .i64 z.ot) (.int .i64 z.fi) (.int .i64 z.wa) (.slice A2 z.out.length a2)
          have t0 := hR.c0
          have t1 := hR.c1
          have t2 := hR.c2
          have t3 := hR.c3
          have t4 := hR.c4
          have hSS := ((HS4.out.below z4.bel)).fiveSet (HT4.out.lat z4).e z.ep z.ot z.fi z.wa (.slice A2 z.out.length a2)
          have hfin := RTakeEnd.mk2 (w := w) (ep := z.ep) (ot := z.ot) (fi := z.fi) (wa := z.wa) (out := z.out) (pc := []) (has := false) (rp := AK) (an := false) (A := A2) (c := a2) hr.out hSS (by rw [fiveSet_size]; exact z4.bel.size) hE
          unfold fiveSet at t0 t1 t2 t3 t4 hfin
          exact bodyPost_ret (v := .tuple #[.agg #[.int .i64 z.ep, .int .i64 z.ot, .int .i64 z.fi, .int .i64 (z.wa), .slice A2 z.out.length a2], .string (str []), .bool false, .string (str AK), .bool false]) (by simp [results, Try.results22, go_sem, str_none, t0, t1, t2, t3, t4]) rfl hfin
      have hq3 : ((n2 : Int) == z.wa) = true := beq_iff_eq.2 h3
      by_cases h4 : z.wa < 1099511627776
      case neg =>
        have hr := Lib.hid (HR4.out (fun e => h4 e.2))
        clear HR3 HR4
        go_upto_region 19 with fail
        clear x0 x1 x2 x3 x4 y0 y1 y2 y3 y4 q0 q1 q2 q3 xf yf
        have HAk := Lib.hid (fun W => RPacket_any (z) A2 a2 2 0 [] W HZ3.out (.inr rfl) (by omega) (by omega) (by simp))
        have HAk2 : Hid (∀ W, Calls Try.prog 38 #[.agg #[.int .i64 z.ep, .int .i64 z.ot, .int .i64 z.fi, .int .i64 (z.wa), .slice A2 z.out.length a2], .int .i64 2, .int .i64 0, .string ⟨#[]⟩] W fun e w' => e = .returned (.string (str (ackB (z)))) ∧ Below W.heap.size W w') := Lib.hid (fun W => HAk.out W)
        obtain ⟨AK, hAK⟩ : ∃ AK, ackB (z) = AK := ⟨_, rfl⟩
        rw [hAK] at HAk2 hr
        clear hAK HAk
        have y0 := fun z : LatW wc => (HT4.out.lat z).e.c0
        have y1 := fun z : LatW wc => (HT4.out.lat z).e.c1
        have y2 := fun z : LatW wc => (HT4.out.lat z).e.c2
        have y3 := fun z : LatW wc => (HT4.out.lat z).e.c3
        have y4 := fun z : LatW wc => (HT4.out.lat z).e.c4
        have yf := fun z : LatW wc => (HT4.out.lat z).e.fr
        have hd0 := HT4.out.p.drew.all
        have HLz := Lib.hid (fun z : LatW wc => (HT4.out.lat z).p.all)
        have hne1 : w.heap.size ≠ w.heap.size + 1 := by omega
        have HLe := Lib.hid (fun zz : LatW wc => ((HT4.out.lat zz).p.farSet hne1 (.int .i64 z.ep) (.int .i64 z.ot) (.int .i64 z.fi) (.int .i64 z.wa) (.slice A2 z.out.length a2)).all)
        unfold fiveSet at HLe
        go_region_held3 (fun w' => w'.cell? ⟨w.heap.size, 0, none⟩ = some (.int .i64 z.ep) ∧ w'.cell? ⟨w.heap.size, 1, none⟩ = some (.int .i64 z.ot) ∧ w'.cell? ⟨w.heap.size, 2, none⟩ = some (.int .i64 z.fi) ∧ w'.cell? ⟨w.heap.size, 3, none⟩ = some (.int .i64 z.wa) ∧ w'.cell? ⟨w.heap.size, 4, none⟩ = some (.slice A2 z.out.length a2)) (first | with_reducible exact HLz.out z4 | with_reducible exact hd0 | with_reducible exact HLe.out z4 | fail) (first | (go_at_call 38; refine (HAk2.out _).mono ?_; rintro e w8 ⟨rfl, hb8⟩; obtain ⟨z4, hz4⟩ := LatW.later (LatW.first wc) hb8; subst hz4; clear hb8) | fail)
        all_goals
          go_wp2_with fail
          obtain ⟨hR, hE⟩ := (HT4.out.lat z4).fin (.int .i64 z.ep) (.int .i64 z.ot) (.int .i64 z.fi) (.int .i64 z.wa) (.slice A2 z.out.length a2)
          have t0 := hR.c0
          have t1 := hR.c1
          have t2 := hR.c2
          have t3 := hR.c3
          have t4 := hR.c4
          have hSS := ((HS4.out.below z4.bel)).fiveSet (HT4.out.lat z4).e z.ep z.ot z.fi z.wa (.slice A2 z.out.length a2)
          have hfin := RTakeEnd.mk2 (w := w) (ep := z.ep) (ot := z.ot) (fi := z.fi) (wa := z.wa) (out := z.out) (pc := []) (has := false) (rp := AK) (an := false) (A := A2) (c := a2) hr.out hSS (by rw [fiveSet_size]; exact z4.bel.size) hE
          unfold fiveSet at t0 t1 t2 t3 t4 hfin
          exact bodyPost_ret (v := .tuple #[.agg #[.int .i64 z.ep, .int .i64 z.ot, .int .i64 z.fi, .int .i64 (z.wa), .slice A2 z.out.length a2], .string (str []), .bool false, .string (str AK), .bool false]) (by simp [results, Try.results22, go_sem, str_none, t0, t1, t2, t3, t4]) rfl hfin
      have hr := Lib.hid (HR3.out ⟨h3, h4⟩)
      have hw1 := HZ3.out.w1
      have HZ4 : Hid (LEnd.Ok3 { z with wa := z.wa + 1 }) := Lib.hid ⟨HZ3.out.e1, HZ3.out.e2, HZ3.out.o1, HZ3.out.o2, by show 1 ≤ z.wa + 1; omega, by show z.wa + 1 ≤ _; omega⟩
      have hwz : IntKind.i64.wrap (z.wa + 1) = z.wa + 1 := by rw [IntKind.wrap_i64]; omega
      clear HR3 HR4 h3
      go_upto_region 21 with fail
      have HT5 := Lib.hid (HT4.out.set3 (.int .i64 (z.wa + 1)))
      have HS5 := Lib.hid ((HS4.out.far5 HT4.out.p 3 (.int .i64 (z.wa + 1))).more (B' := (wc.setCell ⟨w.heap.size, 3, none⟩ (.int .i64 (z.wa + 1))).heap.size) (by simp [World.setCell]))
      clear x0 x1 x2 x3 x4 y0 y1 y2 y3 y4 q0 q1 q2 q3 xf yf HT4 HS4 HQ4
      generalize wc.setCell ⟨w.heap.size, 3, none⟩ (.int .i64 (z.wa + 1)) = W5 at *
      have HAk := Lib.hid (fun W => RPacket_any ({ z with wa := z.wa + 1 }) A2 a2 2 0 [] W HZ4.out (.inr rfl) (by omega) (by omega) (by simp))
      have HAk2 : Hid (∀ W, Calls Try.prog 38 #[.agg #[.int .i64 z.ep, .int .i64 z.ot, .int .i64 z.fi, .int .i64 (z.wa + 1), .slice A2 z.out.length a2], .int .i64 2, .int .i64 0, .string ⟨#[]⟩] W fun e w' => e = .returned (.string (str (ackB ({ z with wa := z.wa + 1 })))) ∧ Below W.heap.size W w') := Lib.hid (fun W => HAk.out W)
      obtain ⟨AK, hAK⟩ : ∃ AK, ackB ({ z with wa := z.wa + 1 }) = AK := ⟨_, rfl⟩
      rw [hAK] at HAk2 hr
      clear hAK HAk
      have y0 := fun z : LatW W5 => (HT5.out.lat z).e.c0
      have y1 := fun z : LatW W5 => (HT5.out.lat z).e.c1
      have y2 := fun z : LatW W5 => (HT5.out.lat z).e.c2
      have y3 := fun z : LatW W5 => (HT5.out.lat z).e.c3
      have y4 := fun z : LatW W5 => (HT5.out.lat z).e.c4
      have yf := fun z : LatW W5 => (HT5.out.lat z).e.fr
      have hd0 := HT5.out.p.drew.all
      have HLz := Lib.hid (fun z : LatW W5 => (HT5.out.lat z).p.all)
      have hne1 : w.heap.size ≠ w.heap.size + 1 := by omega
      have HLe := Lib.hid (fun zz : LatW W5 => ((HT5.out.lat zz).p.farSet hne1 (.int .i64 z.ep) (.int .i64 z.ot) (.int .i64 z.fi) (.int .i64 (z.wa + 1)) (.slice A2 z.out.length a2)).all)
      unfold fiveSet at HLe
      go_region_held3 (fun w' => w'.cell? ⟨w.heap.size, 0, none⟩ = some (.int .i64 z.ep) ∧ w'.cell? ⟨w.heap.size, 1, none⟩ = some (.int .i64 z.ot) ∧ w'.cell? ⟨w.heap.size, 2, none⟩ = some (.int .i64 z.fi) ∧ w'.cell? ⟨w.heap.size, 3, none⟩ = some (.int .i64 (z.wa + 1)) ∧ w'.cell? ⟨w.heap.size, 4, none⟩ = some (.slice A2 z.out.length a2)) (first | with_reducible exact HLz.out z4 | with_reducible exact hd0 | with_reducible exact HLe.out z4 | fail) (first | (go_at_call 38; refine (HAk2.out _).mono ?_; rintro e w8 ⟨rfl, hb8⟩; obtain ⟨z4, hz4⟩ := LatW.later (LatW.first W5) hb8; subst hz4; clear hb8) | fail)
      all_goals
        go_wp2_with fail
        obtain ⟨hR, hE⟩ := (HT5.out.lat z4).fin (.int .i64 z.ep) (.int .i64 z.ot) (.int .i64 z.fi) (.int .i64 (z.wa + 1)) (.slice A2 z.out.length a2)
        have t0 := hR.c0
        have t1 := hR.c1
        have t2 := hR.c2
        have t3 := hR.c3
        have t4 := hR.c4
        have hSS := ((HS5.out.below z4.bel)).fiveSet (HT5.out.lat z4).e z.ep z.ot z.fi (z.wa + 1) (.slice A2 z.out.length a2)
        have hfin := RTakeEnd.mk2 (w := w) (ep := z.ep) (ot := z.ot) (fi := z.fi) (wa := z.wa + 1) (out := z.out) (pc := pc) (has := true) (rp := AK) (an := false) (A := A2) (c := a2) hr.out hSS (by rw [fiveSet_size]; exact z4.bel.size) hE
        unfold fiveSet at t0 t1 t2 t3 t4 hfin
        exact bodyPost_ret (v := .tuple #[.agg #[.int .i64 z.ep, .int .i64 z.ot, .int .i64 z.fi, .int .i64 (z.wa + 1), .slice A2 z.out.length a2], .string (str pc), .bool true, .string (str AK), .bool false]) (by simp [results, Try.results22, go_sem, t0, t1, t2, t3, t4]) rfl hfin
    have g4 : x.ot < (n0 : Int) := by omega
    by_cases g5 : x.ot = 0
    case pos =>
      have hy := HM1.out g4 g5
      subst hy
      have han : an = false := by rw [← HAn.out, decide_eq_false_iff_not]; omega
      subst han
      have g6 : ¬ (0 : Int) < x.ot := by omega
      clear g5
      go_upto_region 9 with fail
      have HT3 := Lib.hid ((HT1.out.set1 (.int .i64 n0)).set3 (.int .i64 1))
      have HQ3 := Lib.hid ((HQ.out.far (p := ⟨w.heap.size, 1, none⟩) (by show C ≠ w.heap.size; omega) (.int .i64 n0)).far (p := ⟨w.heap.size, 3, none⟩) (by show C ≠ w.heap.size; omega) (.int .i64 1))
      have HS3 := Lib.hid ((HS1.out.below ((Below.refl w.heap.size _).setCell (p := ⟨w.heap.size, 1, none⟩) (Nat.le_refl _) (.int .i64 n0))).below ((Below.refl w.heap.size _).setCell (p := ⟨w.heap.size, 3, none⟩) (Nat.le_refl _) (.int .i64 1)))
      have HN1 := HN
      have HC1 := HC
      clear x0 x1 x2 x3 x4 y0 y1 y2 y3 y4 q0 q1 q2 q3 xf yf g3 HM0 HM1 HM2 HS1 HT1 HQ HAn HN HC
      generalize (W1.setCell ⟨w.heap.size, 1, none⟩ (.int .i64 n0)).setCell ⟨w.heap.size, 3, none⟩ (.int .i64 1) = W3 at *
      obtain ⟨y, hy⟩ : ∃ y : LEnd, { x with ot := (n0 : Int), wa := 1 } = y := ⟨_, rfl⟩
      rw [hy] at HOky MEP HR1 HR2 HR3 HR4
      have HT3' : Hid (RkAt w W3 (.int .i64 y.ep) (.int .i64 y.ot) (.int .i64 y.fi) (.int .i64 y.wa) (.slice A y.out.length c)) := Lib.hid (by rw [← hy]; exact HT3.out)
      have HS3' : Hid (Strs W3 w.heap.size A y.out) := Lib.hid (by rw [← hy]; exact HS3.out)
      have HC1' : Hid (y.out.length ≤ c) := Lib.hid (by rw [← hy]; exact HC1.out)
      clear HT3 HS3 HC1 hy
      have HT3 := HT3'
      have HS3 := HS3'
      have HC1 := HC1'
      clear HT3' HS3' HC1'
      have x0 := HT3.out.p.c0
      have x1 := HT3.out.p.c1
      have x2 := HT3.out.p.c2
      have x3 := HT3.out.p.c3
      have x4 := HT3.out.p.c4
      have y0 := HT3.out.e.c0
      have y1 := HT3.out.e.c1
      have y2 := HT3.out.e.c2
      have y3 := HT3.out.e.c3
      have y4 := HT3.out.e.c4
      have q0 := HQ3.out.c0
      have q1 := HQ3.out.c1
      have q2 := HQ3.out.c2
      have q3 := HQ3.out.c3
      have xf := HT3.out.p.fr
      have yf := HT3.out.e.fr
      by_cases h1 : (n1 : Int) = y.ep
      case neg =>
        have hq : ((n1 : Int) != y.ep) = true := by simpa using h1
        have hr := Lib.hid (HR1.out (fun e => h1 (e.trans MEP.out.symm)))
        clear h1 HR1 HR2 HR3 HR4
        go_upto_region 10 with fail
        clear x0 x1 x2 x3 x4 y0 y1 y2 y3 y4 q0 q1 q2 q3 xf yf
        have HAk := Lib.hid (fun W => RPacket_any (y) A c 2 0 [] W HOky.out.ok3 (.inr rfl) (by omega) (by omega) (by simp))
        have HAk2 : Hid (∀ W, Calls Try.prog 38 #[.agg #[.int .i64 y.ep, .int .i64 y.ot, .int .i64 y.fi, .int .i64 (y.wa), .slice A y.out.length c], .int .i64 2, .int .i64 0, .string ⟨#[]⟩] W fun e w' => e = .returned (.string (str (ackB (y)))) ∧ Below W.heap.size W w') := Lib.hid (fun W => HAk.out W)
        obtain ⟨AK, hAK⟩ : ∃ AK, ackB (y) = AK := ⟨_, rfl⟩
        rw [hAK] at HAk2 hr
        clear hAK HAk
        have y0 := fun z : LatW W3 => (HT3.out.lat z).e.c0
        have y1 := fun z : LatW W3 => (HT3.out.lat z).e.c1
        have y2 := fun z : LatW W3 => (HT3.out.lat z).e.c2
        have y3 := fun z : LatW W3 => (HT3.out.lat z).e.c3
        have y4 := fun z : LatW W3 => (HT3.out.lat z).e.c4
        have yf := fun z : LatW W3 => (HT3.out.lat z).e.fr
        have hd0 := HT3.out.p.drew.all
        have HLz := Lib.hid (fun z : LatW W3 => (HT3.out.lat z).p.all)
        have hne1 : w.heap.size ≠ w.heap.size + 1 := by omega
        have HLe := Lib.hid (fun zz : LatW W3 => ((HT3.out.lat zz).p.farSet hne1 (.int .i64 y.ep) (.int .i64 y.ot) (.int .i64 y.fi) (.int .i64 y.wa) (.slice A y.out.length c)).all)
        unfold fiveSet at HLe
        go_region_held3 (fun w' => w'.cell? ⟨w.heap.size, 0, none⟩ = some (.int .i64 y.ep) ∧ w'.cell? ⟨w.heap.size, 1, none⟩ = some (.int .i64 y.ot) ∧ w'.cell? ⟨w.heap.size, 2, none⟩ = some (.int .i64 y.fi) ∧ w'.cell? ⟨w.heap.size, 3, none⟩ = some (.int .i64 y.wa) ∧ w'.cell? ⟨w.heap.size, 4, none⟩ = some (.slice A y.out.length c)) (first | with_reducible exact HLz.out z4 | with_reducible exact hd0 | with_reducible exact HLe.out z4 | fail) (first | (go_at_call 38; refine (HAk2.out _).mono ?_; rintro e w8 ⟨rfl, hb8⟩; obtain ⟨z4, hz4⟩ := LatW.later (LatW.first W3) hb8; subst hz4; clear hb8) | fail)
        all_goals
          go_wp2_with fail
          obtain ⟨hR, hE⟩ := (HT3.out.lat z4).fin (.int .i64 y.ep) (.int .i64 y.ot) (.int .i64 y.fi) (.int .i64 y.wa) (.slice A y.out.length c)
          have t0 := hR.c0
          have t1 := hR.c1
          have t2 := hR.c2
          have t3 := hR.c3
          have t4 := hR.c4
          have hSS := ((HS3.out.below (lat_bel HT3.out.bel.size z4))).fiveSet (HT3.out.lat z4).e y.ep y.ot y.fi y.wa (.slice A y.out.length c)
          have hfin := RTakeEnd.mk2 (w := w) (ep := y.ep) (ot := y.ot) (fi := y.fi) (wa := y.wa) (out := y.out) (pc := []) (has := false) (rp := AK) (an := false) (A := A) (c := c) hr.out hSS (by rw [fiveSet_size]; exact (HT3.out.lat z4).bel.size) hE
          unfold fiveSet at t0 t1 t2 t3 t4 hfin
          exact bodyPost_ret (v := .tuple #[.agg #[.int .i64 y.ep, .int .i64 y.ot, .int .i64 y.fi, .int .i64 (y.wa), .slice A y.out.length c], .string (str []), .bool false, .string (str AK), .bool false]) (by simp [results, Try.results22, go_sem, str_none, t0, t1, t2, t3, t4]) rfl hfin
      have hq : ((n1 : Int) != y.ep) = false := by simpa using h1
      have h1' : ¬ (n1 : Int) ≠ x.ep := fun e => e (h1.trans MEP.out)
      replace HR2 := Lib.hid (HR2.out h1')
      replace HR3 := Lib.hid (HR3.out h1')
      replace HR4 := Lib.hid (HR4.out h1')
      have hok3 := (acked_ok3 HOky.out.ok3 (n3 : Int)).1
      have HNy := Lib.hid (fun h => @ackedX_no y (n3 : Int) h)
      have HYy := Lib.hid (fun h => @ackedX_yes y (n3 : Int) h)
      have HZ3 := Lib.hid hok3
      clear HR1 h1 hok3 h1' MEP
      generalize ackedX y (n3 : Int) = z at *
      have hyf1 := HOky.out.f1
      have hyf2 := HOky.out.f2
      have hyl := HOky.out.len
      have hwn : IntKind.i64.wrap ((n3 : Int) - y.fi) = (n3 : Int) - y.fi := by rw [IntKind.wrap_i64]; omega
      go_upto_region 12 with fail
      clear y0 y1 y2 y3 y4 q0 q1 q2 x0 x1 x3 yf hq
      go_cut [13, 76] from 68 to 86 (fun v13 v76 wx => v13 = .int .i64 ((n3 : Int) - y.fi) ∧ v76 = .bool (decide ((0 : Int) ≤ (n3 : Int) - y.fi ∧ (n3 : Int) - y.fi ≤ (y.out.length : Int))) ∧ wx = W3)
      case first =>
        by_cases ha : (0 : Int) ≤ (n3 : Int) - y.fi
        case neg =>
          go_wp2_with fail
          go_meet
          case rel => exact ⟨rfl, congrArg Value.bool (decide_eq_false (by omega)).symm, rfl⟩
        by_cases hb : (n3 : Int) - y.fi ≤ (y.out.length : Int)
        case neg =>
          go_wp2_with fail
          go_meet
          case rel => exact ⟨rfl, congrArg Value.bool (decide_eq_false (by omega)).symm, rfl⟩
        go_wp2_with fail
        go_meet
        case rel => exact ⟨rfl, congrArg Value.bool (decide_eq_true (by omega)).symm, rfl⟩
      case rest =>
      obtain ⟨rfl, rfl, hwc⟩ := hcut
      rw [hwc]
      clear hwc
      clear x2 x4 q3 xf
      have x0 := HT3.out.p.c0
      have x1 := HT3.out.p.c1
      have x2 := HT3.out.p.c2
      have x3 := HT3.out.p.c3
      have x4 := HT3.out.p.c4
      have y0 := HT3.out.e.c0
      have y1 := HT3.out.e.c1
      have y2 := HT3.out.e.c2
      have y3 := HT3.out.e.c3
      have y4 := HT3.out.e.c4
      have q0 := HQ3.out.c0
      have q1 := HQ3.out.c1
      have q2 := HQ3.out.c2
      have q3 := HQ3.out.c3
      have xf := HT3.out.p.fr
      have yf := HT3.out.e.fr
      go_upto_if 76 with fail
      go_cut [13, 14] from 54 to 86 (fun v13 v14 wx => v13 = .int .i64 ((n3 : Int) - y.fi) ∧ Hid (∃ (A2 : Option Addr) (a2 : Nat), RkAt w wx (.int .i64 z.ep) (.int .i64 z.ot) (.int .i64 z.fi) (.int .i64 z.wa) (.slice A2 z.out.length a2) ∧ Strs wx wx.heap.size A2 z.out ∧ Quad wx C (.int .i64 n0) (.int .i64 n1) (.int .i64 n2) (.int .i64 n3) 68))
      case first =>
        by_cases hab : (0 : Int) ≤ (n3 : Int) - y.fi ∧ (n3 : Int) - y.fi ≤ (y.out.length : Int)
        case neg =>
          rw [decide_eq_false hab]
          have HZz := Lib.hid (HNy.out (by omega))
          go_wp2_with fail
          go_meet
          case rel => exact ⟨rfl, Lib.hid (by rw [HZz.out]; exact ⟨_, _, HT3.out, HS3.out.more HT3.out.bel.size, HQ3.out⟩)⟩
        rw [decide_eq_true hab]
        obtain ⟨ha, hb⟩ := hab
        have hz := HYy.out (by omega)
        obtain ⟨m, hm⟩ : ∃ m : Nat, (n3 : Int) - y.fi = (m : Nat) := ⟨n3 - y.fi.toNat, by omega⟩
        rw [hm] at ha hb hwn
        rw [hm, Int.toNat_natCast] at hz
        rw [hm]
        have hml : m ≤ y.out.length := by omega
        have hwm : IntKind.i64.wrap (m : Int) = (m : Int) := by rw [IntKind.wrap_i64]; omega
        have HLn : Hid ((y.out.drop m).length = y.out.length - m) := Lib.hid List.length_drop
        by_cases hcm : c = m
        case pos =>
          subst hcm
          have HD : Hid (∀ W, Strs W w.heap.size A y.out → Strs W w.heap.size A (y.out.drop c) ∧ ((A : Option Addr) = none → 0 = 0)) := Lib.hid (fun W hW => ⟨.inl (List.eq_nil_of_length_eq_zero (by rw [List.length_drop]; have := HC1.out; omega)), fun _ => rfl⟩)
          obtain ⟨d1, d2⟩ := HD.out _ (HS3.out.below (Below.refl _ _).drew)
          have HLi := Lib.hid d1.toLies
          have HNl := Lib.hid d2
          obtain ⟨i0, hi0, hz0, hz1, hz2⟩ := info_parts Try.infoStr
          have HXl : Hid (((y.out.drop c).map txt).length = (y.out.length - c) * 1) := Lib.hid (by rw [List.length_map, HLn.out, Nat.mul_one])
          have HX1 := Lib.hid (map_txt_one (y.out.drop c))
          have hsz : w.heap.size ≤ W3.drew.heap.size := HT3.out.bel.size
          have hfit : 0 + (y.out.length - c) ≤ maxLen := by unfold maxLen; omega
          have hfit2 : (0 + (y.out.length - c)) * 16 ≤ 140737488355328 := by omega
          have HFm : Hid (∀ (A5 : Option Addr) (c5 : Nat) (W : World), W.ownsRow W3.heap.size 9 1 (.slice A5 (0 + (y.out.length - c)) c5) (0 + (y.out.length - c)) ([] ++ (y.out.drop c).map txt) → Strs W W.heap.size A5 (y.out.drop c)) := Lib.hid (fun A5 c5 W ho => by
            rw [List.nil_append] at ho
            obtain ⟨A6, c6, hv6, _, hs6⟩ := own_strs ho
            injection hv6 with e1 e2 e3
            rw [e1]; exact hs6)
          have HZz := Lib.hid hz
          have HM := Lib.hid hm
          clear HC1 HN1 HS3 hyf1 hyf2 HNy HYy hz d1 d2
          go_upto_region 14 with fail
          go_region_law (refine step_append_rows (by rfl) (.tmp 77) (.tmp 81) 22 (by rfl) W3.heap.size 9 i0 (.string ⟨#[]⟩) 1 16 Try.underlying22 hi0 hz0 hz1 hz2 rfl (by decide) (.slice none 0 0) 0 [] (by rfl) (World.ownsRow_nil _ _ _ _) A (y.out.length - c) 0 ((y.out.drop c).map txt) (by rfl) HXl.out w.heap.size HLi.out HNl.out HX1.out hfit hfit2 (Nat.le_refl _) ?_; intro A5 c5 w6 ho6 hg6; have HB6 : Hid (Below W3.heap.size W3 w6) := Lib.hid ((Below.refl W3.heap.size W3).drew.grown hg6 (Nat.le_refl _) (fun q hq => (by cases hq))); have HT6 := Lib.hid (HT3.out.later HB6.out); have HQ6 := Lib.hid (HQ3.out.below HB6.out); have HO6 := Lib.hid ho6; clear ho6 hg6; have x2 := HT6.out.p.c2; have x4 := HT6.out.p.c4; have xf := HT6.out.p.fr; have q3 := HQ6.out.c3)
          all_goals
            clear x2 x4 xf q3
            go_wp2_with fail
            go_meet
            case rel =>
              have hS9 := HFm.out _ _ _ HO6.out
              refine ⟨by rw [HM.out], Lib.hid ?_⟩
              rw [HZz.out]
              refine ⟨A5, c5, ?_, ?_, ?_⟩
              · have := (HT6.out.set4 (.slice A5 (y.out.length - c) c5)).set2 (.int .i64 n3)
                rw [← HLn.out] at this ⊢
                exact this
              · have := ((hS9.far5 HT6.out.p 4 (.slice A5 (y.out.length - c) c5)).far5 (HT6.out.p.set4 (.slice A5 (y.out.length - c) c5)) 2 (.int .i64 n3))
                exact this.more (by simp [World.setCell])
              · exact ((HQ6.out.far (p := ⟨w.heap.size, 4, none⟩) (by show C ≠ w.heap.size; omega) _).far (p := ⟨w.heap.size, 2, none⟩) (by show C ≠ w.heap.size; omega) _)
        have HD : Hid (∀ W, Strs W w.heap.size A y.out → Strs W w.heap.size (Option.map (fun q => q.add m) A) (y.out.drop m) ∧ (((Option.map (fun q => q.add m) A) : Option Addr) = none → (c - m) = 0)) := Lib.hid (fun W hW => ⟨hW.drop m, fun e => by
          cases hAA : A with
          | none => have := HN1.out hAA; omega
          | some q => rw [hAA] at e; cases e⟩)
        obtain ⟨d1, d2⟩ := HD.out _ (HS3.out.below (Below.refl _ _).drew)
        have HLi := Lib.hid d1.toLies
        have HNl := Lib.hid d2
        obtain ⟨i0, hi0, hz0, hz1, hz2⟩ := info_parts Try.infoStr
        have HXl : Hid (((y.out.drop m).map txt).length = (y.out.length - m) * 1) := Lib.hid (by rw [List.length_map, HLn.out, Nat.mul_one])
        have HX1 := Lib.hid (map_txt_one (y.out.drop m))
        have hsz : w.heap.size ≤ W3.drew.heap.size := HT3.out.bel.size
        have hfit : 0 + (y.out.length - m) ≤ maxLen := by unfold maxLen; omega
        have hfit2 : (0 + (y.out.length - m)) * 16 ≤ 140737488355328 := by omega
        have HFm : Hid (∀ (A5 : Option Addr) (c5 : Nat) (W : World), W.ownsRow W3.heap.size 9 1 (.slice A5 (0 + (y.out.length - m)) c5) (0 + (y.out.length - m)) ([] ++ (y.out.drop m).map txt) → Strs W W.heap.size A5 (y.out.drop m)) := Lib.hid (fun A5 c5 W ho => by
          rw [List.nil_append] at ho
          obtain ⟨A6, c6, hv6, _, hs6⟩ := own_strs ho
          injection hv6 with e1 e2 e3
          rw [e1]; exact hs6)
        have HZz := Lib.hid hz
        have HM := Lib.hid hm
        clear HC1 HN1 HS3 hyf1 hyf2 HNy HYy hz d1 d2
        go_upto_region 14 with fail
        go_region_law (refine step_append_rows (by rfl) (.tmp 77) (.tmp 81) 22 (by rfl) W3.heap.size 9 i0 (.string ⟨#[]⟩) 1 16 Try.underlying22 hi0 hz0 hz1 hz2 rfl (by decide) (.slice none 0 0) 0 [] (by rfl) (World.ownsRow_nil _ _ _ _) (Option.map (fun q => q.add m) A) (y.out.length - m) (c - m) ((y.out.drop m).map txt) (by rfl) HXl.out w.heap.size HLi.out HNl.out HX1.out hfit hfit2 (Nat.le_refl _) ?_; intro A5 c5 w6 ho6 hg6; have HB6 : Hid (Below W3.heap.size W3 w6) := Lib.hid ((Below.refl W3.heap.size W3).drew.grown hg6 (Nat.le_refl _) (fun q hq => (by cases hq))); have HT6 := Lib.hid (HT3.out.later HB6.out); have HQ6 := Lib.hid (HQ3.out.below HB6.out); have HO6 := Lib.hid ho6; clear ho6 hg6; have x2 := HT6.out.p.c2; have x4 := HT6.out.p.c4; have xf := HT6.out.p.fr; have q3 := HQ6.out.c3)
        all_goals
          clear x2 x4 xf q3
          go_wp2_with fail
          go_meet
          case rel =>
            have hS9 := HFm.out _ _ _ HO6.out
            refine ⟨by rw [HM.out], Lib.hid ?_⟩
            rw [HZz.out]
            refine ⟨A5, c5, ?_, ?_, ?_⟩
            · have := (HT6.out.set4 (.slice A5 (y.out.length - m) c5)).set2 (.int .i64 n3)
              rw [← HLn.out] at this ⊢
              exact this
            · have := ((hS9.far5 HT6.out.p 4 (.slice A5 (y.out.length - m) c5)).far5 (HT6.out.p.set4 (.slice A5 (y.out.length - m) c5)) 2 (.int .i64 n3))
              exact this.more (by simp [World.setCell])
            · exact ((HQ6.out.far (p := ⟨w.heap.size, 4, none⟩) (by show C ≠ w.heap.size; omega) _).far (p := ⟨w.heap.size, 2, none⟩) (by show C ≠ w.heap.size; omega) _)
      case rest =>
      clear x0 x1 x2 x3 x4 y0 y1 y2 y3 y4 q0 q1 q2 q3 xf yf HT3 HQ3 HS3 HN1 HC1 HNy HYy hwn hyf1 hyf2 hyl HOky
      obtain ⟨rfl, HH⟩ := hcut
      obtain ⟨A2, a2, hT4, hS4, hQ4⟩ := HH.out
      have HT4 := Lib.hid hT4
      have HS4 := Lib.hid hS4
      have HQ4 := Lib.hid hQ4
      clear HH hT4 hS4 hQ4
      have x0 := HT4.out.p.c0
      have x1 := HT4.out.p.c1
      have x2 := HT4.out.p.c2
      have x3 := HT4.out.p.c3
      have x4 := HT4.out.p.c4
      have y0 := HT4.out.e.c0
      have y1 := HT4.out.e.c1
      have y2 := HT4.out.e.c2
      have y3 := HT4.out.e.c3
      have y4 := HT4.out.e.c4
      have q0 := HQ4.out.c0
      have q1 := HQ4.out.c1
      have q2 := HQ4.out.c2
      have q3 := HQ4.out.c3
      have xf := HT4.out.p.fr
      have yf := HT4.out.e.fr
      by_cases hk : kd = 2
      case pos =>
        have hr := Lib.hid (HR2.out hk)
        have hkq2 : ((kd : Int) == 2) = true := by rw [beq_iff_eq]; omega
        clear HR2 HR3 HR4 hk hkd
        go_wp2_with fail
        obtain ⟨hR, hE⟩ := (HT4.out).fin (.int .i64 z.ep) (.int .i64 z.ot) (.int .i64 z.fi) (.int .i64 z.wa) (.slice A2 z.out.length a2)
        have t0 := hR.c0
        have t1 := hR.c1
        have t2 := hR.c2
        have t3 := hR.c3
        have t4 := hR.c4
        have hSS := (HS4.out).fiveSet (HT4.out).e z.ep z.ot z.fi z.wa (.slice A2 z.out.length a2)
        have hfin := RTakeEnd.mk2 (w := w) (ep := z.ep) (ot := z.ot) (fi := z.fi) (wa := z.wa) (out := z.out) (pc := []) (has := false) (rp := []) (an := false) (A := A2) (c := a2) hr.out hSS (by rw [fiveSet_size]; exact Nat.le_refl _) hE
        unfold fiveSet at t0 t1 t2 t3 t4 hfin
        exact bodyPost_ret (v := .tuple #[.agg #[.int .i64 z.ep, .int .i64 z.ot, .int .i64 z.fi, .int .i64 (z.wa), .slice A2 z.out.length a2], .string (str []), .bool false, .string (str []), .bool false]) (by simp [results, Try.results22, go_sem, str_none, t0, t1, t2, t3, t4]) rfl hfin
      have hkq2 : ((kd : Int) == 2) = false := by rw [beq_eq_false_iff_ne]; omega
      replace HR3 := Lib.hid (HR3.out hk)
      replace HR4 := Lib.hid (HR4.out hk)
      clear HR2 hk hkd
      by_cases h3 : (n2 : Int) = z.wa
      case neg =>
        have hq3 : ((n2 : Int) == z.wa) = false := beq_eq_false_iff_ne.2 h3
        have hr := Lib.hid (HR4.out (fun e => h3 e.1))
        clear HR3 HR4
        go_upto_region 19 with fail
        clear x0 x1 x2 x3 x4 y0 y1 y2 y3 y4 q0 q1 q2 q3 xf yf
        have HAk := Lib.hid (fun W => RPacket_any (z) A2 a2 2 0 [] W HZ3.out (.inr rfl) (by omega) (by omega) (by simp))
        have HAk2 : Hid (∀ W, Calls Try.prog 38 #[.agg #[.int .i64 z.ep, .int .i64 z.ot, .int .i64 z.fi, .int .i64 (z.wa), .slice A2 z.out.length a2], .int .i64 2, .int .i64 0, .string ⟨#[]⟩] W fun e w' => e = .returned (.string (str (ackB (z)))) ∧ Below W.heap.size W w') := Lib.hid (fun W => HAk.out W)
        obtain ⟨AK, hAK⟩ : ∃ AK, ackB (z) = AK := ⟨_, rfl⟩
        rw [hAK] at HAk2 hr
        clear hAK HAk
        have y0 := fun z : LatW wc => (HT4.out.lat z).e.c0
        have y1 := fun z : LatW wc => (HT4.out.lat z).e.c1
        have y2 := fun z : LatW wc => (HT4.out.lat z).e.c2
        have y3 := fun z : LatW wc => (HT4.out.lat z).e.c3
        have y4 := fun z : LatW wc => (HT4.out.lat z).e.c4
        have yf := fun z : LatW wc => (HT4.out.lat z).e.fr
        have hd0 := HT4.out.p.drew.all
        have HLz := Lib.hid (fun z : LatW wc => (HT4.out.lat z).p.all)
        have hne1 : w.heap.size ≠ w.heap.size + 1 := by omega
        have HLe := Lib.hid (fun zz : LatW wc => ((HT4.out.lat zz).p.farSet hne1 (.int .i64 z.ep) (.int .i64 z.ot) (.int .i64 z.fi) (.int .i64 z.wa) (.slice A2 z.out.length a2)).all)
        unfold fiveSet at HLe
        go_region_held3 (fun w' => w'.cell? ⟨w.heap.size, 0, none⟩ = some (.int .i64 z.ep) ∧ w'.cell? ⟨w.heap.size, 1, none⟩ = some (.int .i64 z.ot) ∧ w'.cell? ⟨w.heap.size, 2, none⟩ = some (.int .i64 z.fi) ∧ w'.cell? ⟨w.heap.size, 3, none⟩ = some (.int .i64 z.wa) ∧ w'.cell? ⟨w.heap.size, 4, none⟩ = some (.slice A2 z.out.length a2)) (first | with_reducible exact HLz.out z4 | with_reducible exact hd0 | with_reducible exact HLe.out z4 | fail) (first | (go_at_call 38; refine (HAk2.out _).mono ?_; rintro e w8 ⟨rfl, hb8⟩; obtain ⟨z4, hz4⟩ := LatW.later (LatW.first wc) hb8; subst hz4; clear hb8) | fail)
        all_goals
          go_wp2_with fail
          obtain ⟨hR, hE⟩ := (HT4.out.lat z4).fin (.int .i64 z.ep) (.int .i64 z.ot) (.int .i64 z.fi) (.int .i64 z.wa) (.slice A2 z.out.length a2)
          have t0 := hR.c0
          have t1 := hR.c1
          have t2 := hR.c2
          have t3 := hR.c3
          have t4 := hR.c4
          have hSS := ((HS4.out.below z4.bel)).fiveSet (HT4.out.lat z4).e z.ep z.ot z.fi z.wa (.slice A2 z.out.length a2)
          have hfin := RTakeEnd.mk2 (w := w) (ep := z.ep) (ot := z.ot) (fi := z.fi) (wa := z.wa) (out := z.out) (pc := []) (has := false) (rp := AK) (an := false) (A := A2) (c := a2) hr.out hSS (by rw [fiveSet_size]; exact z4.bel.size) hE
          unfold fiveSet at t0 t1 t2 t3 t4 hfin
          exact bodyPost_ret (v := .tuple #[.agg #[.int .i64 z.ep, .int .i64 z.ot, .int .i64 z.fi, .int .i64 (z.wa), .slice A2 z.out.length a2], .string (str []), .bool false, .string (str AK), .bool false]) (by simp [results, Try.results22, go_sem, str_none, t0, t1, t2, t3, t4]) rfl hfin
      have hq3 : ((n2 : Int) == z.wa) = true := beq_iff_eq.2 h3
      by_cases h4 : z.wa < 1099511627776
      case neg =>
        have hr := Lib.hid (HR4.out (fun e => h4 e.2))
        clear HR3 HR4
        go_upto_region 19 with fail
        clear x0 x1 x2 x3 x4 y0 y1 y2 y3 y4 q0 q1 q2 q3 xf yf
        have HAk := Lib.hid (fun W => RPacket_any (z) A2 a2 2 0 [] W HZ3.out (.inr rfl) (by omega) (by omega) (by simp))
        have HAk2 : Hid (∀ W, Calls Try.prog 38 #[.agg #[.int .i64 z.ep, .int .i64 z.ot, .int .i64 z.fi, .int .i64 (z.wa), .slice A2 z.out.length a2], .int .i64 2, .int .i64 0, .string ⟨#[]⟩] W fun e w' => e = .returned (.string (str (ackB (z)))) ∧ Below W.heap.size W w') := Lib.hid (fun W => HAk.out W)
        obtain ⟨AK, hAK⟩ : ∃ AK, ackB (z) = AK := ⟨_, rfl⟩
        rw [hAK] at HAk2 hr
        clear hAK HAk
        have y0 := fun z : LatW wc => (HT4.out.lat z).e.c0
        have y1 := fun z : LatW wc => (HT4.out.lat z).e.c1
        have y2 := fun z : LatW wc => (HT4.out.lat z).e.c2
        have y3 := fun z : LatW wc => (HT4.out.lat z).e.c3
        have y4 := fun z : LatW wc => (HT4.out.lat z).e.c4
        have yf := fun z : LatW wc => (HT4.out.lat z).e.fr
        have hd0 := HT4.out.p.drew.all
        have HLz := Lib.hid (fun z : LatW wc => (HT4.out.lat z).p.all)
        have hne1 : w.heap.size ≠ w.heap.size + 1 := by omega
        have HLe := Lib.hid (fun zz : LatW wc => ((HT4.out.lat zz).p.farSet hne1 (.int .i64 z.ep) (.int .i64 z.ot) (.int .i64 z.fi) (.int .i64 z.wa) (.slice A2 z.out.length a2)).all)
        unfold fiveSet at HLe
        go_region_held3 (fun w' => w'.cell? ⟨w.heap.size, 0, none⟩ = some (.int .i64 z.ep) ∧ w'.cell? ⟨w.heap.size, 1, none⟩ = some (.int .i64 z.ot) ∧ w'.cell? ⟨w.heap.size, 2, none⟩ = some (.int .i64 z.fi) ∧ w'.cell? ⟨w.heap.size, 3, none⟩ = some (.int .i64 z.wa) ∧ w'.cell? ⟨w.heap.size, 4, none⟩ = some (.slice A2 z.out.length a2)) (first | with_reducible exact HLz.out z4 | with_reducible exact hd0 | with_reducible exact HLe.out z4 | fail) (first | (go_at_call 38; refine (HAk2.out _).mono ?_; rintro e w8 ⟨rfl, hb8⟩; obtain ⟨z4, hz4⟩ := LatW.later (LatW.first wc) hb8; subst hz4; clear hb8) | fail)
        all_goals
          go_wp2_with fail
          obtain ⟨hR, hE⟩ := (HT4.out.lat z4).fin (.int .i64 z.ep) (.int .i64 z.ot) (.int .i64 z.fi) (.int .i64 z.wa) (.slice A2 z.out.length a2)
          have t0 := hR.c0
          have t1 := hR.c1
          have t2 := hR.c2
          have t3 := hR.c3
          have t4 := hR.c4
          have hSS := ((HS4.out.below z4.bel)).fiveSet (HT4.out.lat z4).e z.ep z.ot z.fi z.wa (.slice A2 z.out.length a2)
          have hfin := RTakeEnd.mk2 (w := w) (ep := z.ep) (ot := z.ot) (fi := z.fi) (wa := z.wa) (out := z.out) (pc := []) (has := false) (rp := AK) (an := false) (A := A2) (c := a2) hr.out hSS (by rw [fiveSet_size]; exact z4.bel.size) hE
          unfold fiveSet at t0 t1 t2 t3 t4 hfin
          exact bodyPost_ret (v := .tuple #[.agg #[.int .i64 z.ep, .int .i64 z.ot, .int .i64 z.fi, .int .i64 (z.wa), .slice A2 z.out.length a2], .string (str []), .bool false, .string (str AK), .bool false]) (by simp [results, Try.results22, go_sem, str_none, t0, t1, t2, t3, t4]) rfl hfin
      have hr := Lib.hid (HR3.out ⟨h3, h4⟩)
      have hw1 := HZ3.out.w1
      have HZ4 : Hid (LEnd.Ok3 { z with wa := z.wa + 1 }) := Lib.hid ⟨HZ3.out.e1, HZ3.out.e2, HZ3.out.o1, HZ3.out.o2, by show 1 ≤ z.wa + 1; omega, by show z.wa + 1 ≤ _; omega⟩
      have hwz : IntKind.i64.wrap (z.wa + 1) = z.wa + 1 := by rw [IntKind.wrap_i64]; omega
      clear HR3 HR4 h3
      go_upto_region 21 with fail
      have HT5 := Lib.hid (HT4.out.set3 (.int .i64 (z.wa + 1)))
      have HS5 := Lib.hid ((HS4.out.far5 HT4.out.p 3 (.int .i64 (z.wa + 1))).more (B' := (wc.setCell ⟨w.heap.size, 3, none⟩ (.int .i64 (z.wa + 1))).heap.size) (by simp [World.setCell]))
      clear x0 x1 x2 x3 x4 y0 y1 y2 y3 y4 q0 q1 q2 q3 xf yf HT4 HS4 HQ4
      generalize wc.setCell ⟨w.heap.size, 3, none⟩ (.int .i64 (z.wa + 1)) = W5 at *
      have HAk := Lib.hid (fun W => RPacket_any ({ z with wa := z.wa + 1 }) A2 a2 2 0 [] W HZ4.out (.inr rfl) (by omega) (by omega) (by simp))
      have HAk2 : Hid (∀ W, Calls Try.prog 38 #[.agg #[.int .i64 z.ep, .int .i64 z.ot, .int .i64 z.fi, .int .i64 (z.wa + 1), .slice A2 z.out.length a2], .int .i64 2, .int .i64 0, .string ⟨#[]⟩] W fun e w' => e = .returned (.string (str (ackB ({ z with wa := z.wa + 1 })))) ∧ Below W.heap.size W w') := Lib.hid (fun W => HAk.out W)
      obtain ⟨AK, hAK⟩ : ∃ AK, ackB ({ z with wa := z.wa + 1 }) = AK := ⟨_, rfl⟩
      rw [hAK] at HAk2 hr
      clear hAK HAk
      have y0 := fun z : LatW W5 => (HT5.out.lat z).e.c0
      have y1 := fun z : LatW W5 => (HT5.out.lat z).e.c1
      have y2 := fun z : LatW W5 => (HT5.out.lat z).e.c2
      have y3 := fun z : LatW W5 => (HT5.out.lat z).e.c3
      have y4 := fun z : LatW W5 => (HT5.out.lat z).e.c4
      have yf := fun z : LatW W5 => (HT5.out.lat z).e.fr
      have hd0 := HT5.out.p.drew.all
      have HLz := Lib.hid (fun z : LatW W5 => (HT5.out.lat z).p.all)
      have hne1 : w.heap.size ≠ w.heap.size + 1 := by omega
      have HLe := Lib.hid (fun zz : LatW W5 => ((HT5.out.lat zz).p.farSet hne1 (.int .i64 z.ep) (.int .i64 z.ot) (.int .i64 z.fi) (.int .i64 (z.wa + 1)) (.slice A2 z.out.length a2)).all)
      unfold fiveSet at HLe
      go_region_held3 (fun w' => w'.cell? ⟨w.heap.size, 0, none⟩ = some (.int .i64 z.ep) ∧ w'.cell? ⟨w.heap.size, 1, none⟩ = some (.int .i64 z.ot) ∧ w'.cell? ⟨w.heap.size, 2, none⟩ = some (.int .i64 z.fi) ∧ w'.cell? ⟨w.heap.size, 3, none⟩ = some (.int .i64 (z.wa + 1)) ∧ w'.cell? ⟨w.heap.size, 4, none⟩ = some (.slice A2 z.out.length a2)) (first | with_reducible exact HLz.out z4 | with_reducible exact hd0 | with_reducible exact HLe.out z4 | fail) (first | (go_at_call 38; refine (HAk2.out _).mono ?_; rintro e w8 ⟨rfl, hb8⟩; obtain ⟨z4, hz4⟩ := LatW.later (LatW.first W5) hb8; subst hz4; clear hb8) | fail)
      all_goals
        go_wp2_with fail
        obtain ⟨hR, hE⟩ := (HT5.out.lat z4).fin (.int .i64 z.ep) (.int .i64 z.ot) (.int .i64 z.fi) (.int .i64 (z.wa + 1)) (.slice A2 z.out.length a2)
        have t0 := hR.c0
        have t1 := hR.c1
        have t2 := hR.c2
        have t3 := hR.c3
        have t4 := hR.c4
        have hSS := ((HS5.out.below z4.bel)).fiveSet (HT5.out.lat z4).e z.ep z.ot z.fi (z.wa + 1) (.slice A2 z.out.length a2)
        have hfin := RTakeEnd.mk2 (w := w) (ep := z.ep) (ot := z.ot) (fi := z.fi) (wa := z.wa + 1) (out := z.out) (pc := pc) (has := true) (rp := AK) (an := false) (A := A2) (c := a2) hr.out hSS (by rw [fiveSet_size]; exact z4.bel.size) hE
        unfold fiveSet at t0 t1 t2 t3 t4 hfin
        exact bodyPost_ret (v := .tuple #[.agg #[.int .i64 z.ep, .int .i64 z.ot, .int .i64 z.fi, .int .i64 (z.wa + 1), .slice A2 z.out.length a2], .string (str pc), .bool true, .string (str AK), .bool false]) (by simp [results, Try.results22, go_sem, t0, t1, t2, t3, t4]) rfl hfin
    case neg =>
      have hy := HM2.out g4 g5
      subst hy
      have han : an = true := by rw [← HAn.out, decide_eq_true_iff]; omega
      subst han
      have g6 : (0 : Int) < x.ot := by omega
      go_upto_region 9 with fail
      have HT3 := Lib.hid ((((HT1.out.set4 (.slice none 0 0)).set2 (.int .i64 1)).set1 (.int .i64 n0)).set3 (.int .i64 1))
      have HQ3 := Lib.hid ((((HQ.out.far (p := ⟨w.heap.size, 4, none⟩) (by show C ≠ w.heap.size; omega) (.slice none 0 0)).far (p := ⟨w.heap.size, 2, none⟩) (by show C ≠ w.heap.size; omega) (.int .i64 1)).far (p := ⟨w.heap.size, 1, none⟩) (by show C ≠ w.heap.size; omega) (.int .i64 n0)).far (p := ⟨w.heap.size, 3, none⟩) (by show C ≠ w.heap.size; omega) (.int .i64 1))
      clear x0 x1 x2 x3 x4 y0 y1 y2 y3 y4 q0 q1 q2 q3 xf yf g3 HM0 HM1 HM2 HS1 HT1 HQ HAn HN HC
      generalize (((W1.setCell ⟨w.heap.size, 4, none⟩ (.slice none 0 0)).setCell ⟨w.heap.size, 2, none⟩ (.int .i64 1)).setCell ⟨w.heap.size, 1, none⟩ (.int .i64 n0)).setCell ⟨w.heap.size, 3, none⟩ (.int .i64 1) = W3 at *
      obtain ⟨y, hy⟩ : ∃ y : LEnd, { x with ot := (n0 : Int), wa := 1, fi := 1, out := [] } = y := ⟨_, rfl⟩
      rw [hy] at HOky MEP HR1 HR2 HR3 HR4
      have HT3' : Hid (RkAt w W3 (.int .i64 y.ep) (.int .i64 y.ot) (.int .i64 y.fi) (.int .i64 y.wa) (.slice none y.out.length 0)) := Lib.hid (by rw [← hy]; exact HT3.out)
      have HS3 : Hid (Strs W3 w.heap.size none y.out) := Lib.hid (.inl (by rw [← hy]))
      have HC1 : Hid (y.out.length ≤ 0) := Lib.hid (by rw [← hy]; exact Nat.le_refl _)
      have HN1 : Hid ((none : Option Addr) = none → 0 = 0) := Lib.hid (fun _ => rfl)
      clear HT3 hy
      have HT3 := HT3'
      clear HT3'
      have x0 := HT3.out.p.c0
      have x1 := HT3.out.p.c1
      have x2 := HT3.out.p.c2
      have x3 := HT3.out.p.c3
      have x4 := HT3.out.p.c4
      have y0 := HT3.out.e.c0
      have y1 := HT3.out.e.c1
      have y2 := HT3.out.e.c2
      have y3 := HT3.out.e.c3
      have y4 := HT3.out.e.c4
      have q0 := HQ3.out.c0
      have q1 := HQ3.out.c1
      have q2 := HQ3.out.c2
      have q3 := HQ3.out.c3
      have xf := HT3.out.p.fr
      have yf := HT3.out.e.fr
      by_cases h1 : (n1 : Int) = y.ep
      case neg =>
        have hq : ((n1 : Int) != y.ep) = true := by simpa using h1
        have hr := Lib.hid (HR1.out (fun e => h1 (e.trans MEP.out.symm)))
        clear h1 HR1 HR2 HR3 HR4
        go_upto_region 10 with fail
        clear x0 x1 x2 x3 x4 y0 y1 y2 y3 y4 q0 q1 q2 q3 xf yf
        have HAk := Lib.hid (fun W => RPacket_any (y) none 0 2 0 [] W HOky.out.ok3 (.inr rfl) (by omega) (by omega) (by simp))
        have HAk2 : Hid (∀ W, Calls Try.prog 38 #[.agg #[.int .i64 y.ep, .int .i64 y.ot, .int .i64 y.fi, .int .i64 (y.wa), .slice none y.out.length 0], .int .i64 2, .int .i64 0, .string ⟨#[]⟩] W fun e w' => e = .returned (.string (str (ackB (y)))) ∧ Below W.heap.size W w') := Lib.hid (fun W => HAk.out W)
        obtain ⟨AK, hAK⟩ : ∃ AK, ackB (y) = AK := ⟨_, rfl⟩
        rw [hAK] at HAk2 hr
        clear hAK HAk
        have y0 := fun z : LatW W3 => (HT3.out.lat z).e.c0
        have y1 := fun z : LatW W3 => (HT3.out.lat z).e.c1
        have y2 := fun z : LatW W3 => (HT3.out.lat z).e.c2
        have y3 := fun z : LatW W3 => (HT3.out.lat z).e.c3
        have y4 := fun z : LatW W3 => (HT3.out.lat z).e.c4
        have yf := fun z : LatW W3 => (HT3.out.lat z).e.fr
        have hd0 := HT3.out.p.drew.all
        have HLz := Lib.hid (fun z : LatW W3 => (HT3.out.lat z).p.all)
        have hne1 : w.heap.size ≠ w.heap.size + 1 := by omega
        have HLe := Lib.hid (fun zz : LatW W3 => ((HT3.out.lat zz).p.farSet hne1 (.int .i64 y.ep) (.int .i64 y.ot) (.int .i64 y.fi) (.int .i64 y.wa) (.slice none y.out.length 0)).all)
        unfold fiveSet at HLe
        go_region_held3 (fun w' => w'.cell? ⟨w.heap.size, 0, none⟩ = some (.int .i64 y.ep) ∧ w'.cell? ⟨w.heap.size, 1, none⟩ = some (.int .i64 y.ot) ∧ w'.cell? ⟨w.heap.size, 2, none⟩ = some (.int .i64 y.fi) ∧ w'.cell? ⟨w.heap.size, 3, none⟩ = some (.int .i64 y.wa) ∧ w'.cell? ⟨w.heap.size, 4, none⟩ = some (.slice none y.out.length 0)) (first | with_reducible exact HLz.out z4 | with_reducible exact hd0 | with_reducible exact HLe.out z4 | fail) (first | (go_at_call 38; refine (HAk2.out _).mono ?_; rintro e w8 ⟨rfl, hb8⟩; obtain ⟨z4, hz4⟩ := LatW.later (LatW.first W3) hb8; subst hz4; clear hb8) | fail)
        all_goals
          go_wp2_with fail
          obtain ⟨hR, hE⟩ := (HT3.out.lat z4).fin (.int .i64 y.ep) (.int .i64 y.ot) (.int .i64 y.fi) (.int .i64 y.wa) (.slice none y.out.length 0)
          have t0 := hR.c0
          have t1 := hR.c1
          have t2 := hR.c2
          have t3 := hR.c3
          have t4 := hR.c4
          have hSS := ((HS3.out.below (lat_bel HT3.out.bel.size z4))).fiveSet (HT3.out.lat z4).e y.ep y.ot y.fi y.wa (.slice none y.out.length 0)
          have hfin := RTakeEnd.mk2 (w := w) (ep := y.ep) (ot := y.ot) (fi := y.fi) (wa := y.wa) (out := y.out) (pc := []) (has := false) (rp := AK) (an := true) (A := none) (c := 0) hr.out hSS (by rw [fiveSet_size]; exact (HT3.out.lat z4).bel.size) hE
          unfold fiveSet at t0 t1 t2 t3 t4 hfin
          exact bodyPost_ret (v := .tuple #[.agg #[.int .i64 y.ep, .int .i64 y.ot, .int .i64 y.fi, .int .i64 (y.wa), .slice none y.out.length 0], .string (str []), .bool false, .string (str AK), .bool true]) (by simp [results, Try.results22, go_sem, str_none, t0, t1, t2, t3, t4]) rfl hfin
      have hq : ((n1 : Int) != y.ep) = false := by simpa using h1
      have h1' : ¬ (n1 : Int) ≠ x.ep := fun e => e (h1.trans MEP.out)
      replace HR2 := Lib.hid (HR2.out h1')
      replace HR3 := Lib.hid (HR3.out h1')
      replace HR4 := Lib.hid (HR4.out h1')
      have hok3 := (acked_ok3 HOky.out.ok3 (n3 : Int)).1
      have HNy := Lib.hid (fun h => @ackedX_no y (n3 : Int) h)
      have HYy := Lib.hid (fun h => @ackedX_yes y (n3 : Int) h)
      have HZ3 := Lib.hid hok3
      clear HR1 h1 hok3 h1' MEP
      generalize ackedX y (n3 : Int) = z at *
      have hyf1 := HOky.out.f1
      have hyf2 := HOky.out.f2
      have hyl := HOky.out.len
      have hwn : IntKind.i64.wrap ((n3 : Int) - y.fi) = (n3 : Int) - y.fi := by rw [IntKind.wrap_i64]; omega
      go_upto_region 12 with fail
      clear y0 y1 y2 y3 y4 q0 q1 q2 x0 x1 x3 yf hq
      go_cut [13, 76] from 68 to 86 (fun v13 v76 wx => v13 = .int .i64 ((n3 : Int) - y.fi) ∧ v76 = .bool (decide ((0 : Int) ≤ (n3 : Int) - y.fi ∧ (n3 : Int) - y.fi ≤ (y.out.length : Int))) ∧ wx = W3)
      case first =>
        by_cases ha : (0 : Int) ≤ (n3 : Int) - y.fi
        case neg =>
          go_wp2_with fail
          go_meet
          case rel => exact ⟨rfl, congrArg Value.bool (decide_eq_false (by omega)).symm, rfl⟩
        by_cases hb : (n3 : Int) - y.fi ≤ (y.out.length : Int)
        case neg =>
          go_wp2_with fail
          go_meet
          case rel => exact ⟨rfl, congrArg Value.bool (decide_eq_false (by omega)).symm, rfl⟩
        go_wp2_with fail
        go_meet
        case rel => exact ⟨rfl, congrArg Value.bool (decide_eq_true (by omega)).symm, rfl⟩
      case rest =>
      obtain ⟨rfl, rfl, hwc⟩ := hcut
      rw [hwc]
      clear hwc
      clear x2 x4 q3 xf
      have x0 := HT3.out.p.c0
      have x1 := HT3.out.p.c1
      have x2 := HT3.out.p.c2
      have x3 := HT3.out.p.c3
      have x4 := HT3.out.p.c4
      have y0 := HT3.out.e.c0
      have y1 := HT3.out.e.c1
      have y2 := HT3.out.e.c2
      have y3 := HT3.out.e.c3
      have y4 := HT3.out.e.c4
      have q0 := HQ3.out.c0
      have q1 := HQ3.out.c1
      have q2 := HQ3.out.c2
      have q3 := HQ3.out.c3
      have xf := HT3.out.p.fr
      have yf := HT3.out.e.fr
      go_upto_if 76 with fail
      go_cut [13, 14] from 54 to 86 (fun v13 v14 wx => v13 = .int .i64 ((n3 : Int) - y.fi) ∧ Hid (∃ (A2 : Option Addr) (a2 : Nat), RkAt w wx (.int .i64 z.ep) (.int .i64 z.ot) (.int .i64 z.fi) (.int .i64 z.wa) (.slice A2 z.out.length a2) ∧ Strs wx wx.heap.size A2 z.out ∧ Quad wx C (.int .i64 n0) (.int .i64 n1) (.int .i64 n2) (.int .i64 n3) 68))
      case first =>
        by_cases hab : (0 : Int) ≤ (n3 : Int) - y.fi ∧ (n3 : Int) - y.fi ≤ (y.out.length : Int)
        case neg =>
          rw [decide_eq_false hab]
          have HZz := Lib.hid (HNy.out (by omega))
          go_wp2_with fail
          go_meet
          case rel => exact ⟨rfl, Lib.hid (by rw [HZz.out]; exact ⟨_, _, HT3.out, HS3.out.more HT3.out.bel.size, HQ3.out⟩)⟩
        rw [decide_eq_true hab]
        obtain ⟨ha, hb⟩ := hab
        have hz := HYy.out (by omega)
        obtain ⟨m, hm⟩ : ∃ m : Nat, (n3 : Int) - y.fi = (m : Nat) := ⟨n3 - y.fi.toNat, by omega⟩
        rw [hm] at ha hb hwn
        rw [hm, Int.toNat_natCast] at hz
        rw [hm]
        have hml : m ≤ y.out.length := by omega
        have hwm : IntKind.i64.wrap (m : Int) = (m : Int) := by rw [IntKind.wrap_i64]; omega
        have HLn : Hid ((y.out.drop m).length = y.out.length - m) := Lib.hid List.length_drop
        have HD : Hid (∀ W, Strs W w.heap.size none y.out → Strs W w.heap.size none (y.out.drop m) ∧ ((none : Option Addr) = none → 0 = 0)) := Lib.hid (fun W hW => ⟨hW.drop m, fun _ => rfl⟩)
        obtain ⟨d1, d2⟩ := HD.out _ (HS3.out.below (Below.refl _ _).drew)
        have HLi := Lib.hid d1.toLies
        have HNl := Lib.hid d2
        obtain ⟨i0, hi0, hz0, hz1, hz2⟩ := info_parts Try.infoStr
        have HXl : Hid (((y.out.drop m).map txt).length = (y.out.length - m) * 1) := Lib.hid (by rw [List.length_map, HLn.out, Nat.mul_one])
        have HX1 := Lib.hid (map_txt_one (y.out.drop m))
        have hsz : w.heap.size ≤ W3.drew.heap.size := HT3.out.bel.size
        have hfit : 0 + (y.out.length - m) ≤ maxLen := by unfold maxLen; omega
        have hfit2 : (0 + (y.out.length - m)) * 16 ≤ 140737488355328 := by omega
        have HFm : Hid (∀ (A5 : Option Addr) (c5 : Nat) (W : World), W.ownsRow W3.heap.size 9 1 (.slice A5 (0 + (y.out.length - m)) c5) (0 + (y.out.length - m)) ([] ++ (y.out.drop m).map txt) → Strs W W.heap.size A5 (y.out.drop m)) := Lib.hid (fun A5 c5 W ho => by
          rw [List.nil_append] at ho
          obtain ⟨A6, c6, hv6, _, hs6⟩ := own_strs ho
          injection hv6 with e1 e2 e3
          rw [e1]; exact hs6)
        have HZz := Lib.hid hz
        have HM := Lib.hid hm
        clear HC1 HN1 HS3 hyf1 hyf2 HNy HYy hz d1 d2
        go_upto_region 14 with fail
        go_region_law (refine step_append_rows (by rfl) (.tmp 77) (.tmp 81) 22 (by rfl) W3.heap.size 9 i0 (.string ⟨#[]⟩) 1 16 Try.underlying22 hi0 hz0 hz1 hz2 rfl (by decide) (.slice none 0 0) 0 [] (by rfl) (World.ownsRow_nil _ _ _ _) none (y.out.length - m) 0 ((y.out.drop m).map txt) (by rfl) HXl.out w.heap.size HLi.out HNl.out HX1.out hfit hfit2 (Nat.le_refl _) ?_; intro A5 c5 w6 ho6 hg6; have HB6 : Hid (Below W3.heap.size W3 w6) := Lib.hid ((Below.refl W3.heap.size W3).drew.grown hg6 (Nat.le_refl _) (fun q hq => (by cases hq))); have HT6 := Lib.hid (HT3.out.later HB6.out); have HQ6 := Lib.hid (HQ3.out.below HB6.out); have HO6 := Lib.hid ho6; clear ho6 hg6; have x2 := HT6.out.p.c2; have x4 := HT6.out.p.c4; have xf := HT6.out.p.fr; have q3 := HQ6.out.c3)
        all_goals
          clear x2 x4 xf q3
          go_wp2_with fail
          go_meet
          case rel =>
            have hS9 := HFm.out _ _ _ HO6.out
            refine ⟨by rw [HM.out], Lib.hid ?_⟩
            rw [HZz.out]
            refine ⟨A5, c5, ?_, ?_, ?_⟩
            · have := (HT6.out.set4 (.slice A5 (y.out.length - m) c5)).set2 (.int .i64 n3)
              rw [← HLn.out] at this ⊢
              exact this
            · have := ((hS9.far5 HT6.out.p 4 (.slice A5 (y.out.length - m) c5)).far5 (HT6.out.p.set4 (.slice A5 (y.out.length - m) c5)) 2 (.int .i64 n3))
              exact this.more (by simp [World.setCell])
            · exact ((HQ6.out.far (p := ⟨w.heap.size, 4, none⟩) (by show C ≠ w.heap.size; omega) _).far (p := ⟨w.heap.size, 2, none⟩) (by show C ≠ w.heap.size; omega) _)
      case rest =>
      clear x0 x1 x2 x3 x4 y0 y1 y2 y3 y4 q0 q1 q2 q3 xf yf HT3 HQ3 HS3 HN1 HC1 HNy HYy hwn hyf1 hyf2 hyl HOky
      obtain ⟨rfl, HH⟩ := hcut
      obtain ⟨A2, a2, hT4, hS4, hQ4⟩ := HH.out
      have HT4 := Lib.hid hT4
      have HS4 := Lib.hid hS4
      have HQ4 := Lib.hid hQ4
      clear HH hT4 hS4 hQ4
      have x0 := HT4.out.p.c0
      have x1 := HT4.out.p.c1
      have x2 := HT4.out.p.c2
      have x3 := HT4.out.p.c3
      have x4 := HT4.out.p.c4
      have y0 := HT4.out.e.c0
      have y1 := HT4.out.e.c1
      have y2 := HT4.out.e.c2
      have y3 := HT4.out.e.c3
      have y4 := HT4.out.e.c4
      have q0 := HQ4.out.c0
      have q1 := HQ4.out.c1
      have q2 := HQ4.out.c2
      have q3 := HQ4.out.c3
      have xf := HT4.out.p.fr
      have yf := HT4.out.e.fr
      by_cases hk : kd = 2
      case pos =>
        have hr := Lib.hid (HR2.out hk)
        have hkq2 : ((kd : Int) == 2) = true := by rw [beq_iff_eq]; omega
        clear HR2 HR3 HR4 hk hkd
        go_wp2_with fail
        obtain ⟨hR, hE⟩ := (HT4.out).fin (.int .i64 z.ep) (.int .i64 z.ot) (.int .i64 z.fi) (.int .i64 z.wa) (.slice A2 z.out.length a2)
        have t0 := hR.c0
        have t1 := hR.c1
        have t2 := hR.c2
        have t3 := hR.c3
        have t4 := hR.c4
        have hSS := (HS4.out).fiveSet (HT4.out).e z.ep z.ot z.fi z.wa (.slice A2 z.out.length a2)
        have hfin := RTakeEnd.mk2 (w := w) (ep := z.ep) (ot := z.ot) (fi := z.fi) (wa := z.wa) (out := z.out) (pc := []) (has := false) (rp := []) (an := true) (A := A2) (c := a2) hr.out hSS (by rw [fiveSet_size]; exact Nat.le_refl _) hE
        unfold fiveSet at t0 t1 t2 t3 t4 hfin
        exact bodyPost_ret (v := .tuple #[.agg #[.int .i64 z.ep, .int .i64 z.ot, .int .i64 z.fi, .int .i64 (z.wa), .slice A2 z.out.length a2], .string (str []), .bool false, .string (str []), .bool true]) (by simp [results, Try.results22, go_sem, str_none, t0, t1, t2, t3, t4]) rfl hfin
      have hkq2 : ((kd : Int) == 2) = false := by rw [beq_eq_false_iff_ne]; omega
      replace HR3 := Lib.hid (HR3.out hk)
      replace HR4 := Lib.hid (HR4.out hk)
      clear HR2 hk hkd
      by_cases h3 : (n2 : Int) = z.wa
      case neg =>
        have hq3 : ((n2 : Int) == z.wa) = false := beq_eq_false_iff_ne.2 h3
        have hr := Lib.hid (HR4.out (fun e => h3 e.1))
        clear HR3 HR4
        go_upto_region 19 with fail
        clear x0 x1 x2 x3 x4 y0 y1 y2 y3 y4 q0 q1 q2 q3 xf yf
        have HAk := Lib.hid (fun W => RPacket_any (z) A2 a2 2 0 [] W HZ3.out (.inr rfl) (by omega) (by omega) (by simp))
        have HAk2 : Hid (∀ W, Calls Try.prog 38 #[.agg #[.int .i64 z.ep, .int .i64 z.ot, .int .i64 z.fi, .int .i64 (z.wa), .slice A2 z.out.length a2], .int .i64 2, .int .i64 0, .string ⟨#[]⟩] W fun e w' => e = .returned (.string (str (ackB (z)))) ∧ Below W.heap.size W w') := Lib.hid (fun W => HAk.out W)
        obtain ⟨AK, hAK⟩ : ∃ AK, ackB (z) = AK := ⟨_, rfl⟩
        rw [hAK] at HAk2 hr
        clear hAK HAk
        have y0 := fun z : LatW wc => (HT4.out.lat z).e.c0
        have y1 := fun z : LatW wc => (HT4.out.lat z).e.c1
        have y2 := fun z : LatW wc => (HT4.out.lat z).e.c2
        have y3 := fun z : LatW wc => (HT4.out.lat z).e.c3
        have y4 := fun z : LatW wc => (HT4.out.lat z).e.c4
        have yf := fun z : LatW wc => (HT4.out.lat z).e.fr
        have hd0 := HT4.out.p.drew.all
        have HLz := Lib.hid (fun z : LatW wc => (HT4.out.lat z).p.all)
        have hne1 : w.heap.size ≠ w.heap.size + 1 := by omega
        have HLe := Lib.hid (fun zz : LatW wc => ((HT4.out.lat zz).p.farSet hne1 (.int .i64 z.ep) (.int .i64 z.ot) (.int .i64 z.fi) (.int .i64 z.wa) (.slice A2 z.out.length a2)).all)
        unfold fiveSet at HLe
        go_region_held3 (fun w' => w'.cell? ⟨w.heap.size, 0, none⟩ = some (.int .i64 z.ep) ∧ w'.cell? ⟨w.heap.size, 1, none⟩ = some (.int .i64 z.ot) ∧ w'.cell? ⟨w.heap.size, 2, none⟩ = some (.int .i64 z.fi) ∧ w'.cell? ⟨w.heap.size, 3, none⟩ = some (.int .i64 z.wa) ∧ w'.cell? ⟨w.heap.size, 4, none⟩ = some (.slice A2 z.out.length a2)) (first | with_reducible exact HLz.out z4 | with_reducible exact hd0 | with_reducible exact HLe.out z4 | fail) (first | (go_at_call 38; refine (HAk2.out _).mono ?_; rintro e w8 ⟨rfl, hb8⟩; obtain ⟨z4, hz4⟩ := LatW.later (LatW.first wc) hb8; subst hz4; clear hb8) | fail)
        all_goals
          go_wp2_with fail
          obtain ⟨hR, hE⟩ := (HT4.out.lat z4).fin (.int .i64 z.ep) (.int .i64 z.ot) (.int .i64 z.fi) (.int .i64 z.wa) (.slice A2 z.out.length a2)
          have t0 := hR.c0
          have t1 := hR.c1
          have t2 := hR.c2
          have t3 := hR.c3
          have t4 := hR.c4
          have hSS := ((HS4.out.below z4.bel)).fiveSet (HT4.out.lat z4).e z.ep z.ot z.fi z.wa (.slice A2 z.out.length a2)
          have hfin := RTakeEnd.mk2 (w := w) (ep := z.ep) (ot := z.ot) (fi := z.fi) (wa := z.wa) (out := z.out) (pc := []) (has := false) (rp := AK) (an := true) (A := A2) (c := a2) hr.out hSS (by rw [fiveSet_size]; exact z4.bel.size) hE
          unfold fiveSet at t0 t1 t2 t3 t4 hfin
          exact bodyPost_ret (v := .tuple #[.agg #[.int .i64 z.ep, .int .i64 z.ot, .int .i64 z.fi, .int .i64 (z.wa), .slice A2 z.out.length a2], .string (str []), .bool false, .string (str AK), .bool true]) (by simp [results, Try.results22, go_sem, str_none, t0, t1, t2, t3, t4]) rfl hfin
      have hq3 : ((n2 : Int) == z.wa) = true := beq_iff_eq.2 h3
      by_cases h4 : z.wa < 1099511627776
      case neg =>
        have hr := Lib.hid (HR4.out (fun e => h4 e.2))
        clear HR3 HR4
        go_upto_region 19 with fail
        clear x0 x1 x2 x3 x4 y0 y1 y2 y3 y4 q0 q1 q2 q3 xf yf
        have HAk := Lib.hid (fun W => RPacket_any (z) A2 a2 2 0 [] W HZ3.out (.inr rfl) (by omega) (by omega) (by simp))
        have HAk2 : Hid (∀ W, Calls Try.prog 38 #[.agg #[.int .i64 z.ep, .int .i64 z.ot, .int .i64 z.fi, .int .i64 (z.wa), .slice A2 z.out.length a2], .int .i64 2, .int .i64 0, .string ⟨#[]⟩] W fun e w' => e = .returned (.string (str (ackB (z)))) ∧ Below W.heap.size W w') := Lib.hid (fun W => HAk.out W)
        obtain ⟨AK, hAK⟩ : ∃ AK, ackB (z) = AK := ⟨_, rfl⟩
        rw [hAK] at HAk2 hr
        clear hAK HAk
        have y0 := fun z : LatW wc => (HT4.out.lat z).e.c0
        have y1 := fun z : LatW wc => (HT4.out.lat z).e.c1
        have y2 := fun z : LatW wc => (HT4.out.lat z).e.c2
        have y3 := fun z : LatW wc => (HT4.out.lat z).e.c3
        have y4 := fun z : LatW wc => (HT4.out.lat z).e.c4
        have yf := fun z : LatW wc => (HT4.out.lat z).e.fr
        have hd0 := HT4.out.p.drew.all
        have HLz := Lib.hid (fun z : LatW wc => (HT4.out.lat z).p.all)
        have hne1 : w.heap.size ≠ w.heap.size + 1 := by omega
        have HLe := Lib.hid (fun zz : LatW wc => ((HT4.out.lat zz).p.farSet hne1 (.int .i64 z.ep) (.int .i64 z.ot) (.int .i64 z.fi) (.int .i64 z.wa) (.slice A2 z.out.length a2)).all)
        unfold fiveSet at HLe
        go_region_held3 (fun w' => w'.cell? ⟨w.heap.size, 0, none⟩ = some (.int .i64 z.ep) ∧ w'.cell? ⟨w.heap.size, 1, none⟩ = some (.int .i64 z.ot) ∧ w'.cell? ⟨w.heap.size, 2, none⟩ = some (.int .i64 z.fi) ∧ w'.cell? ⟨w.heap.size, 3, none⟩ = some (.int .i64 z.wa) ∧ w'.cell? ⟨w.heap.size, 4, none⟩ = some (.slice A2 z.out.length a2)) (first | with_reducible exact HLz.out z4 | with_reducible exact hd0 | with_reducible exact HLe.out z4 | fail) (first | (go_at_call 38; refine (HAk2.out _).mono ?_; rintro e w8 ⟨rfl, hb8⟩; obtain ⟨z4, hz4⟩ := LatW.later (LatW.first wc) hb8; subst hz4; clear hb8) | fail)
        all_goals
          go_wp2_with fail
          obtain ⟨hR, hE⟩ := (HT4.out.lat z4).fin (.int .i64 z.ep) (.int .i64 z.ot) (.int .i64 z.fi) (.int .i64 z.wa) (.slice A2 z.out.length a2)
          have t0 := hR.c0
          have t1 := hR.c1
          have t2 := hR.c2
          have t3 := hR.c3
          have t4 := hR.c4
          have hSS := ((HS4.out.below z4.bel)).fiveSet (HT4.out.lat z4).e z.ep z.ot z.fi z.wa (.slice A2 z.out.length a2)
          have hfin := RTakeEnd.mk2 (w := w) (ep := z.ep) (ot := z.ot) (fi := z.fi) (wa := z.wa) (out := z.out) (pc := []) (has := false) (rp := AK) (an := true) (A := A2) (c := a2) hr.out hSS (by rw [fiveSet_size]; exact z4.bel.size) hE
          unfold fiveSet at t0 t1 t2 t3 t4 hfin
          exact bodyPost_ret (v := .tuple #[.agg #[.int .i64 z.ep, .int .i64 z.ot, .int .i64 z.fi, .int .i64 (z.wa), .slice A2 z.out.length a2], .string (str []), .bool false, .string (str AK), .bool true]) (by simp [results, Try.results22, go_sem, str_none, t0, t1, t2, t3, t4]) rfl hfin
      have hr := Lib.hid (HR3.out ⟨h3, h4⟩)
      have hw1 := HZ3.out.w1
      have HZ4 : Hid (LEnd.Ok3 { z with wa := z.wa + 1 }) := Lib.hid ⟨HZ3.out.e1, HZ3.out.e2, HZ3.out.o1, HZ3.out.o2, by show 1 ≤ z.wa + 1; omega, by show z.wa + 1 ≤ _; omega⟩
      have hwz : IntKind.i64.wrap (z.wa + 1) = z.wa + 1 := by rw [IntKind.wrap_i64]; omega
      clear HR3 HR4 h3
      go_upto_region 21 with fail
      have HT5 := Lib.hid (HT4.out.set3 (.int .i64 (z.wa + 1)))
      have HS5 := Lib.hid ((HS4.out.far5 HT4.out.p 3 (.int .i64 (z.wa + 1))).more (B' := (wc.setCell ⟨w.heap.size, 3, none⟩ (.int .i64 (z.wa + 1))).heap.size) (by simp [World.setCell]))
      clear x0 x1 x2 x3 x4 y0 y1 y2 y3 y4 q0 q1 q2 q3 xf yf HT4 HS4 HQ4
      generalize wc.setCell ⟨w.heap.size, 3, none⟩ (.int .i64 (z.wa + 1)) = W5 at *
      have HAk := Lib.hid (fun W => RPacket_any ({ z with wa := z.wa + 1 }) A2 a2 2 0 [] W HZ4.out (.inr rfl) (by omega) (by omega) (by simp))
      have HAk2 : Hid (∀ W, Calls Try.prog 38 #[.agg #[.int .i64 z.ep, .int .i64 z.ot, .int .i64 z.fi, .int .i64 (z.wa + 1), .slice A2 z.out.length a2], .int .i64 2, .int .i64 0, .string ⟨#[]⟩] W fun e w' => e = .returned (.string (str (ackB ({ z with wa := z.wa + 1 })))) ∧ Below W.heap.size W w') := Lib.hid (fun W => HAk.out W)
      obtain ⟨AK, hAK⟩ : ∃ AK, ackB ({ z with wa := z.wa + 1 }) = AK := ⟨_, rfl⟩
      rw [hAK] at HAk2 hr
      clear hAK HAk
      have y0 := fun z : LatW W5 => (HT5.out.lat z).e.c0
      have y1 := fun z : LatW W5 => (HT5.out.lat z).e.c1
      have y2 := fun z : LatW W5 => (HT5.out.lat z).e.c2
      have y3 := fun z : LatW W5 => (HT5.out.lat z).e.c3
      have y4 := fun z : LatW W5 => (HT5.out.lat z).e.c4
      have yf := fun z : LatW W5 => (HT5.out.lat z).e.fr
      have hd0 := HT5.out.p.drew.all
      have HLz := Lib.hid (fun z : LatW W5 => (HT5.out.lat z).p.all)
      have hne1 : w.heap.size ≠ w.heap.size + 1 := by omega
      have HLe := Lib.hid (fun zz : LatW W5 => ((HT5.out.lat zz).p.farSet hne1 (.int .i64 z.ep) (.int .i64 z.ot) (.int .i64 z.fi) (.int .i64 (z.wa + 1)) (.slice A2 z.out.length a2)).all)
      unfold fiveSet at HLe
      go_region_held3 (fun w' => w'.cell? ⟨w.heap.size, 0, none⟩ = some (.int .i64 z.ep) ∧ w'.cell? ⟨w.heap.size, 1, none⟩ = some (.int .i64 z.ot) ∧ w'.cell? ⟨w.heap.size, 2, none⟩ = some (.int .i64 z.fi) ∧ w'.cell? ⟨w.heap.size, 3, none⟩ = some (.int .i64 (z.wa + 1)) ∧ w'.cell? ⟨w.heap.size, 4, none⟩ = some (.slice A2 z.out.length a2)) (first | with_reducible exact HLz.out z4 | with_reducible exact hd0 | with_reducible exact HLe.out z4 | fail) (first | (go_at_call 38; refine (HAk2.out _).mono ?_; rintro e w8 ⟨rfl, hb8⟩; obtain ⟨z4, hz4⟩ := LatW.later (LatW.first W5) hb8; subst hz4; clear hb8) | fail)
      all_goals
        go_wp2_with fail
        obtain ⟨hR, hE⟩ := (HT5.out.lat z4).fin (.int .i64 z.ep) (.int .i64 z.ot) (.int .i64 z.fi) (.int .i64 (z.wa + 1)) (.slice A2 z.out.length a2)
        have t0 := hR.c0
        have t1 := hR.c1
        have t2 := hR.c2
        have t3 := hR.c3
        have t4 := hR.c4
        have hSS := ((HS5.out.below z4.bel)).fiveSet (HT5.out.lat z4).e z.ep z.ot z.fi (z.wa + 1) (.slice A2 z.out.length a2)
        have hfin := RTakeEnd.mk2 (w := w) (ep := z.ep) (ot := z.ot) (fi := z.fi) (wa := z.wa + 1) (out := z.out) (pc := pc) (has := true) (rp := AK) (an := true) (A := A2) (c := a2) hr.out hSS (by rw [fiveSet_size]; exact z4.bel.size) hE
        unfold fiveSet at t0 t1 t2 t3 t4 hfin
        exact bodyPost_ret (v := .tuple #[.agg #[.int .i64 z.ep, .int .i64 z.ot, .int .i64 z.fi, .int .i64 (z.wa + 1), .slice A2 z.out.length a2], .string (str pc), .bool true, .string (str AK), .bool true]) (by simp [results, Try.results22, go_sem, t0, t1, t2, t3, t4]) rfl hfin
end Go.Proofs.Ytdhmkcomngbmaaa
