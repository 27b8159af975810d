/- The document's puts: bytes to sectors, a flush, a head, a flush. Plain: what the document puts where is what the log puts there. -/
import Derived.Test.YtlelfakememckaaGreatDoorWalD
import Derived.Test.YtlelfakememckaaGreatDoorRef
import Derived.Test.YtlelfakememckaaGreatDoorWalOpA
import Derived.Test.YtlelfakememckaaGreatDoorWalQ
namespace Go.Proofs.YtlelfakememckaaGreatDoor
open Go.RowKit

/-- The i-th 32 bytes. -/
def chunk (s : List UInt8) (i : Nat) : List UInt8 := (s.drop (32 * i)).take 32
/-- What is put where. -/
def partsAt (s : List UInt8) (at_ : List Nat) : List (Nat × List UInt8) := (List.range at_.length).map fun i => (at_.getD i 0, chunk s i)
theorem partsAt_length (s : List UInt8) (at_ : List Nat) : (partsAt s at_).length = at_.length := by simp [partsAt]
theorem partsAt_at (s : List UInt8) (at_ : List Nat) (i : Nat) (h : i < at_.length) : (partsAt s at_)[i]'(by rw [partsAt_length]; exact h) = (at_.getD i 0, chunk s i) := by simp [partsAt]
theorem chunk_length (s : List UInt8) (i : Nat) : (chunk s i).length ≤ 32 := by unfold chunk; rw [List.length_take]; omega

/-- The state of puts: the parameter's struct holds d. -/
structure PutSt (w wr : World) (X : Nat) (fA0 aA0 wA0 : Option Addr) (d : DSt) (fA : Option Addr) (fc : Nat) (aA : Option Addr) (ac : Nat) (wA : Option Addr) (wc : Nat) : Prop where
  ok : d.Ok
  ref : RefAt wr wr.heap.size d.firm d.loose fA aA ac wA wc
  x : Five wr X (.slice fA d.firm.length fc) (.slice aA d.loose.length ac) (.slice wA d.loose.length wc) (.int .i64 d.leftR) (.bool d.off)
  r : Five wr (X + 1) (.slice none 0 0) (.slice none 0 0) (.slice none 0 0) (.int .i64 0) (.bool false)
  xr : ∀ b off, (fA = some ⟨b, off, none⟩ ∨ aA = some ⟨b, off, none⟩ ∨ wA = some ⟨b, off, none⟩) → b ≠ X ∧ b ≠ X + 1
  xW : w.heap.size ≤ X
  fresh : RefFresh w.heap.size fA0 aA0 wA0 fA aA wA
  bel : Below w.heap.size w wr
theorem RefFresh.trans {B C : Nat} {f0 a0 w0 f1 a1 w1 f2 a2 w2 : Option Addr} (h1 : RefFresh B f0 a0 w0 f1 a1 w1) (h2 : RefFresh C f1 a1 w1 f2 a2 w2) (hBC : B ≤ C) : RefFresh B f0 a0 w0 f2 a2 w2 := fun b off e => by
  rcases h2 b off e with h | h
  · exact .inl (by omega)
  · exact h1 b off h
section
variable {w wr : World} {X : Nat} {fA0 aA0 wA0 : Option Addr} {d : DSt} {fA aA wA : Option Addr} {fc ac wc : Nat}
theorem PutSt.later {w' : World} (h : PutSt w wr X fA0 aA0 wA0 d fA fc aA ac wA wc) (hb : Below wr.heap.size wr w') : PutSt w w' X fA0 aA0 wA0 d fA fc aA ac wA wc :=
  ⟨h.ok, h.ref.next hb, h.x.below hb (heap_lt h.x), h.r.below hb (heap_lt h.r), h.xr, h.xW, h.fresh, h.bel.trans (hb.mono h.bel.size)⟩
/-- Behind a call, its disk laid over. -/
theorem PutSt.ask {d' : DSt} {code : Int} {en : Ending} {w' : World} (h : PutSt w wr X fA0 aA0 wA0 d fA fc aA ac wA wc) (ho : d'.Ok) (hr : RefRet fA aA wA d' code wr en w') :
    ∃ fA' fc' aA' ac' wA' wc', en = .returned (.tuple #[.agg #[.slice fA' d'.firm.length fc', .slice aA' d'.loose.length ac', .slice wA' d'.loose.length wc', .int .i64 d'.leftR, .bool d'.off], .int .i64 code]) ∧ Below wr.heap.size wr w' ∧
      PutSt w (((((w'.setCell ⟨X, 0, none⟩ (.slice fA' d'.firm.length fc')).setCell ⟨X, 1, none⟩ (.slice aA' d'.loose.length ac')).setCell ⟨X, 2, none⟩ (.slice wA' d'.loose.length wc')).setCell ⟨X, 3, none⟩ (.int .i64 d'.leftR)).setCell ⟨X, 4, none⟩ (.bool d'.off)) X fA0 aA0 wA0 d' fA' fc' aA' ac' wA' wc' := by
  obtain ⟨fA', fc', aA', ac', wA', wc', he, hr', hb, hfr⟩ := hr
  have hX : X < wr.heap.size := heap_lt h.x
  have hX1 : X + 1 < wr.heap.size := heap_lt h.r
  have hxr2 : ∀ b off, (fA' = some ⟨b, off, none⟩ ∨ aA' = some ⟨b, off, none⟩ ∨ wA' = some ⟨b, off, none⟩) → b ≠ X ∧ b ≠ X + 1 := fun b off q => by
    rcases hfr b off q with h' | h'
    · omega
    · exact h.xr b off h'
  have hxr : ∀ b off, (fA' = some ⟨b, off, none⟩ ∨ aA' = some ⟨b, off, none⟩ ∨ wA' = some ⟨b, off, none⟩) → b ≠ X := fun b off q => (hxr2 b off q).1
  have hr1 := h.r.below hb hX1
  have hn1 : ∀ j, X + 1 ≠ (⟨X, j, none⟩ : Addr).block := fun j => by show X + 1 ≠ X; omega
  have hx' := h.x.below hb hX
  have hW : ∀ j, w.heap.size ≤ (⟨X, j, none⟩ : Addr).block := fun j => h.xW
  refine ⟨fA', fc', aA', ac', wA', wc', he, hb, ⟨ho, ?_, ((((Five.set0 hx' _).set1 _).set2 _).set3 _).set4 _, ((((hr1.far (hn1 _) _).far (hn1 _) _).far (hn1 _) _).far (hn1 _) _).far (hn1 _) _, hxr2, h.xW, h.fresh.trans hfr h.bel.size, (((((h.bel.trans (hb.mono h.bel.size)).setCell (hW _) _).setCell (hW _) _).setCell (hW _) _).setCell (hW _) _).setCell (hW _) _⟩⟩
  refine RefAt.more (B := w'.heap.size) ?_ (by simp)
  exact ((((hr'.setOff hxr _).setOff hxr _).setOff hxr _).setOff hxr _).setOff hxr _
theorem PutSt.out (h : PutSt w wr X fA0 aA0 wA0 d fA fc aA ac wA wc) (a b c l o : Value) : Five (((((wr.setCell ⟨X + 1, 0, none⟩ a).setCell ⟨X + 1, 1, none⟩ b).setCell ⟨X + 1, 2, none⟩ c).setCell ⟨X + 1, 3, none⟩ l).setCell ⟨X + 1, 4, none⟩ o) (X + 1) a b c l o :=
  ((((Five.set0 h.r _).set1 _).set2 _).set3 _).set4 _
theorem PutSt.ret {code : Int} (h : PutSt w wr X fA0 aA0 wA0 d fA fc aA ac wA wc) : RefRet fA0 aA0 wA0 d code w (.returned (.tuple #[.agg #[.slice fA d.firm.length fc, .slice aA d.loose.length ac, .slice wA d.loose.length wc, .int .i64 d.leftR, .bool d.off], .int .i64 code]))
    (((((wr.setCell ⟨X + 1, 0, none⟩ (.slice fA d.firm.length fc)).setCell ⟨X + 1, 1, none⟩ (.slice aA d.loose.length ac)).setCell ⟨X + 1, 2, none⟩ (.slice wA d.loose.length wc)).setCell ⟨X + 1, 3, none⟩ (.int .i64 d.leftR)).setCell ⟨X + 1, 4, none⟩ (.bool d.off)) := by
  have hxr : ∀ b off, (fA = some ⟨b, off, none⟩ ∨ aA = some ⟨b, off, none⟩ ∨ wA = some ⟨b, off, none⟩) → b ≠ X + 1 := fun b off q => (h.xr b off q).2
  have hW : ∀ j, w.heap.size ≤ (⟨X + 1, j, none⟩ : Addr).block := fun j => Nat.le_succ_of_le h.xW
  refine ⟨fA, fc, aA, ac, wA, wc, rfl, RefAt.more (B := wr.heap.size) ?_ (by simp), (((((h.bel).setCell (hW _) _).setCell (hW _) _).setCell (hW _) _).setCell (hW _) _).setCell (hW _) _, h.fresh⟩
  exact ((((h.ref.setOff hxr _).setOff hxr _).setOff hxr _).setOff hxr _).setOff hxr _
end
theorem put_first {w : World} {d : DSt} (ho : d.Ok) {fA aA wA : Option Addr} {fc ac wc : Nat} (h : RefAt w w.heap.size d.firm d.loose fA aA ac wA wc) :
    PutSt w ((w.alloc (.cells #[.slice fA d.firm.length fc, .slice aA d.loose.length ac, .slice wA d.loose.length wc, .int .i64 d.leftR, .bool d.off] 30)).alloc (.cells #[.slice none 0 0, .slice none 0 0, .slice none 0 0, .int .i64 0, .bool false] 30)) w.heap.size fA aA wA d fA fc aA ac wA wc := by
  obtain ⟨k1, k2, hb⟩ := five_first w (.slice fA d.firm.length fc) (.slice aA d.loose.length ac) (.slice wA d.loose.length wc) (.int .i64 d.leftR) (.bool d.off)
  refine ⟨ho, h.next hb, k1, k2, fun b off e => ?_, Nat.le_refl _, fun _ _ e => .inr e, hb⟩
  have := h.lt ho.firm_pos.1 b off e
  omega
theorem writeE_seven {d : DSt} {i : Nat} {s : List UInt8} (hi : i < d.seen.length) (hs : s.length ≤ 32) : d.writeE (i : Int) s = 0 ∨ d.writeE (i : Int) s = 7 := by
  unfold DSt.writeE
  have : d.has (i : Int) = true := by unfold DSt.has; simp; omega
  rw [this, if_neg (by simp : ¬ (true = false)), if_neg (by omega : ¬ 32 < s.length)]
  split
  · exact .inr rfl
  · split
    · exact .inl rfl
    · exact .inr rfl
theorem flushE_seven (d : DSt) : d.flushE = 0 ∨ d.flushE = 7 := by
  unfold DSt.flushE
  split
  · exact .inr rfl
  · split
    · exact .inl rfl
    · exact .inr rfl

theorem writeD_seenL (d : DSt) (i : Int) (s : List UInt8) : (d.writeD i s).seen.length = d.seen.length := by
  unfold DSt.writeD DSt.put DSt.spent
  repeat' split
  all_goals simp
theorem chunk_extract (s : List UInt8) (q lo hi : Nat) (h : (s.length < 32 * q ∧ lo = s.length ∧ hi = s.length) ∨ (s.length < 32 * q + 32 ∧ lo = 32 * q ∧ hi = s.length) ∨ (32 * q + 32 ≤ s.length ∧ lo = 32 * q ∧ hi = 32 * q + 32)) : (str s).extract lo hi = str (chunk s q) := by
  rw [← str_of ((str s).extract lo hi), show ((str s).extract lo hi).data.toList = ((str s).data.toList.drop lo).take (hi - lo) from by simp [ByteArray.data_extract], str_list]
  congr 1
  unfold chunk
  rcases h with ⟨h1, rfl, rfl⟩ | ⟨h1, rfl, rfl⟩ | ⟨h1, rfl, rfl⟩
  · rw [List.drop_eq_nil_of_le (Nat.le_refl _), List.drop_eq_nil_of_le (by omega : s.length ≤ 32 * q)]; simp
  · rw [List.take_of_length_le (by rw [List.length_drop]; omega), List.take_of_length_le (by rw [List.length_drop]; omega)]
  · rw [Nat.add_sub_cancel_left]
theorem flushD_seenL (d : DSt) : d.flushD.seen.length = d.seen.length := by
  unfold DSt.flushD DSt.firmAll DSt.spent
  repeat' split
  all_goals rfl

set_option maxHeartbeats 4000000 in
set_option maxRecDepth 100000 in
theorem DocPuts_any {w : World} {d : DSt} (ho : d.Ok) {fA aA wA : Option Addr} {fc ac wc : Nat} (h : RefAt w w.heap.size d.firm d.loose fA aA ac wA wc) (s : List UInt8) (at_ : List Nat) {A : Option Addr} {cap n head : Nat} (hn : at_.length = n) (hA : Lies w w.heap.size A (at_.map natV)) (hat : ∀ x ∈ at_, x < d.seen.length) (hh : head < d.seen.length) (first : List UInt8) (hf : first.length ≤ 32) (hs : s.length ≤ 200000) (hl : d.loose.length + n + 1 ≤ 1000000) (hn2 : n ≤ 10000) :
    Calls Tryz.prog 46 #[.agg #[.slice fA d.firm.length fc, .slice aA d.loose.length ac, .slice wA d.loose.length wc, .int .i64 d.leftR, .bool d.off], .string (str s), .slice A n cap, .int .i64 head, .string (str first)] w (RefRet fA aA wA (d.storeD (partsAt s at_) (head, first)) (if d.storeE (partsAt s at_) (head, first) = true then 0 else 7) w) := by
  have HA := Lib.hid hA
  have HAt := Lib.hid hat
  have HN := Lib.hid hn
  have HP := Lib.hid (put_first (fc := fc) ho h)
  have HSz : Hid ((str s).size = s.length) := Lib.hid (str_size s)
  obtain ⟨SZ, hSZ⟩ : ∃ SZ, (str s).size = SZ := ⟨_, rfl⟩
  have hsz2 : SZ ≤ 200000 := by rw [← hSZ, str_size]; exact hs
  obtain ⟨S, hS⟩ : ∃ S, str s = S := ⟨_, rfl⟩
  rw [hS] at hSZ HSz ⊢
  have HS := Lib.hid hS
  obtain ⟨C, hC⟩ : ∃ C : Int, (if d.storeE (partsAt s at_) (head, first) = true then 0 else 7) = C := ⟨_, rfl⟩
  rw [hC]
  have HC := Lib.hid hC
  obtain ⟨DS, hDS⟩ : ∃ DS, d.storeD (partsAt s at_) (head, first) = DS := ⟨_, rfl⟩
  rw [hDS]
  have HDS := Lib.hid hDS
  clear hA hat hn h hS hC hDS
  go_enter Tryz.func46, Tryz.ntmps46
  go_wp2_with fail
  generalize (w.alloc (.cells #[.slice fA d.firm.length fc, .slice aA d.loose.length ac, .slice wA d.loose.length wc, .int .i64 d.leftR, .bool d.off] 30)).alloc (.cells #[.slice none 0 0, .slice none 0 0, .slice none 0 0, .int .i64 0, .bool false] 30) = w1 at *
  obtain ⟨X, hX⟩ : ∃ X, w.heap.size = X := ⟨_, rfl⟩
  rw [hX] at HP ⊢
  clear hX
  generalize hps : partsAt s at_ = ps at *
  have HPs := Lib.hid hps
  clear hps
  obtain ⟨N, hNN⟩ : ∃ N, d.seen.length = N := ⟨_, rfl⟩
  go_loopg [12, 13] n (fun kx s12 s13 wr => ∃ (q : Nat) (dq : DSt) (E : Int), s13 = .int .i64 q ∧ s12 = .int .i64 E ∧ q ≤ n ∧ n - q ≤ kx ∧ (E = 0 ∨ E = 7) ∧ dq.loose.length ≤ d.loose.length + q ∧ Hid (dq.seen.length = N) ∧ Hid (∃ fA' fc' aA' ac' wA' wc', PutSt w wr X fA aA wA dq fA' fc' aA' ac' wA' wc') ∧ Hid (E = 0 → d.putsD ps = dq.putsD (ps.drop q) ∧ d.putsE ps = dq.putsE (ps.drop q)) ∧ Hid (E = 7 → d.firmD ps = dq ∧ d.firmE ps = false))
  case atStart => exact ⟨0, d, 0, rfl, rfl, Nat.zero_le _, by omega, .inl rfl, by omega, Lib.hid hNN, Lib.hid ⟨_, _, _, _, _, _, HP.out⟩, Lib.hid (fun _ => ⟨rfl, rfl⟩), Lib.hid (fun h => absurd h (by decide))⟩
  case round =>
    clear HP
    obtain ⟨q, dq, E, rfl, rfl, hq, hqk, hE, hlo, HNq, HSt, H0, H7⟩ := hrel
    obtain ⟨fA', fc', aA', ac', wA', wc', hst⟩ := HSt.out
    have HO := Lib.hid hst
    clear HSt hst
    by_cases hE0 : E = 0
    · subst hE0
      by_cases hlt : q < n
      · have q1 : decide ((q : Int) < (n : Int)) = true := by rw [decide_eq_true_iff]; omega
        have hq0 : (0 : Int) ≤ (q : Int) := Int.natCast_nonneg _
        obtain ⟨x0, x1, x2, x3, x4, x5⟩ := HO.out.x.cells
        obtain ⟨tb, tf, hAe, htb, htc⟩ := HA.out.at_ (by intro e; rw [List.map_eq_nil_iff] at e; have := HN.out; rw [e] at this; simp at this; omega)
        subst hAe
        have hqn : q < at_.length := by rw [HN.out]; exact hlt
        obtain ⟨pos, hpos⟩ : ∃ pos, at_.getD q 0 = pos := ⟨_, rfl⟩
        have hposE : at_[q] = pos := by rw [← hpos, List.getD_eq_getElem?_getD, List.getElem?_eq_getElem hqn]; rfl
        have htx : w.cell? ⟨tb, tf + q, none⟩ = some (.int .i64 (pos : Int)) := by rw [htc q (by simpa using hqn)]; simp [natV, hposE]
        have HT := Lib.hid (fun w' (hb : Below w.heap.size w w') => (hb.cell (p := ⟨tb, tf + q, none⟩) htb).trans htx)
        have HPos : Hid (pos < N) := Lib.hid (by rw [← hNN, ← hposE]; exact HAt.out _ (List.getElem_mem _))
        have HDrop : Hid (ps.drop q = (pos, chunk s q) :: ps.drop (q + 1)) := Lib.hid (by
          have hql : q < ps.length := by rw [← HPs.out, partsAt_length]; exact hqn
          rw [List.drop_eq_getElem_cons hql]
          congr 1
          have := partsAt_at s at_ q hqn
          rw [hpos] at this
          rw [← this]
          simp only [HPs.out])
        clear htc htx hpos hposE hqn
        have H0 := Lib.hid H0
        have H7 := Lib.hid H7
        by_cases hlo1 : SZ < 32 * q
        · have q2 : decide ((SZ : Int) < 32 * (q : Int)) = true := by rw [decide_eq_true_iff]; omega
          have q3 : decide ((SZ : Int) < 32 * (q : Int) + 32) = true := by rw [decide_eq_true_iff]; omega
          obtain ⟨lo, hlo2⟩ : ∃ lo : Nat, SZ = lo := ⟨_, rfl⟩
          have HPart : Hid (S.extract lo lo = str (chunk s q)) := Lib.hid (by rw [← HS.out]; exact chunk_extract s q lo lo (.inl ⟨by have := HSz.out; omega, by have := HSz.out; omega, by have := HSz.out; omega⟩))
          have hlh : lo ≤ lo := by omega
          have hhS : lo ≤ SZ := by omega
          have HLH : Hid (lo ≤ lo ∧ lo ≤ SZ) := Lib.hid ⟨hlh, hhS⟩
          have HL2 := Lib.hid hlo2
          clear hlo2
          obtain ⟨hla, hhb⟩ := HLH.out
          go_wp2_with fail
          have eS : (SZ : Int) = (lo : Int) := by have := HL2.out; omega
          rw [eS]
          refine wp_region_held_drew (S := fun w' => Below w.heap.size w w') (by kernel_rfl) (HO.out.later (Below.refl _ _).drew).bel (fun hHeld => ?_)
          have HO6 := Lib.hid (HO.out.later (Below.refl _ _).drew)
          clear x0 x1 x2 x3 x4 x5 HO
          generalize wr.drew = w6 at *
          obtain ⟨x0, x1, x2, x3, x4, x5⟩ := HO6.out.x.cells
          refine wpAnyH_take (i := 1) (oi := { dst := some 45, op := Op.move (Operand.tmp 2), type := 28, pos := "ref.go:128", after := #[], guard := none }) (v := .slice (some ⟨tb, tf, none⟩) n cap) rfl (by kernel_rfl) (by kernel_rfl) (by kernel_rfl) (fun _ _ _ h => h) (Or.inl ⟨by rfl, fun w hS => by go_simp⟩) hHeld ?_
          try simp only [Act.put, List.setIfInBounds_toArray, List.set_cons_zero, List.set_cons_succ]
          refine wpAnyH_take (i := 2) (oi := { dst := some 46, op := Op.move (Operand.tmp 13), type := 3, pos := "ref.go:128", after := #[], guard := none }) (v := .int .i64 q) rfl (by kernel_rfl) (by kernel_rfl) (by kernel_rfl) (fun _ _ _ h => h) (Or.inl ⟨by rfl, fun w hS => by go_simp⟩) hHeld ?_
          try simp only [Act.put, List.setIfInBounds_toArray, List.set_cons_zero, List.set_cons_succ]
          refine wpAnyH_take (i := 3) (oi := { dst := some 47, op := Op.indexAddr 28 (Operand.tmp 45) (Operand.tmp 46), type := 0, pos := "ref.go:128", after := #[{ on := 1, ground := Ground.data }, { on := 2, ground := Ground.data }], guard := none }) (v := .pointer (some ⟨tb, tf + q, none⟩)) rfl (by kernel_rfl) (by kernel_rfl) (by kernel_rfl) (fun _ _ _ h => h) (Or.inl ⟨by rfl, fun w hS => by go_simp⟩) hHeld ?_
          try simp only [Act.put, List.setIfInBounds_toArray, List.set_cons_zero, List.set_cons_succ]
          refine wpAnyH_take (i := 4) (oi := { dst := some 48, op := Op.load 3 (Operand.tmp 47), type := 3, pos := "ref.go:128", after := #[{ on := 3, ground := Ground.data }], guard := none }) (v := .int .i64 (pos : Int)) rfl (by kernel_rfl) (by kernel_rfl) (by kernel_rfl) (fun _ _ _ h => h) (Or.inl ⟨by rfl, fun w hS => by have tq := HT.out w hS; go_simp⟩) hHeld ?_
          try simp only [Act.put, List.setIfInBounds_toArray, List.set_cons_zero, List.set_cons_succ]
          refine wpAnyH_take (i := 5) (oi := { dst := some 49, op := Op.move (Operand.tmp 1), type := 9, pos := "ref.go:128", after := #[], guard := none }) (v := .string S) rfl (by kernel_rfl) (by kernel_rfl) (by kernel_rfl) (fun _ _ _ h => h) (Or.inl ⟨by rfl, fun w hS => by go_simp⟩) hHeld ?_
          try simp only [Act.put, List.setIfInBounds_toArray, List.set_cons_zero, List.set_cons_succ]
          refine wpAnyH_take (i := 6) (oi := { dst := some 50, op := Op.move (Operand.tmp 14), type := 3, pos := "ref.go:128", after := #[], guard := none }) (v := .int .i64 (lo : Int)) rfl (by kernel_rfl) (by kernel_rfl) (by kernel_rfl) (fun _ _ _ h => h) (Or.inl ⟨by rfl, fun w hS => by go_simp⟩) hHeld ?_
          try simp only [Act.put, List.setIfInBounds_toArray, List.set_cons_zero, List.set_cons_succ]
          refine wpAnyH_take (i := 7) (oi := { dst := some 51, op := Op.move (Operand.tmp 15), type := 3, pos := "ref.go:128", after := #[], guard := none }) (v := .int .i64 (lo : Int)) rfl (by kernel_rfl) (by kernel_rfl) (by kernel_rfl) (fun _ _ _ h => h) (Or.inl ⟨by rfl, fun w hS => by go_simp⟩) hHeld ?_
          try simp only [Act.put, List.setIfInBounds_toArray, List.set_cons_zero, List.set_cons_succ]
          refine wpAnyH_take (i := 8) (oi := { dst := some 52, op := Op.slice 9 (Operand.tmp 49) (some (Operand.tmp 50)) (some (Operand.tmp 51)) none, type := 9, pos := "ref.go:128", after := #[{ on := 5, ground := Ground.data }, { on := 6, ground := Ground.data }, { on := 7, ground := Ground.data }], guard := none }) (v := .string (S.extract lo lo)) rfl (by kernel_rfl) (by kernel_rfl) (by kernel_rfl) (fun _ _ _ h => h) (Or.inl ⟨by rfl, fun w hS => by go_simp⟩) hHeld ?_
          try simp only [Act.put, List.setIfInBounds_toArray, List.set_cons_zero, List.set_cons_succ]
          refine wpAnyH_ready (rs := [0]) (by kernel_rfl) (by simp) ?_
          refine AllReadyH.cons (o := { dst := some 44, op := Op.load 30 (Operand.tmp 5), type := 30, pos := "ref.go:128", after := #[], guard := none }) rfl (fun K hK => ?_) AllReadyH.nil
          rw [if_pos (by rfl)]
          go_simp
          refine hK.out _ _ hHeld (fun hHeld1 => ?_)
          clear hK K
          try simp only [Act.put, List.setIfInBounds_toArray, List.set_cons_zero, List.set_cons_succ]
          clear x0 x1 x2 x3 x4 x5
          refine wpAnyH_ready (rs := [9]) (by kernel_rfl) (by simp) ?_
          refine AllReadyH.cons (o := { dst := some 53, op := Op.call { callee := Callee.value (Operand.func 76), args := #[Operand.tmp 44, Operand.tmp 48, Operand.tmp 52], argTypes := #[30, 3, 9] }, type := 48, pos := "ref.go:128", after := #[{ on := 0, ground := Ground.data }, { on := 4, ground := Ground.data }, { on := 8, ground := Ground.data }], guard := none }) rfl (fun K hK => ?_) AllReadyH.nil
          rw [if_pos (by rfl)]
          go_simp
          rw [show ByteArray.empty = str (chunk s q) from by rw [← HPart.out]; simp]
          refine (RefWrite_any HO6.out.ok HO6.out.ref (by omega) (pos : Int) (str (chunk s q)) (by have := chunk_length s q; rw [str_size]; omega)).mono ?_
          rw [str_list]
          intro e w7 h7
          have HW7 : Hid (dq.writeE (pos : Int) (chunk s q) = 0 ∨ dq.writeE (pos : Int) (chunk s q) = 7) := Lib.hid (writeE_seven (by rw [HNq.out]; exact HPos.out) (chunk_length s q))
          obtain ⟨fA3, fc3, aA3, ac3, wA3, wc3, rfl, hb7, hp7⟩ := HO6.out.ask (HO6.out.ok.writeD _ _) h7
          have HO7 := Lib.hid hp7
          have HX7 := Lib.hid (HO6.out.x.below hb7 (heap_lt HO6.out.x))
          have HB7 := Lib.hid (HO6.out.bel.trans (hb7.mono HO6.out.bel.size))
          have HL7 : Hid ((dq.writeD (pos : Int) (chunk s q)).loose.length ≤ d.loose.length + (q + 1)) := Lib.hid (by have := writeD_looseW dq (pos : Int) (chunk s q); omega)
          have HN7 : Hid ((dq.writeD (pos : Int) (chunk s q)).seen.length = N) := Lib.hid (by rw [writeD_seenL]; exact HNq.out)
          have HG0 : Hid (dq.writeE (pos : Int) (chunk s q) = 0 → d.putsD ps = (dq.writeD (pos : Int) (chunk s q)).putsD (ps.drop (q + 1)) ∧ d.putsE ps = (dq.writeD (pos : Int) (chunk s q)).putsE (ps.drop (q + 1))) := Lib.hid (fun h0 => by
            obtain ⟨g1, g2⟩ := H0.out.out (by trivial)
            rw [g1, g2, HDrop.out]
            show (if dq.writeE (pos : Int) (chunk s q) = 0 then _ else _ : DSt) = _ ∧ (if dq.writeE (pos : Int) (chunk s q) = 0 then _ else _ : Bool) = _
            rw [if_pos h0, if_pos h0]
            exact ⟨rfl, rfl⟩)
          have HG7 : Hid (dq.writeE (pos : Int) (chunk s q) ≠ 0 → d.firmD ps = dq.writeD (pos : Int) (chunk s q) ∧ d.firmE ps = false) := Lib.hid (fun h0 => by
            obtain ⟨g1, g2⟩ := H0.out.out (by trivial)
            unfold DSt.firmD DSt.firmE
            rw [g1, g2, HDrop.out]
            have a1 : dq.putsE ((pos, chunk s q) :: ps.drop (q + 1)) = false := by show (if dq.writeE (pos : Int) (chunk s q) = 0 then _ else _ : Bool) = _; rw [if_neg h0]
            have a2 : dq.putsD ((pos, chunk s q) :: ps.drop (q + 1)) = dq.writeD (pos : Int) (chunk s q) := by show (if dq.writeE (pos : Int) (chunk s q) = 0 then _ else _ : DSt) = _; rw [if_neg h0]
            rw [a1, a2]
            exact ⟨rfl, rfl⟩)
          clear h7 hp7 HO6 HDrop H0 H7
          generalize dq.writeD (pos : Int) (chunk s q) = dw at *
          generalize dq.writeE (pos : Int) (chunk s q) = EW at *
          go_wp2_with fail
          refine hK.out _ _ HB7.out (fun hHeld2 => ?_)
          clear hK K
          try simp only [Act.put, List.setIfInBounds_toArray, List.set_cons_zero, List.set_cons_succ]
          refine wpAnyH_take (i := 10) (oi := { dst := some 43, op := Op.move (Operand.tmp 53), type := 48, pos := "ref.go:128", after := #[{ on := 9, ground := Ground.data }], guard := none }) (v := .tuple #[.agg #[.slice fA3 dw.firm.length fc3, .slice aA3 dw.loose.length ac3, .slice wA3 dw.loose.length wc3, .int .i64 dw.leftR, .bool dw.off], .int .i64 EW]) rfl (by kernel_rfl) (by kernel_rfl) (by kernel_rfl) (fun _ _ _ h => h) (Or.inl ⟨by rfl, fun w hS => by go_simp⟩) hHeld2 ?_
          try simp only [Act.put, List.setIfInBounds_toArray, List.set_cons_zero, List.set_cons_succ]
          refine wpAnyH_take (i := 11) (oi := { dst := some 54, op := Op.extract (Operand.tmp 43) 0, type := 30, pos := "ref.go:128", after := #[{ on := 10, ground := Ground.data }], guard := none }) (v := .agg #[.slice fA3 dw.firm.length fc3, .slice aA3 dw.loose.length ac3, .slice wA3 dw.loose.length wc3, .int .i64 dw.leftR, .bool dw.off]) rfl (by kernel_rfl) (by kernel_rfl) (by kernel_rfl) (fun _ _ _ h => h) (Or.inl ⟨by rfl, fun w hS => by go_simp⟩) hHeld2 ?_
          try simp only [Act.put, List.setIfInBounds_toArray, List.set_cons_zero, List.set_cons_succ]
          refine wpAnyH_take (i := 12) (oi := { dst := some 55, op := Op.extract (Operand.tmp 43) 1, type := 3, pos := "ref.go:128", after := #[{ on := 10, ground := Ground.data }, { on := 13, ground := Ground.gcOnly Departure.lateStores }], guard := none }) (v := .int .i64 EW) rfl (by kernel_rfl) (by kernel_rfl) (by kernel_rfl) (fun _ _ _ h => h) (Or.inl ⟨by rfl, fun w hS => by go_simp⟩) hHeld2 ?_
          try simp only [Act.put, List.setIfInBounds_toArray, List.set_cons_zero, List.set_cons_succ]
          obtain ⟨x0, x1, x2, x3, x4, x5⟩ := HX7.out.cells
          refine wpAnyH_ready (rs := [13]) (by kernel_rfl) (by simp) ?_
          refine AllReadyH.cons (o := { dst := none, op := Op.store 30 (Operand.tmp 5) (Operand.tmp 54), type := 0, pos := "ref.go:128", after := #[{ on := 11, ground := Ground.data }, { on := 9, ground := Ground.chain }, { on := 0, ground := Ground.phase }, { on := 1, ground := Ground.phase }, { on := 2, ground := Ground.phase }, { on := 3, ground := Ground.phase }, { on := 4, ground := Ground.phase }, { on := 5, ground := Ground.phase }, { on := 6, ground := Ground.phase }, { on := 7, ground := Ground.phase }, { on := 8, ground := Ground.phase }, { on := 9, ground := Ground.phase }, { on := 10, ground := Ground.phase }, { on := 11, ground := Ground.phase }, { on := 12, ground := Ground.textOnly Departure.lateStores }], guard := none }) rfl (fun K hK => ?_) AllReadyH.nil
          rw [if_pos (by rfl)]
          go_simp
          refine hK.out _ _ HO7.out.bel (fun hHeld3 => ?_)
          clear hK K
          try simp only [Act.put, List.setIfInBounds_toArray, List.set_cons_zero, List.set_cons_succ]
          refine wpAnyH_take (i := 14) (oi := { dst := some 12, op := Op.assign (Operand.tmp 55), type := 3, pos := "ref.go:128", after := #[{ on := 12, ground := Ground.data }, { on := 13, ground := Ground.chain }, { on := 0, ground := Ground.phase }, { on := 1, ground := Ground.phase }, { on := 2, ground := Ground.phase }, { on := 3, ground := Ground.phase }, { on := 4, ground := Ground.phase }, { on := 5, ground := Ground.phase }, { on := 6, ground := Ground.phase }, { on := 7, ground := Ground.phase }, { on := 8, ground := Ground.phase }, { on := 9, ground := Ground.phase }, { on := 10, ground := Ground.phase }, { on := 11, ground := Ground.phase }, { on := 12, ground := Ground.phase }, { on := 13, ground := Ground.phase }], guard := none }) (v := .int .i64 EW) rfl (by kernel_rfl) (by kernel_rfl) (by kernel_rfl) (fun _ _ _ h => h) (Or.inl ⟨by rfl, fun w hS => by go_simp⟩) hHeld3 ?_
          try simp only [Act.put, List.setIfInBounds_toArray, List.set_cons_zero, List.set_cons_succ]
          refine wpAnyH_done (by kernel_rfl) ?_ _
          clear x0 x1 x2 x3 x4 x5
          go_wp2_with fail
          go_roundg (n - (q + 1))
          case measure => omega
          case rel => exact ⟨q + 1, dw, EW, by go_num, rfl, by omega, Nat.le_refl _, HW7.out, HL7.out, HN7, Lib.hid ⟨_, _, _, _, _, _, HO7.out⟩, HG0, Lib.hid (fun h7 => HG7.out (by omega))⟩
        · by_cases hhi1 : SZ < 32 * q + 32
          · have q2 : decide ((SZ : Int) < 32 * (q : Int)) = false := by rw [decide_eq_false_iff_not]; omega
            have q3 : decide ((SZ : Int) < 32 * (q : Int) + 32) = true := by rw [decide_eq_true_iff]; omega
            obtain ⟨lo, hlo2⟩ : ∃ lo : Nat, 32 * q = lo := ⟨_, rfl⟩
            obtain ⟨hi, hhi2⟩ : ∃ hi : Nat, SZ = hi := ⟨_, rfl⟩
            have HPart : Hid (S.extract lo hi = str (chunk s q)) := Lib.hid (by rw [← HS.out]; exact chunk_extract s q lo hi (.inr (.inl ⟨by have := HSz.out; omega, by have := HSz.out; omega, by have := HSz.out; omega⟩)))
            have hlh : lo ≤ hi := by omega
            have hhS : hi ≤ SZ := by omega
            have HLH : Hid (lo ≤ hi ∧ hi ≤ SZ) := Lib.hid ⟨hlh, hhS⟩
            have HL2 := Lib.hid hlo2
            have HH2 := Lib.hid hhi2
            clear hlo2 hhi2
            obtain ⟨hla, hhb⟩ := HLH.out
            go_wp2_with fail
            have eL : (32 : Int) * (q : Int) = (lo : Int) := by have := HL2.out; omega
            have eH : (SZ : Int) = (hi : Int) := by have := HL2.out; have := HH2.out; omega
            rw [eL, eH]
            refine wp_region_held_drew (S := fun w' => Below w.heap.size w w') (by kernel_rfl) (HO.out.later (Below.refl _ _).drew).bel (fun hHeld => ?_)
            have HO6 := Lib.hid (HO.out.later (Below.refl _ _).drew)
            clear x0 x1 x2 x3 x4 x5 HO
            generalize wr.drew = w6 at *
            obtain ⟨x0, x1, x2, x3, x4, x5⟩ := HO6.out.x.cells
            refine wpAnyH_take (i := 1) (oi := { dst := some 45, op := Op.move (Operand.tmp 2), type := 28, pos := "ref.go:128", after := #[], guard := none }) (v := .slice (some ⟨tb, tf, none⟩) n cap) rfl (by kernel_rfl) (by kernel_rfl) (by kernel_rfl) (fun _ _ _ h => h) (Or.inl ⟨by rfl, fun w hS => by go_simp⟩) hHeld ?_
            try simp only [Act.put, List.setIfInBounds_toArray, List.set_cons_zero, List.set_cons_succ]
            refine wpAnyH_take (i := 2) (oi := { dst := some 46, op := Op.move (Operand.tmp 13), type := 3, pos := "ref.go:128", after := #[], guard := none }) (v := .int .i64 q) rfl (by kernel_rfl) (by kernel_rfl) (by kernel_rfl) (fun _ _ _ h => h) (Or.inl ⟨by rfl, fun w hS => by go_simp⟩) hHeld ?_
            try simp only [Act.put, List.setIfInBounds_toArray, List.set_cons_zero, List.set_cons_succ]
            refine wpAnyH_take (i := 3) (oi := { dst := some 47, op := Op.indexAddr 28 (Operand.tmp 45) (Operand.tmp 46), type := 0, pos := "ref.go:128", after := #[{ on := 1, ground := Ground.data }, { on := 2, ground := Ground.data }], guard := none }) (v := .pointer (some ⟨tb, tf + q, none⟩)) rfl (by kernel_rfl) (by kernel_rfl) (by kernel_rfl) (fun _ _ _ h => h) (Or.inl ⟨by rfl, fun w hS => by go_simp⟩) hHeld ?_
            try simp only [Act.put, List.setIfInBounds_toArray, List.set_cons_zero, List.set_cons_succ]
            refine wpAnyH_take (i := 4) (oi := { dst := some 48, op := Op.load 3 (Operand.tmp 47), type := 3, pos := "ref.go:128", after := #[{ on := 3, ground := Ground.data }], guard := none }) (v := .int .i64 (pos : Int)) rfl (by kernel_rfl) (by kernel_rfl) (by kernel_rfl) (fun _ _ _ h => h) (Or.inl ⟨by rfl, fun w hS => by have tq := HT.out w hS; go_simp⟩) hHeld ?_
            try simp only [Act.put, List.setIfInBounds_toArray, List.set_cons_zero, List.set_cons_succ]
            refine wpAnyH_take (i := 5) (oi := { dst := some 49, op := Op.move (Operand.tmp 1), type := 9, pos := "ref.go:128", after := #[], guard := none }) (v := .string S) rfl (by kernel_rfl) (by kernel_rfl) (by kernel_rfl) (fun _ _ _ h => h) (Or.inl ⟨by rfl, fun w hS => by go_simp⟩) hHeld ?_
            try simp only [Act.put, List.setIfInBounds_toArray, List.set_cons_zero, List.set_cons_succ]
            refine wpAnyH_take (i := 6) (oi := { dst := some 50, op := Op.move (Operand.tmp 14), type := 3, pos := "ref.go:128", after := #[], guard := none }) (v := .int .i64 (lo : Int)) rfl (by kernel_rfl) (by kernel_rfl) (by kernel_rfl) (fun _ _ _ h => h) (Or.inl ⟨by rfl, fun w hS => by go_simp⟩) hHeld ?_
            try simp only [Act.put, List.setIfInBounds_toArray, List.set_cons_zero, List.set_cons_succ]
            refine wpAnyH_take (i := 7) (oi := { dst := some 51, op := Op.move (Operand.tmp 15), type := 3, pos := "ref.go:128", after := #[], guard := none }) (v := .int .i64 (hi : Int)) rfl (by kernel_rfl) (by kernel_rfl) (by kernel_rfl) (fun _ _ _ h => h) (Or.inl ⟨by rfl, fun w hS => by go_simp⟩) hHeld ?_
            try simp only [Act.put, List.setIfInBounds_toArray, List.set_cons_zero, List.set_cons_succ]
            refine wpAnyH_take (i := 8) (oi := { dst := some 52, op := Op.slice 9 (Operand.tmp 49) (some (Operand.tmp 50)) (some (Operand.tmp 51)) none, type := 9, pos := "ref.go:128", after := #[{ on := 5, ground := Ground.data }, { on := 6, ground := Ground.data }, { on := 7, ground := Ground.data }], guard := none }) (v := .string (S.extract lo hi)) rfl (by kernel_rfl) (by kernel_rfl) (by kernel_rfl) (fun _ _ _ h => h) (Or.inl ⟨by rfl, fun w hS => by go_simp⟩) hHeld ?_
            try simp only [Act.put, List.setIfInBounds_toArray, List.set_cons_zero, List.set_cons_succ]
            refine wpAnyH_ready (rs := [0]) (by kernel_rfl) (by simp) ?_
            refine AllReadyH.cons (o := { dst := some 44, op := Op.load 30 (Operand.tmp 5), type := 30, pos := "ref.go:128", after := #[], guard := none }) rfl (fun K hK => ?_) AllReadyH.nil
            rw [if_pos (by rfl)]
            go_simp
            refine hK.out _ _ hHeld (fun hHeld1 => ?_)
            clear hK K
            try simp only [Act.put, List.setIfInBounds_toArray, List.set_cons_zero, List.set_cons_succ]
            clear x0 x1 x2 x3 x4 x5
            refine wpAnyH_ready (rs := [9]) (by kernel_rfl) (by simp) ?_
            refine AllReadyH.cons (o := { dst := some 53, op := Op.call { callee := Callee.value (Operand.func 76), args := #[Operand.tmp 44, Operand.tmp 48, Operand.tmp 52], argTypes := #[30, 3, 9] }, type := 48, pos := "ref.go:128", after := #[{ on := 0, ground := Ground.data }, { on := 4, ground := Ground.data }, { on := 8, ground := Ground.data }], guard := none }) rfl (fun K hK => ?_) AllReadyH.nil
            rw [if_pos (by rfl)]
            go_simp
            rw [HPart.out]
            refine (RefWrite_any HO6.out.ok HO6.out.ref (by omega) (pos : Int) (str (chunk s q)) (by have := chunk_length s q; rw [str_size]; omega)).mono ?_
            rw [str_list]
            intro e w7 h7
            have HW7 : Hid (dq.writeE (pos : Int) (chunk s q) = 0 ∨ dq.writeE (pos : Int) (chunk s q) = 7) := Lib.hid (writeE_seven (by rw [HNq.out]; exact HPos.out) (chunk_length s q))
            obtain ⟨fA3, fc3, aA3, ac3, wA3, wc3, rfl, hb7, hp7⟩ := HO6.out.ask (HO6.out.ok.writeD _ _) h7
            have HO7 := Lib.hid hp7
            have HX7 := Lib.hid (HO6.out.x.below hb7 (heap_lt HO6.out.x))
            have HB7 := Lib.hid (HO6.out.bel.trans (hb7.mono HO6.out.bel.size))
            have HL7 : Hid ((dq.writeD (pos : Int) (chunk s q)).loose.length ≤ d.loose.length + (q + 1)) := Lib.hid (by have := writeD_looseW dq (pos : Int) (chunk s q); omega)
            have HN7 : Hid ((dq.writeD (pos : Int) (chunk s q)).seen.length = N) := Lib.hid (by rw [writeD_seenL]; exact HNq.out)
            have HG0 : Hid (dq.writeE (pos : Int) (chunk s q) = 0 → d.putsD ps = (dq.writeD (pos : Int) (chunk s q)).putsD (ps.drop (q + 1)) ∧ d.putsE ps = (dq.writeD (pos : Int) (chunk s q)).putsE (ps.drop (q + 1))) := Lib.hid (fun h0 => by
              obtain ⟨g1, g2⟩ := H0.out.out (by trivial)
              rw [g1, g2, HDrop.out]
              show (if dq.writeE (pos : Int) (chunk s q) = 0 then _ else _ : DSt) = _ ∧ (if dq.writeE (pos : Int) (chunk s q) = 0 then _ else _ : Bool) = _
              rw [if_pos h0, if_pos h0]
              exact ⟨rfl, rfl⟩)
            have HG7 : Hid (dq.writeE (pos : Int) (chunk s q) ≠ 0 → d.firmD ps = dq.writeD (pos : Int) (chunk s q) ∧ d.firmE ps = false) := Lib.hid (fun h0 => by
              obtain ⟨g1, g2⟩ := H0.out.out (by trivial)
              unfold DSt.firmD DSt.firmE
              rw [g1, g2, HDrop.out]
              have a1 : dq.putsE ((pos, chunk s q) :: ps.drop (q + 1)) = false := by show (if dq.writeE (pos : Int) (chunk s q) = 0 then _ else _ : Bool) = _; rw [if_neg h0]
              have a2 : dq.putsD ((pos, chunk s q) :: ps.drop (q + 1)) = dq.writeD (pos : Int) (chunk s q) := by show (if dq.writeE (pos : Int) (chunk s q) = 0 then _ else _ : DSt) = _; rw [if_neg h0]
              rw [a1, a2]
              exact ⟨rfl, rfl⟩)
            clear h7 hp7 HO6 HDrop H0 H7
            generalize dq.writeD (pos : Int) (chunk s q) = dw at *
            generalize dq.writeE (pos : Int) (chunk s q) = EW at *
            go_wp2_with fail
            refine hK.out _ _ HB7.out (fun hHeld2 => ?_)
            clear hK K
            try simp only [Act.put, List.setIfInBounds_toArray, List.set_cons_zero, List.set_cons_succ]
            refine wpAnyH_take (i := 10) (oi := { dst := some 43, op := Op.move (Operand.tmp 53), type := 48, pos := "ref.go:128", after := #[{ on := 9, ground := Ground.data }], guard := none }) (v := .tuple #[.agg #[.slice fA3 dw.firm.length fc3, .slice aA3 dw.loose.length ac3, .slice wA3 dw.loose.length wc3, .int .i64 dw.leftR, .bool dw.off], .int .i64 EW]) rfl (by kernel_rfl) (by kernel_rfl) (by kernel_rfl) (fun _ _ _ h => h) (Or.inl ⟨by rfl, fun w hS => by go_simp⟩) hHeld2 ?_
            try simp only [Act.put, List.setIfInBounds_toArray, List.set_cons_zero, List.set_cons_succ]
            refine wpAnyH_take (i := 11) (oi := { dst := some 54, op := Op.extract (Operand.tmp 43) 0, type := 30, pos := "ref.go:128", after := #[{ on := 10, ground := Ground.data }], guard := none }) (v := .agg #[.slice fA3 dw.firm.length fc3, .slice aA3 dw.loose.length ac3, .slice wA3 dw.loose.length wc3, .int .i64 dw.leftR, .bool dw.off]) rfl (by kernel_rfl) (by kernel_rfl) (by kernel_rfl) (fun _ _ _ h => h) (Or.inl ⟨by rfl, fun w hS => by go_simp⟩) hHeld2 ?_
            try simp only [Act.put, List.setIfInBounds_toArray, List.set_cons_zero, List.set_cons_succ]
            refine wpAnyH_take (i := 12) (oi := { dst := some 55, op := Op.extract (Operand.tmp 43) 1, type := 3, pos := "ref.go:128", after := #[{ on := 10, ground := Ground.data }, { on := 13, ground := Ground.gcOnly Departure.lateStores }], guard := none }) (v := .int .i64 EW) rfl (by kernel_rfl) (by kernel_rfl) (by kernel_rfl) (fun _ _ _ h => h) (Or.inl ⟨by rfl, fun w hS => by go_simp⟩) hHeld2 ?_
            try simp only [Act.put, List.setIfInBounds_toArray, List.set_cons_zero, List.set_cons_succ]
            obtain ⟨x0, x1, x2, x3, x4, x5⟩ := HX7.out.cells
            refine wpAnyH_ready (rs := [13]) (by kernel_rfl) (by simp) ?_
            refine AllReadyH.cons (o := { dst := none, op := Op.store 30 (Operand.tmp 5) (Operand.tmp 54), type := 0, pos := "ref.go:128", after := #[{ on := 11, ground := Ground.data }, { on := 9, ground := Ground.chain }, { on := 0, ground := Ground.phase }, { on := 1, ground := Ground.phase }, { on := 2, ground := Ground.phase }, { on := 3, ground := Ground.phase }, { on := 4, ground := Ground.phase }, { on := 5, ground := Ground.phase }, { on := 6, ground := Ground.phase }, { on := 7, ground := Ground.phase }, { on := 8, ground := Ground.phase }, { on := 9, ground := Ground.phase }, { on := 10, ground := Ground.phase }, { on := 11, ground := Ground.phase }, { on := 12, ground := Ground.textOnly Departure.lateStores }], guard := none }) rfl (fun K hK => ?_) AllReadyH.nil
            rw [if_pos (by rfl)]
            go_simp
            refine hK.out _ _ HO7.out.bel (fun hHeld3 => ?_)
            clear hK K
            try simp only [Act.put, List.setIfInBounds_toArray, List.set_cons_zero, List.set_cons_succ]
            refine wpAnyH_take (i := 14) (oi := { dst := some 12, op := Op.assign (Operand.tmp 55), type := 3, pos := "ref.go:128", after := #[{ on := 12, ground := Ground.data }, { on := 13, ground := Ground.chain }, { on := 0, ground := Ground.phase }, { on := 1, ground := Ground.phase }, { on := 2, ground := Ground.phase }, { on := 3, ground := Ground.phase }, { on := 4, ground := Ground.phase }, { on := 5, ground := Ground.phase }, { on := 6, ground := Ground.phase }, { on := 7, ground := Ground.phase }, { on := 8, ground := Ground.phase }, { on := 9, ground := Ground.phase }, { on := 10, ground := Ground.phase }, { on := 11, ground := Ground.phase }, { on := 12, ground := Ground.phase }, { on := 13, ground := Ground.phase }], guard := none }) (v := .int .i64 EW) rfl (by kernel_rfl) (by kernel_rfl) (by kernel_rfl) (fun _ _ _ h => h) (Or.inl ⟨by rfl, fun w hS => by go_simp⟩) hHeld3 ?_
            try simp only [Act.put, List.setIfInBounds_toArray, List.set_cons_zero, List.set_cons_succ]
            refine wpAnyH_done (by kernel_rfl) ?_ _
            clear x0 x1 x2 x3 x4 x5
            go_wp2_with fail
            go_roundg (n - (q + 1))
            case measure => omega
            case rel => exact ⟨q + 1, dw, EW, by go_num, rfl, by omega, Nat.le_refl _, HW7.out, HL7.out, HN7, Lib.hid ⟨_, _, _, _, _, _, HO7.out⟩, HG0, Lib.hid (fun h7 => HG7.out (by omega))⟩
          · have q2 : decide ((SZ : Int) < 32 * (q : Int)) = false := by rw [decide_eq_false_iff_not]; omega
            have q3 : decide ((SZ : Int) < 32 * (q : Int) + 32) = false := by rw [decide_eq_false_iff_not]; omega
            obtain ⟨lo, hlo2⟩ : ∃ lo : Nat, 32 * q = lo := ⟨_, rfl⟩
            obtain ⟨hi, hhi2⟩ : ∃ hi : Nat, 32 * q + 32 = hi := ⟨_, rfl⟩
            have HPart : Hid (S.extract lo hi = str (chunk s q)) := Lib.hid (by rw [← HS.out]; exact chunk_extract s q lo hi (.inr (.inr ⟨by have := HSz.out; omega, by have := HSz.out; omega, by have := HSz.out; omega⟩)))
            have hlh : lo ≤ hi := by omega
            have hhS : hi ≤ SZ := by omega
            have HLH : Hid (lo ≤ hi ∧ hi ≤ SZ) := Lib.hid ⟨hlh, hhS⟩
            have HL2 := Lib.hid hlo2
            have HH2 := Lib.hid hhi2
            clear hlo2 hhi2
            obtain ⟨hla, hhb⟩ := HLH.out
            go_wp2_with fail
            have eL : (32 : Int) * (q : Int) = (lo : Int) := by have := HL2.out; omega
            have eH : (lo : Int) + 32 = (hi : Int) := by have := HL2.out; have := HH2.out; omega
            rw [eL, eH]
            refine wp_region_held_drew (S := fun w' => Below w.heap.size w w') (by kernel_rfl) (HO.out.later (Below.refl _ _).drew).bel (fun hHeld => ?_)
            have HO6 := Lib.hid (HO.out.later (Below.refl _ _).drew)
            clear x0 x1 x2 x3 x4 x5 HO
            generalize wr.drew = w6 at *
            obtain ⟨x0, x1, x2, x3, x4, x5⟩ := HO6.out.x.cells
            refine wpAnyH_take (i := 1) (oi := { dst := some 45, op := Op.move (Operand.tmp 2), type := 28, pos := "ref.go:128", after := #[], guard := none }) (v := .slice (some ⟨tb, tf, none⟩) n cap) rfl (by kernel_rfl) (by kernel_rfl) (by kernel_rfl) (fun _ _ _ h => h) (Or.inl ⟨by rfl, fun w hS => by go_simp⟩) hHeld ?_
            try simp only [Act.put, List.setIfInBounds_toArray, List.set_cons_zero, List.set_cons_succ]
            refine wpAnyH_take (i := 2) (oi := { dst := some 46, op := Op.move (Operand.tmp 13), type := 3, pos := "ref.go:128", after := #[], guard := none }) (v := .int .i64 q) rfl (by kernel_rfl) (by kernel_rfl) (by kernel_rfl) (fun _ _ _ h => h) (Or.inl ⟨by rfl, fun w hS => by go_simp⟩) hHeld ?_
            try simp only [Act.put, List.setIfInBounds_toArray, List.set_cons_zero, List.set_cons_succ]
            refine wpAnyH_take (i := 3) (oi := { dst := some 47, op := Op.indexAddr 28 (Operand.tmp 45) (Operand.tmp 46), type := 0, pos := "ref.go:128", after := #[{ on := 1, ground := Ground.data }, { on := 2, ground := Ground.data }], guard := none }) (v := .pointer (some ⟨tb, tf + q, none⟩)) rfl (by kernel_rfl) (by kernel_rfl) (by kernel_rfl) (fun _ _ _ h => h) (Or.inl ⟨by rfl, fun w hS => by go_simp⟩) hHeld ?_
            try simp only [Act.put, List.setIfInBounds_toArray, List.set_cons_zero, List.set_cons_succ]
            refine wpAnyH_take (i := 4) (oi := { dst := some 48, op := Op.load 3 (Operand.tmp 47), type := 3, pos := "ref.go:128", after := #[{ on := 3, ground := Ground.data }], guard := none }) (v := .int .i64 (pos : Int)) rfl (by kernel_rfl) (by kernel_rfl) (by kernel_rfl) (fun _ _ _ h => h) (Or.inl ⟨by rfl, fun w hS => by have tq := HT.out w hS; go_simp⟩) hHeld ?_
            try simp only [Act.put, List.setIfInBounds_toArray, List.set_cons_zero, List.set_cons_succ]
            refine wpAnyH_take (i := 5) (oi := { dst := some 49, op := Op.move (Operand.tmp 1), type := 9, pos := "ref.go:128", after := #[], guard := none }) (v := .string S) rfl (by kernel_rfl) (by kernel_rfl) (by kernel_rfl) (fun _ _ _ h => h) (Or.inl ⟨by rfl, fun w hS => by go_simp⟩) hHeld ?_
            try simp only [Act.put, List.setIfInBounds_toArray, List.set_cons_zero, List.set_cons_succ]
            refine wpAnyH_take (i := 6) (oi := { dst := some 50, op := Op.move (Operand.tmp 14), type := 3, pos := "ref.go:128", after := #[], guard := none }) (v := .int .i64 (lo : Int)) rfl (by kernel_rfl) (by kernel_rfl) (by kernel_rfl) (fun _ _ _ h => h) (Or.inl ⟨by rfl, fun w hS => by go_simp⟩) hHeld ?_
            try simp only [Act.put, List.setIfInBounds_toArray, List.set_cons_zero, List.set_cons_succ]
            refine wpAnyH_take (i := 7) (oi := { dst := some 51, op := Op.move (Operand.tmp 15), type := 3, pos := "ref.go:128", after := #[], guard := none }) (v := .int .i64 (hi : Int)) rfl (by kernel_rfl) (by kernel_rfl) (by kernel_rfl) (fun _ _ _ h => h) (Or.inl ⟨by rfl, fun w hS => by go_simp⟩) hHeld ?_
            try simp only [Act.put, List.setIfInBounds_toArray, List.set_cons_zero, List.set_cons_succ]
            refine wpAnyH_take (i := 8) (oi := { dst := some 52, op := Op.slice 9 (Operand.tmp 49) (some (Operand.tmp 50)) (some (Operand.tmp 51)) none, type := 9, pos := "ref.go:128", after := #[{ on := 5, ground := Ground.data }, { on := 6, ground := Ground.data }, { on := 7, ground := Ground.data }], guard := none }) (v := .string (S.extract lo hi)) rfl (by kernel_rfl) (by kernel_rfl) (by kernel_rfl) (fun _ _ _ h => h) (Or.inl ⟨by rfl, fun w hS => by go_simp⟩) hHeld ?_
            try simp only [Act.put, List.setIfInBounds_toArray, List.set_cons_zero, List.set_cons_succ]
            refine wpAnyH_ready (rs := [0]) (by kernel_rfl) (by simp) ?_
            refine AllReadyH.cons (o := { dst := some 44, op := Op.load 30 (Operand.tmp 5), type := 30, pos := "ref.go:128", after := #[], guard := none }) rfl (fun K hK => ?_) AllReadyH.nil
            rw [if_pos (by rfl)]
            go_simp
            refine hK.out _ _ hHeld (fun hHeld1 => ?_)
            clear hK K
            try simp only [Act.put, List.setIfInBounds_toArray, List.set_cons_zero, List.set_cons_succ]
            clear x0 x1 x2 x3 x4 x5
            refine wpAnyH_ready (rs := [9]) (by kernel_rfl) (by simp) ?_
            refine AllReadyH.cons (o := { dst := some 53, op := Op.call { callee := Callee.value (Operand.func 76), args := #[Operand.tmp 44, Operand.tmp 48, Operand.tmp 52], argTypes := #[30, 3, 9] }, type := 48, pos := "ref.go:128", after := #[{ on := 0, ground := Ground.data }, { on := 4, ground := Ground.data }, { on := 8, ground := Ground.data }], guard := none }) rfl (fun K hK => ?_) AllReadyH.nil
            rw [if_pos (by rfl)]
            go_simp
            rw [HPart.out]
            refine (RefWrite_any HO6.out.ok HO6.out.ref (by omega) (pos : Int) (str (chunk s q)) (by have := chunk_length s q; rw [str_size]; omega)).mono ?_
            rw [str_list]
            intro e w7 h7
            have HW7 : Hid (dq.writeE (pos : Int) (chunk s q) = 0 ∨ dq.writeE (pos : Int) (chunk s q) = 7) := Lib.hid (writeE_seven (by rw [HNq.out]; exact HPos.out) (chunk_length s q))
            obtain ⟨fA3, fc3, aA3, ac3, wA3, wc3, rfl, hb7, hp7⟩ := HO6.out.ask (HO6.out.ok.writeD _ _) h7
            have HO7 := Lib.hid hp7
            have HX7 := Lib.hid (HO6.out.x.below hb7 (heap_lt HO6.out.x))
            have HB7 := Lib.hid (HO6.out.bel.trans (hb7.mono HO6.out.bel.size))
            have HL7 : Hid ((dq.writeD (pos : Int) (chunk s q)).loose.length ≤ d.loose.length + (q + 1)) := Lib.hid (by have := writeD_looseW dq (pos : Int) (chunk s q); omega)
            have HN7 : Hid ((dq.writeD (pos : Int) (chunk s q)).seen.length = N) := Lib.hid (by rw [writeD_seenL]; exact HNq.out)
            have HG0 : Hid (dq.writeE (pos : Int) (chunk s q) = 0 → d.putsD ps = (dq.writeD (pos : Int) (chunk s q)).putsD (ps.drop (q + 1)) ∧ d.putsE ps = (dq.writeD (pos : Int) (chunk s q)).putsE (ps.drop (q + 1))) := Lib.hid (fun h0 => by
              obtain ⟨g1, g2⟩ := H0.out.out (by trivial)
              rw [g1, g2, HDrop.out]
              show (if dq.writeE (pos : Int) (chunk s q) = 0 then _ else _ : DSt) = _ ∧ (if dq.writeE (pos : Int) (chunk s q) = 0 then _ else _ : Bool) = _
              rw [if_pos h0, if_pos h0]
              exact ⟨rfl, rfl⟩)
            have HG7 : Hid (dq.writeE (pos : Int) (chunk s q) ≠ 0 → d.firmD ps = dq.writeD (pos : Int) (chunk s q) ∧ d.firmE ps = false) := Lib.hid (fun h0 => by
              obtain ⟨g1, g2⟩ := H0.out.out (by trivial)
              unfold DSt.firmD DSt.firmE
              rw [g1, g2, HDrop.out]
              have a1 : dq.putsE ((pos, chunk s q) :: ps.drop (q + 1)) = false := by show (if dq.writeE (pos : Int) (chunk s q) = 0 then _ else _ : Bool) = _; rw [if_neg h0]
              have a2 : dq.putsD ((pos, chunk s q) :: ps.drop (q + 1)) = dq.writeD (pos : Int) (chunk s q) := by show (if dq.writeE (pos : Int) (chunk s q) = 0 then _ else _ : DSt) = _; rw [if_neg h0]
              rw [a1, a2]
              exact ⟨rfl, rfl⟩)
            clear h7 hp7 HO6 HDrop H0 H7
            generalize dq.writeD (pos : Int) (chunk s q) = dw at *
            generalize dq.writeE (pos : Int) (chunk s q) = EW at *
            go_wp2_with fail
            refine hK.out _ _ HB7.out (fun hHeld2 => ?_)
            clear hK K
            try simp only [Act.put, List.setIfInBounds_toArray, List.set_cons_zero, List.set_cons_succ]
            refine wpAnyH_take (i := 10) (oi := { dst := some 43, op := Op.move (Operand.tmp 53), type := 48, pos := "ref.go:128", after := #[{ on := 9, ground := Ground.data }], guard := none }) (v := .tuple #[.agg #[.slice fA3 dw.firm.length fc3, .slice aA3 dw.loose.length ac3, .slice wA3 dw.loose.length wc3, .int .i64 dw.leftR, .bool dw.off], .int .i64 EW]) rfl (by kernel_rfl) (by kernel_rfl) (by kernel_rfl) (fun _ _ _ h => h) (Or.inl ⟨by rfl, fun w hS => by go_simp⟩) hHeld2 ?_
            try simp only [Act.put, List.setIfInBounds_toArray, List.set_cons_zero, List.set_cons_succ]
            refine wpAnyH_take (i := 11) (oi := { dst := some 54, op := Op.extract (Operand.tmp 43) 0, type := 30, pos := "ref.go:128", after := #[{ on := 10, ground := Ground.data }], guard := none }) (v := .agg #[.slice fA3 dw.firm.length fc3, .slice aA3 dw.loose.length ac3, .slice wA3 dw.loose.length wc3, .int .i64 dw.leftR, .bool dw.off]) rfl (by kernel_rfl) (by kernel_rfl) (by kernel_rfl) (fun _ _ _ h => h) (Or.inl ⟨by rfl, fun w hS => by go_simp⟩) hHeld2 ?_
            try simp only [Act.put, List.setIfInBounds_toArray, List.set_cons_zero, List.set_cons_succ]
            refine wpAnyH_take (i := 12) (oi := { dst := some 55, op := Op.extract (Operand.tmp 43) 1, type := 3, pos := "ref.go:128", after := #[{ on := 10, ground := Ground.data }, { on := 13, ground := Ground.gcOnly Departure.lateStores }], guard := none }) (v := .int .i64 EW) rfl (by kernel_rfl) (by kernel_rfl) (by kernel_rfl) (fun _ _ _ h => h) (Or.inl ⟨by rfl, fun w hS => by go_simp⟩) hHeld2 ?_
            try simp only [Act.put, List.setIfInBounds_toArray, List.set_cons_zero, List.set_cons_succ]
            obtain ⟨x0, x1, x2, x3, x4, x5⟩ := HX7.out.cells
            refine wpAnyH_ready (rs := [13]) (by kernel_rfl) (by simp) ?_
            refine AllReadyH.cons (o := { dst := none, op := Op.store 30 (Operand.tmp 5) (Operand.tmp 54), type := 0, pos := "ref.go:128", after := #[{ on := 11, ground := Ground.data }, { on := 9, ground := Ground.chain }, { on := 0, ground := Ground.phase }, { on := 1, ground := Ground.phase }, { on := 2, ground := Ground.phase }, { on := 3, ground := Ground.phase }, { on := 4, ground := Ground.phase }, { on := 5, ground := Ground.phase }, { on := 6, ground := Ground.phase }, { on := 7, ground := Ground.phase }, { on := 8, ground := Ground.phase }, { on := 9, ground := Ground.phase }, { on := 10, ground := Ground.phase }, { on := 11, ground := Ground.phase }, { on := 12, ground := Ground.textOnly Departure.lateStores }], guard := none }) rfl (fun K hK => ?_) AllReadyH.nil
            rw [if_pos (by rfl)]
            go_simp
            refine hK.out _ _ HO7.out.bel (fun hHeld3 => ?_)
            clear hK K
            try simp only [Act.put, List.setIfInBounds_toArray, List.set_cons_zero, List.set_cons_succ]
            refine wpAnyH_take (i := 14) (oi := { dst := some 12, op := Op.assign (Operand.tmp 55), type := 3, pos := "ref.go:128", after := #[{ on := 12, ground := Ground.data }, { on := 13, ground := Ground.chain }, { on := 0, ground := Ground.phase }, { on := 1, ground := Ground.phase }, { on := 2, ground := Ground.phase }, { on := 3, ground := Ground.phase }, { on := 4, ground := Ground.phase }, { on := 5, ground := Ground.phase }, { on := 6, ground := Ground.phase }, { on := 7, ground := Ground.phase }, { on := 8, ground := Ground.phase }, { on := 9, ground := Ground.phase }, { on := 10, ground := Ground.phase }, { on := 11, ground := Ground.phase }, { on := 12, ground := Ground.phase }, { on := 13, ground := Ground.phase }], guard := none }) (v := .int .i64 EW) rfl (by kernel_rfl) (by kernel_rfl) (by kernel_rfl) (fun _ _ _ h => h) (Or.inl ⟨by rfl, fun w hS => by go_simp⟩) hHeld3 ?_
            try simp only [Act.put, List.setIfInBounds_toArray, List.set_cons_zero, List.set_cons_succ]
            refine wpAnyH_done (by kernel_rfl) ?_ _
            clear x0 x1 x2 x3 x4 x5
            go_wp2_with fail
            go_roundg (n - (q + 1))
            case measure => omega
            case rel => exact ⟨q + 1, dw, EW, by go_num, rfl, by omega, Nat.le_refl _, HW7.out, HL7.out, HN7, Lib.hid ⟨_, _, _, _, _, _, HO7.out⟩, HG0, Lib.hid (fun h7 => HG7.out (by omega))⟩
      · have q1 : decide ((q : Int) < (n : Int)) = false := by rw [decide_eq_false_iff_not]; omega
        have HFE : Hid (d.firmD ps = dq.flushD ∧ d.firmE ps = (dq.flushE == 0)) := Lib.hid (by
          obtain ⟨g1, g2⟩ := H0.out rfl
          have hps : ps.length = n := by rw [← HPs.out, partsAt_length]; exact HN.out
          have e0 : ps.drop q = [] := by rw [List.drop_eq_nil_iff]; omega
          rw [e0] at g1 g2
          unfold DSt.firmD DSt.firmE
          rw [g1, g2]
          exact ⟨rfl, rfl⟩)
        clear H0 H7
        obtain ⟨x0, x1, x2, x3, x4, x5⟩ := HO.out.x.cells
        go_wp2_with fail
        have HF7 := Lib.hid (flushE_seven dq)
        have HNf : Hid (dq.flushD.seen.length = N) := Lib.hid (by rw [flushD_seenL]; exact HNq.out)
        have HFl : Hid (dq.flushD.loose.length ≤ d.loose.length + q) := Lib.hid (Nat.le_trans (flushD_looseW dq) hlo)
        refine (RefFlush_any HO.out.ok HO.out.ref (by omega)).mono ?_
        intro e w5 h5
        obtain ⟨fA2, fc2, aA2, ac2, wA2, wc2, rfl, hb5, hp5⟩ := HO.out.ask HO.out.ok.flushD h5
        have HO5 := Lib.hid hp5
        have HX5 := Lib.hid (HO.out.x.below hb5 (heap_lt HO.out.x))
        have HR5 := Lib.hid (HO.out.r.below hb5 (heap_lt HO.out.r))
        clear x0 x1 x2 x3 x4 x5 h5 hp5 HO
        generalize dq.flushD = df at *
        generalize dq.flushE = EF at *
        obtain ⟨x0, x1, x2, x3, x4, x5⟩ := HX5.out.cells
        obtain ⟨r0, r1, r2, r3, r4, r5⟩ := HR5.out.cells
        by_cases hEF : EF = 0
        · subst hEF
          go_wp2_with fail
          have HE1 : Hid (d.storeD ps (head, first) = df.firmD [(head, first)] ∧ d.storeE ps (head, first) = df.firmE [(head, first)]) := Lib.hid (by
            obtain ⟨g1, g2⟩ := HFE.out
            unfold DSt.storeD DSt.storeE
            rw [g1, g2]
            exact ⟨rfl, rfl⟩)
          clear x0 x1 x2 x3 x4 x5 r0 r1 r2 r3 r4 r5 HFE
          generalize (((((w5.setCell ⟨X, 0, none⟩ (.slice fA2 df.firm.length fc2)).setCell ⟨X, 1, none⟩ (.slice aA2 df.loose.length ac2)).setCell ⟨X, 2, none⟩ (.slice wA2 df.loose.length wc2)).setCell ⟨X, 3, none⟩ (.int .i64 df.leftR)).setCell ⟨X, 4, none⟩ (.bool df.off)) = w6 at *
          refine (RefWrite_any HO5.out.ok HO5.out.ref (by have := HFl.out; omega) (head : Int) (str first) (by rw [str_size]; omega)).mono ?_
          rw [str_list]
          intro e w7 h7
          have HW7 : Hid (df.writeE (head : Int) first = 0 ∨ df.writeE (head : Int) first = 7) := Lib.hid (writeE_seven (by rw [HNf.out, ← hNN]; exact hh) hf)
          obtain ⟨fA3, fc3, aA3, ac3, wA3, wc3, rfl, hb7, hp7⟩ := HO5.out.ask (HO5.out.ok.writeD _ _) h7
          have HO7 := Lib.hid hp7
          have HX7 := Lib.hid (HO5.out.x.below hb7 (heap_lt HO5.out.x))
          have HR7 := Lib.hid (HO5.out.r.below hb7 (heap_lt HO5.out.r))
          have HE2 : Hid ((df.writeE (head : Int) first ≠ 0 → DS = df.writeD (head : Int) first ∧ C = 7) ∧ (df.writeE (head : Int) first = 0 → DS = (df.writeD (head : Int) first).flushD ∧ C = (df.writeD (head : Int) first).flushE)) := Lib.hid (by
            obtain ⟨g1, g2⟩ := HE1.out
            rw [← HDS.out, ← HC.out, g1, g2]
            have hf7 := flushE_seven (df.writeD (head : Int) first)
            unfold DSt.firmD DSt.firmE
            refine ⟨fun h0 => ?_, fun h0 => ?_⟩
            · have a1 : df.putsE [(head, first)] = false := by show (if df.writeE (head : Int) first = 0 then _ else _ : Bool) = _; rw [if_neg h0]
              have a2 : df.putsD [(head, first)] = df.writeD (head : Int) first := by show (if df.writeE (head : Int) first = 0 then _ else _ : DSt) = _; rw [if_neg h0]
              rw [a1, a2]; exact ⟨rfl, rfl⟩
            · have a1 : df.putsE [(head, first)] = true := by show (if df.writeE (head : Int) first = 0 then _ else _ : Bool) = _; rw [if_pos h0]; rfl
              have a2 : df.putsD [(head, first)] = df.writeD (head : Int) first := by show (if df.writeE (head : Int) first = 0 then _ else _ : DSt) = _; rw [if_pos h0]; rfl
              rw [a1, a2]
              refine ⟨rfl, ?_⟩
              rcases hf7 with e | e <;> rw [e] <;> rfl)
          have HL7 : Hid ((df.writeD (head : Int) first).loose.length ≤ d.loose.length + q + 1) := Lib.hid (by have := writeD_looseW df (head : Int) first; have := HFl.out; omega)
          clear h7 hp7 HO5 HX5 HR5 HE1 HFl HF7 HDS HC
          generalize df.writeD (head : Int) first = dw at *
          generalize df.writeE (head : Int) first = EW at *
          obtain ⟨x0, x1, x2, x3, x4, x5⟩ := HX7.out.cells
          obtain ⟨r0, r1, r2, r3, r4, r5⟩ := HR7.out.cells
          by_cases hEW : EW = 0
          · subst hEW
            have HE3 := Lib.hid (HE2.out.2 rfl)
            clear HE2 HW7
            go_wp2_with fail
            clear x0 x1 x2 x3 x4 x5 r0 r1 r2 r3 r4 r5
            generalize (((((w7.setCell ⟨X, 0, none⟩ (.slice fA3 dw.firm.length fc3)).setCell ⟨X, 1, none⟩ (.slice aA3 dw.loose.length ac3)).setCell ⟨X, 2, none⟩ (.slice wA3 dw.loose.length wc3)).setCell ⟨X, 3, none⟩ (.int .i64 dw.leftR)).setCell ⟨X, 4, none⟩ (.bool dw.off)) = w8 at *
            refine (RefFlush_any HO7.out.ok HO7.out.ref (by have := HL7.out; omega)).mono ?_
            intro e w10 h9
            obtain ⟨fA4, fc4, aA4, ac4, wA4, wc4, rfl, hb9, hp9⟩ := HO7.out.ask HO7.out.ok.flushD h9
            have HO9 := Lib.hid hp9
            have HX9 := Lib.hid (HO7.out.x.below hb9 (heap_lt HO7.out.x))
            have HR9 := Lib.hid (HO7.out.r.below hb9 (heap_lt HO7.out.r))
            clear h9 hp9 HO7 HX7 HR7
            generalize dw.flushD = dz at *
            generalize dw.flushE = EZ at *
            obtain ⟨x0, x1, x2, x3, x4, x5⟩ := HX9.out.cells
            obtain ⟨r0, r1, r2, r3, r4, r5⟩ := HR9.out.cells
            go_wp2_with fail
            have HR := Lib.hid (PutSt.ret (code := EZ) HO9.out)
            have HV := Lib.hid (HO9.out.out (.slice fA4 dz.firm.length fc4) (.slice aA4 dz.loose.length ac4) (.slice wA4 dz.loose.length wc4) (.int .i64 dz.leftR) (.bool dz.off))
            clear x0 x1 x2 x3 x4 x5 r0 r1 r2 r3 r4 r5
            generalize ((((((((((w10.setCell ⟨X, 0, none⟩ (.slice fA4 dz.firm.length fc4)).setCell ⟨X, 1, none⟩ (.slice aA4 dz.loose.length ac4)).setCell ⟨X, 2, none⟩ (.slice wA4 dz.loose.length wc4)).setCell ⟨X, 3, none⟩ (.int .i64 dz.leftR)).setCell ⟨X, 4, none⟩ (.bool dz.off)).setCell ⟨X + 1, 0, none⟩ (.slice fA4 dz.firm.length fc4)).setCell ⟨X + 1, 1, none⟩ (.slice aA4 dz.loose.length ac4)).setCell ⟨X + 1, 2, none⟩ (.slice wA4 dz.loose.length wc4)).setCell ⟨X + 1, 3, none⟩ (.int .i64 dz.leftR)).setCell ⟨X + 1, 4, none⟩ (.bool dz.off)) = w9 at *
            obtain ⟨r0, r1, r2, r3, r4, r5⟩ := HV.out.cells
            refine bodyPost_ret (v := .tuple #[.agg #[.slice fA4 dz.firm.length fc4, .slice aA4 dz.loose.length ac4, .slice wA4 dz.loose.length wc4, .int .i64 dz.leftR, .bool dz.off], .int .i64 EZ]) (by simp [results, Tryz.results46, go_sem, r0, r1, r2, r3, r4]) rfl ?_
            rw [HE3.out.1, HE3.out.2]
            exact HR.out
          · have hEW7 : EW = 7 := by have := HW7.out; omega
            have HE3 := Lib.hid (HE2.out.1 hEW)
            subst hEW7
            clear HE2 HW7
            go_wp2_with fail
            have HR := Lib.hid (PutSt.ret (code := 7) HO7.out)
            have HV := Lib.hid (HO7.out.out (.slice fA3 dw.firm.length fc3) (.slice aA3 dw.loose.length ac3) (.slice wA3 dw.loose.length wc3) (.int .i64 dw.leftR) (.bool dw.off))
            clear x0 x1 x2 x3 x4 x5 r0 r1 r2 r3 r4 r5
            generalize ((((((((((w7.setCell ⟨X, 0, none⟩ (.slice fA3 dw.firm.length fc3)).setCell ⟨X, 1, none⟩ (.slice aA3 dw.loose.length ac3)).setCell ⟨X, 2, none⟩ (.slice wA3 dw.loose.length wc3)).setCell ⟨X, 3, none⟩ (.int .i64 dw.leftR)).setCell ⟨X, 4, none⟩ (.bool dw.off)).setCell ⟨X + 1, 0, none⟩ (.slice fA3 dw.firm.length fc3)).setCell ⟨X + 1, 1, none⟩ (.slice aA3 dw.loose.length ac3)).setCell ⟨X + 1, 2, none⟩ (.slice wA3 dw.loose.length wc3)).setCell ⟨X + 1, 3, none⟩ (.int .i64 dw.leftR)).setCell ⟨X + 1, 4, none⟩ (.bool dw.off)) = w9 at *
            obtain ⟨r0, r1, r2, r3, r4, r5⟩ := HV.out.cells
            refine bodyPost_ret (v := .tuple #[.agg #[.slice fA3 dw.firm.length fc3, .slice aA3 dw.loose.length ac3, .slice wA3 dw.loose.length wc3, .int .i64 dw.leftR, .bool dw.off], .int .i64 7]) (by simp [results, Tryz.results46, go_sem, r0, r1, r2, r3, r4]) rfl ?_
            rw [HE3.out.1, HE3.out.2]
            exact HR.out
        · have hEF7 : EF = 7 := by have := HF7.out; omega
          have HE1 : Hid (DS = df ∧ C = 7) := Lib.hid (by
            obtain ⟨g1, g2⟩ := HFE.out
            have g2 : d.firmE ps = false := by rw [g2, hEF7]; rfl
            rw [← HDS.out, ← HC.out]
            unfold DSt.storeD DSt.storeE
            rw [g1, g2]
            exact ⟨rfl, rfl⟩)
          subst hEF7
          clear HFE
          go_wp2_with fail
          have HR := Lib.hid (PutSt.ret (code := 7) HO5.out)
          have HV := Lib.hid (HO5.out.out (.slice fA2 df.firm.length fc2) (.slice aA2 df.loose.length ac2) (.slice wA2 df.loose.length wc2) (.int .i64 df.leftR) (.bool df.off))
          clear x0 x1 x2 x3 x4 x5 r0 r1 r2 r3 r4 r5
          generalize ((((((((((w5.setCell ⟨X, 0, none⟩ (.slice fA2 df.firm.length fc2)).setCell ⟨X, 1, none⟩ (.slice aA2 df.loose.length ac2)).setCell ⟨X, 2, none⟩ (.slice wA2 df.loose.length wc2)).setCell ⟨X, 3, none⟩ (.int .i64 df.leftR)).setCell ⟨X, 4, none⟩ (.bool df.off)).setCell ⟨X + 1, 0, none⟩ (.slice fA2 df.firm.length fc2)).setCell ⟨X + 1, 1, none⟩ (.slice aA2 df.loose.length ac2)).setCell ⟨X + 1, 2, none⟩ (.slice wA2 df.loose.length wc2)).setCell ⟨X + 1, 3, none⟩ (.int .i64 df.leftR)).setCell ⟨X + 1, 4, none⟩ (.bool df.off)) = w9 at *
          obtain ⟨r0, r1, r2, r3, r4, r5⟩ := HV.out.cells
          refine bodyPost_ret (v := .tuple #[.agg #[.slice fA2 df.firm.length fc2, .slice aA2 df.loose.length ac2, .slice wA2 df.loose.length wc2, .int .i64 df.leftR, .bool df.off], .int .i64 7]) (by simp [results, Tryz.results46, go_sem, r0, r1, r2, r3, r4]) rfl ?_
          rw [HE1.out.1, HE1.out.2]
          exact HR.out
    · have hE7 : E = 7 := by omega
      subst hE7
      have HE : Hid (DS = dq ∧ C = 7) := Lib.hid (by
        obtain ⟨g1, g2⟩ := H7.out rfl
        rw [← HDS.out, ← HC.out]
        unfold DSt.storeD DSt.storeE
        rw [g1, g2]
        exact ⟨rfl, rfl⟩)
      clear H0 H7
      by_cases hlt : q < n
      · have q1 : decide ((q : Int) < (n : Int)) = true := by rw [decide_eq_true_iff]; omega
        obtain ⟨x0, x1, x2, x3, x4, x5⟩ := HO.out.x.cells
        obtain ⟨r0, r1, r2, r3, r4, r5⟩ := HO.out.r.cells
        go_wp2_with fail
        have HR := Lib.hid (PutSt.ret (code := 7) HO.out)
        have HV := Lib.hid (HO.out.out (.slice fA' dq.firm.length fc') (.slice aA' dq.loose.length ac') (.slice wA' dq.loose.length wc') (.int .i64 dq.leftR) (.bool dq.off))
        clear x0 x1 x2 x3 x4 x5 r0 r1 r2 r3 r4 r5
        generalize (((((wr.setCell ⟨X + 1, 0, none⟩ (.slice fA' dq.firm.length fc')).setCell ⟨X + 1, 1, none⟩ (.slice aA' dq.loose.length ac')).setCell ⟨X + 1, 2, none⟩ (.slice wA' dq.loose.length wc')).setCell ⟨X + 1, 3, none⟩ (.int .i64 dq.leftR)).setCell ⟨X + 1, 4, none⟩ (.bool dq.off)) = w9 at *
        obtain ⟨r0, r1, r2, r3, r4, r5⟩ := HV.out.cells
        refine bodyPost_ret (v := .tuple #[.agg #[.slice fA' dq.firm.length fc', .slice aA' dq.loose.length ac', .slice wA' dq.loose.length wc', .int .i64 dq.leftR, .bool dq.off], .int .i64 7]) (by simp [results, Tryz.results46, go_sem, r0, r1, r2, r3, r4]) rfl ?_
        rw [HE.out.1, HE.out.2]
        exact HR.out
      · have q1 : decide ((q : Int) < (n : Int)) = false := by rw [decide_eq_false_iff_not]; omega
        obtain ⟨x0, x1, x2, x3, x4, x5⟩ := HO.out.x.cells
        obtain ⟨r0, r1, r2, r3, r4, r5⟩ := HO.out.r.cells
        go_wp2_with fail
        have HR := Lib.hid (PutSt.ret (code := 7) HO.out)
        have HV := Lib.hid (HO.out.out (.slice fA' dq.firm.length fc') (.slice aA' dq.loose.length ac') (.slice wA' dq.loose.length wc') (.int .i64 dq.leftR) (.bool dq.off))
        clear x0 x1 x2 x3 x4 x5 r0 r1 r2 r3 r4 r5
        generalize (((((wr.setCell ⟨X + 1, 0, none⟩ (.slice fA' dq.firm.length fc')).setCell ⟨X + 1, 1, none⟩ (.slice aA' dq.loose.length ac')).setCell ⟨X + 1, 2, none⟩ (.slice wA' dq.loose.length wc')).setCell ⟨X + 1, 3, none⟩ (.int .i64 dq.leftR)).setCell ⟨X + 1, 4, none⟩ (.bool dq.off)) = w9 at *
        obtain ⟨r0, r1, r2, r3, r4, r5⟩ := HV.out.cells
        refine bodyPost_ret (v := .tuple #[.agg #[.slice fA' dq.firm.length fc', .slice aA' dq.loose.length ac', .slice wA' dq.loose.length wc', .int .i64 dq.leftR, .bool dq.off], .int .i64 7]) (by simp [results, Tryz.results46, go_sem, r0, r1, r2, r3, r4]) rfl ?_
        rw [HE.out.1, HE.out.2]
        exact HR.out
end Go.Proofs.YtlelfakememckaaGreatDoor

namespace Go.Proofs.YtlelfakememckaaGreatDoor
open Go.RowKit

theorem chunk_zero (s : List UInt8) : chunk s 0 = s.take 32 := by unfold chunk; simp
theorem chunk_succ (s : List UInt8) (i : Nat) : chunk s (i + 1) = chunk (s.drop 32) i := by
  unfold chunk
  rw [List.drop_drop, show 32 * (i + 1) = 32 + 32 * i by omega]
theorem chunk_nil (i : Nat) : chunk [] i = [] := by unfold chunk; simp
/-- The i-th piece. -/
theorem cuts_chunk : ∀ (i : Nat) (s : List UInt8), (cutsOf s).getD i [] = chunk s i
  | i, s => by
    by_cases h : 32 < s.length
    · rw [cuts_long h]
      cases i with
      | zero => rw [chunk_zero]; rfl
      | succ i => rw [chunk_succ, ← cuts_chunk i (s.drop 32)]; rfl
    · by_cases h2 : s = []
      · subst h2; rw [cuts_none, chunk_nil]; rfl
      · rw [cuts_last h h2]
        cases i with
        | zero => rw [chunk_zero, List.take_of_length_le (by omega)]; rfl
        | succ i => rw [chunk_succ, List.drop_eq_nil_of_le (by omega), chunk_nil]; rfl

theorem around_tailP (slot m place k : Nat) : (aroundL slot m place (k + 1)).tail = (List.range k).map (fun j => 2 * slot + (place + (1 + j)) % m) := by
  unfold aroundL
  rw [List.range_succ_eq_map, List.map_cons, List.tail_cons, List.map_map]
  refine List.map_congr_left fun j _ => ?_
  show 2 * slot + (place + (j + 1)) % m = _
  rw [Nat.add_comm j 1]
theorem around_headP (slot m place k : Nat) : (aroundL slot m place (k + 1)).getD 0 0 = 2 * slot + place % m := by
  unfold aroundL
  rw [List.range_succ_eq_map]
  rfl
/-- A record's body. -/
theorem parts_around (v : WalV) (n : Nat) (r : List UInt8) : partsAt r ((aroundL v.slot (n - 2 * v.slot) v.next (secs r.length + 2)).tail) = bodyR v n r := by
  rw [around_tailP]
  unfold partsAt bodyR
  rw [List.length_map, List.length_range]
  refine List.map_congr_left fun j hj => ?_
  have hj := List.mem_range.1 hj
  rw [cuts_chunk]
  refine Prod.ext ?_ rfl
  show ((List.range (secs r.length + 1)).map _).getD j 0 = _
  rw [List.getD_eq_getElem?_getD, List.getElem?_map, List.getElem?_range hj]
  rfl
theorem parts_head (v : WalV) (n k : Nat) : (aroundL v.slot (n - 2 * v.slot) v.next (k + 1)).getD 0 0 = 2 * v.slot + v.place n 0 := by
  rw [around_headP]; rfl
/-- A state's body. -/
theorem parts_slots (slot g : Nat) (s : List UInt8) (h : secs s.length ≤ slot - 1) : partsAt s ((slotsL slot ((g + 1) % 2)).take (secs s.length)) = bodyS slot g s := by
  have hl : ((slotsL slot ((g + 1) % 2)).take (secs s.length)).length = secs s.length := by rw [List.length_take, slotsL_length]; omega
  unfold partsAt bodyS
  rw [hl]
  refine List.map_congr_left fun j hj => ?_
  have hj := List.mem_range.1 hj
  rw [cuts_chunk]
  refine Prod.ext ?_ rfl
  show ((slotsL slot ((g + 1) % 2)).take (secs s.length)).getD j 0 = _
  unfold slotsL
  rw [List.getD_eq_getElem?_getD, List.getElem?_take_of_lt hj, List.getElem?_map, List.getElem?_range (by omega)]
  rfl

/-! ### A head padded is a head -/

theorem pad_pad {x : List UInt8} (h : x.length ≤ 32) : padB (padB x) = padB x := padB_full (padB_length h)
theorem write_pad (d : DSt) (i : Int) {x : List UInt8} (h : x.length ≤ 32) : d.writeE i (padB x) = d.writeE i x ∧ d.writeD i (padB x) = d.writeD i x := by
  have hl := padB_length h
  unfold DSt.writeE DSt.writeD
  rw [hl, pad_pad h, if_neg (by omega : ¬ 32 < 32), if_neg (by omega : ¬ 32 < x.length)]
  refine ⟨rfl, ?_⟩
  have e : (d.off = true ∨ d.has i = false ∨ 32 < 32) ↔ (d.off = true ∨ d.has i = false ∨ 32 < x.length) := by
    constructor
    · rintro (a | a | a)
      · exact .inl a
      · exact .inr (.inl a)
      · omega
    · rintro (a | a | a)
      · exact .inl a
      · exact .inr (.inl a)
      · omega
  simp only [e]
theorem firm_pad (d : DSt) (i : Nat) {x : List UInt8} (h : x.length ≤ 32) : d.firmE [(i, padB x)] = d.firmE [(i, x)] ∧ d.firmD [(i, padB x)] = d.firmD [(i, x)] := by
  obtain ⟨e1, e2⟩ := write_pad d (i : Int) h
  have a1 : d.putsE [(i, padB x)] = d.putsE [(i, x)] := by
    show (if d.writeE (i : Int) (padB x) = 0 then _ else _ : Bool) = (if d.writeE (i : Int) x = 0 then _ else _ : Bool)
    rw [e1]; rfl
  have a2 : d.putsD [(i, padB x)] = d.putsD [(i, x)] := by
    show (if d.writeE (i : Int) (padB x) = 0 then (d.writeD (i : Int) (padB x)).putsD [] else d.writeD (i : Int) (padB x)) = (if d.writeE (i : Int) x = 0 then (d.writeD (i : Int) x).putsD [] else d.writeD (i : Int) x)
    rw [e1, e2]
  unfold DSt.firmE DSt.firmD
  rw [a1, a2]
  exact ⟨rfl, rfl⟩
theorem store_pad (d : DSt) (ps : List (Nat × List UInt8)) (i : Nat) {x : List UInt8} (h : x.length ≤ 32) : d.storeE ps (i, padB x) = d.storeE ps (i, x) ∧ d.storeD ps (i, padB x) = d.storeD ps (i, x) := by
  obtain ⟨e1, e2⟩ := firm_pad (d.firmD ps) i h
  unfold DSt.storeE DSt.storeD
  rw [e1, e2]
  exact ⟨rfl, rfl⟩
end Go.Proofs.YtlelfakememckaaGreatDoor
