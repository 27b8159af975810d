/- Contract of the function Parse of the package msg. -/
import Derived.Test.YtkpoeigoocbgeaaMpL
import Derived.Test.YtkpoeigoocbgeaaMpH
namespace Go.Proofs.Ytkpoeigoocbgeaa
open Go.RowKit

/-- No mask stands in these cells. -/
def noU64 (cs : Array Value) : Bool := cs.toList.all fun v => match v with | .int .u64 _ => false | _ => true
theorem noU64_cell {w : World} {b off : Nat} {n : Int} {cs : Array Value} {t : TypeId} (h : w.heap[b]? = some (.cells cs t (0, 0))) (hn : noU64 cs = true) : w.cell? ⟨b, off, none⟩ ≠ some (.int .u64 n) := by
  intro hc
  rw [Lib.cell_of_heap h, ← Array.getElem?_toList] at hc
  have := List.all_eq_true.1 hn _ (List.mem_of_getElem? hc)
  simp at this
/-- The boxes of Parse: its answer, the reader, the message. -/
structure PzAt (w : World) (H : Nat) (W : World) (st : Rd) (cs : Array Value) : Prop where
  rd : RdAt W (H + 1) st
  box : W.heap[H + 2]? = some (.cells cs 52 (0, 0))
  res : W.heap[H]? = some (.cells zMg 52 (0, 0))
  big : H + 3 ≤ W.heap.size
  bel : Below H w W
theorem PzAt.num {w W W' : World} {H : Nat} {st st' : Rd} {cs : Array Value} (h : PzAt w H W st cs) (hr : RdAt W' (H + 1) st') (hb : ButH (H + 1) W W') (hc : Below (H + 1) W W') : PzAt w H W' st' cs :=
  ⟨hr, (hb.block _ (by have := h.big; omega) (by omega)).trans h.box, (hb.block _ (by have := h.big; omega) (by omega)).trans h.res, Nat.le_trans h.big hb.size, h.bel.trans (hc.mono (by omega))⟩
theorem PzAt.set {w W : World} {H : Nat} {st : Rd} {cs : Array Value} (h : PzAt w H W st cs) (j : Nat) (v : Value) : PzAt w H (W.setCell ⟨H + 2, j, none⟩ v) st (cs.setIfInBounds j v) :=
  ⟨by unfold RdAt; rw [Below.heap_setCell _ _ _ _ (by show H + 1 ≠ H + 2; omega)]; exact h.rd, row_set h.box j v, by rw [Below.heap_setCell _ _ _ _ (by show H ≠ H + 2; omega)]; exact h.res, by simpa using h.big, h.bel.setCell (by show H ≤ H + 2; omega) v⟩
theorem PzAt.fz {w W : World} {H : Nat} {st : Rd} {cs : Array Value} (h : PzAt w H W st cs) (j : Nat) : W.frozen? ⟨H + 2, j, none⟩ = false := Lib.frozen_of_heap h.box j
theorem PzAt.at_ {w W : World} {H : Nat} {st : Rd} {cs : Array Value} (h : PzAt w H W st cs) (j : Nat) : W.cell? ⟨H + 2, j, none⟩ = cs[j]? := Lib.cell_of_heap h.box j
/-- A row lies in none of the boxes. -/
def RowNe {α : Type} (H : Nat) (A : Option Addr) (l : List α) : Prop := ∀ b off, A = some ⟨b, off, none⟩ → l ≠ [] → b ≠ H ∧ b ≠ H + 1 ∧ b ≠ H + 2
theorem RowNe.big {α : Type} {H : Nat} {A : Option Addr} {l : List α} (h : ∀ b off, A = some ⟨b, off, none⟩ → H + 3 ≤ b) : RowNe H A l := fun b off hA _ => by have := h b off hA; omega
theorem RowNe.nil {α : Type} {H : Nat} {A : Option Addr} : RowNe H A ([] : List α) := fun _ _ _ h => absurd rfl h
theorem brs_but18 {H : Nat} {W W' : World} {A : Option Addr} {l : List Br} (h : BrsAt W W.heap.size A l) (hne : ∀ b off, A = some ⟨b, off, none⟩ → l ≠ [] → b ≠ H) (hk : ButH H W W') : BrsAt W' W'.heap.size A l := by
  by_cases hl : l = []
  · exact .inl hl
  · exact brs_but17 h (fun b off hA => hne b off hA hl) hk
theorem lies_but18 {H : Nat} {W W' : World} {A : Option Addr} {l : List Int} (h : Lies W W.heap.size A (l.map (Value.int .i64))) (hne : ∀ b off, A = some ⟨b, off, none⟩ → l ≠ [] → b ≠ H) (hk : ButH H W W') : Lies W' W'.heap.size A (l.map (Value.int .i64)) := by
  by_cases hl : l = []
  · subst hl; exact .inl rfl
  · exact lies_but17 h (fun b off hA => hne b off hA hl) hk
theorem wrs_but18 {H : Nat} {W W' : World} {A : Option Addr} {l : List Wr} (h : WrsAt W W.heap.size A l) (hne : ∀ b off, A = some ⟨b, off, none⟩ → l ≠ [] → b ≠ H) (hk : ButH H W W') : WrsAt W' W'.heap.size A l := by
  by_cases hl : l = []
  · exact .inl hl
  · exact wrs_but17 h (fun b off hA => hne b off hA hl) hk
/-- The rows of the message under way. -/
structure PzRows (H : Nat) (W : World) (l1 : List Br) (A1 : Option Addr) (l2 : List Br) (A2 : Option Addr) (m : List Bt) (A3 : Option Addr) (zs : List Int) (A4 : Option Addr) : Prop where
  line : BrsAt W W.heap.size A1 l1
  anc : BrsAt W W.heap.size A2 l2
  bits : BtsAt W W.heap.size A3 m
  sizes : Lies W W.heap.size A4 (zs.map (Value.int .i64))
  n1 : RowNe H A1 l1
  n2 : RowNe H A2 l2
  n3 : RowNe H A3 m
  n4 : RowNe H A4 zs
theorem PzRows.but {H k : Nat} {W W' : World} {l1 l2 : List Br} {m : List Bt} {zs : List Int} {A1 A2 A3 A4 : Option Addr} (h : PzRows H W l1 A1 l2 A2 m A3 zs A4) (hk : k = H ∨ k = H + 1 ∨ k = H + 2) (hb : ButH k W W') : PzRows H W' l1 A1 l2 A2 m A3 zs A4 := by
  have e : ∀ {α : Type} {A : Option Addr} {l : List α}, RowNe H A l → ∀ b off, A = some ⟨b, off, none⟩ → l ≠ [] → b ≠ k := fun hn b off hA hl => by
    have := hn b off hA hl
    omega
  exact ⟨brs_but18 h.line (e h.n1) hb, brs_but18 h.anc (e h.n2) hb, bts_but17 h.bits (e h.n3) hb, lies_but18 h.sizes (e h.n4) hb, h.n1, h.n2, h.n3, h.n4⟩
theorem PzRows.set {H : Nat} {W : World} {l1 l2 : List Br} {m : List Bt} {zs : List Int} {A1 A2 A3 A4 : Option Addr} (h : PzRows H W l1 A1 l2 A2 m A3 zs A4) (j : Nat) (v : Value) : PzRows H (W.setCell ⟨H + 2, j, none⟩ v) l1 A1 l2 A2 m A3 zs A4 :=
  h.but (.inr (.inr rfl)) ((ButH.refl _ _).set j v)
theorem bits_ne17 {w W : World} {H : Nat} {st : Rd} {cs : Array Value} {A : Option Addr} {m : List Bt} (h : PzAt w H W st cs) (hn : noU64 cs = true) (hb : BtsAt W W.heap.size A m) : RowNe H A m := by
  intro b off hA hl
  rcases hb with hb | ⟨b', off', hA', _, hc⟩
  · exact absurd hb hl
  · rw [hA'] at hA
    simp only [Option.some.injEq, Addr.mk.injEq, and_true] at hA
    obtain ⟨rfl, rfl⟩ := hA
    have h1 := (hc 0 (List.length_pos_iff.2 hl)).2
    refine ⟨?_, ?_, ?_⟩
    · rintro rfl; exact noU64_cell h.res (by rfl) h1
    · rintro rfl
      have hr := h.rd
      unfold RdAt at hr
      exact noU64_cell hr (by rfl) h1
    · rintro rfl; exact noU64_cell h.box hn h1
theorem parM_fit17 (l : List UInt8) : BtsFit (parM l) := by
  by_cases h : parE l = 0
  · obtain ⟨h1, h2⟩ := parM_ok h
    have h3 := bitsOk_length h1
    exact ⟨by omega, fun b hb => ⟨h2 b hb, by have := bitsFrom_le h1 b hb; omega⟩⟩
  · unfold parM
    rw [if_neg h]
    exact ⟨by simp, fun b hb => by cases hb⟩
theorem vLn_length_le (r : List UInt8) : (vLn r).length ≤ 255 := by
  unfold vLn
  split
  · rw [lnL_length]; have := lnN_lt r; omega
  · simp
theorem le63_17 {n : Nat} (h : n ≤ 255) : n ≤ 9223372036854775807 := by omega
theorem vSz_length_le (t : Rd) : (vSz t).length ≤ 255 := by rw [vSz_length]; have := tlN_lt t.1; omega
theorem mgfit_parts {m : Mg} {a b : List Br} {c : List Bt} {d : List Int} {e : List Wr} (h1 : m.line = a) (h2 : m.anc = b) (h3 : m.bits = c) (h4 : m.sizes = d) (h5 : m.ws = e) (g1 : a.length ≤ 255) (g2 : b.length ≤ 255) (g3 : BtsFit c) (g4 : d.length ≤ 255) (g5 : e.length ≤ 255) : MgFit m :=
  ⟨by rw [h1]; exact le63_17 g1, by rw [h2]; exact le63_17 g2, by rw [h3]; exact g3, by rw [h4]; exact le63_17 g4, by rw [h5]; exact le63_17 g5⟩
theorem pm_fit {s : List UInt8} {ws : List Wr} (h : ws.length ≤ 128) : MgFit (pm s ws) :=
  mgfit_parts (a := vLn (p2 s).1) (b := vLn (p7 s).1) (c := parM (p9 s).1) (d := vSz (p10 s)) (e := ws) (by dsimp only [pm]) (by dsimp only [pm]) (by dsimp only [pm]) (by dsimp only [pm]) (by dsimp only [pm]) (vLn_length_le _) (vLn_length_le _) (parM_fit17 _) (vSz_length_le _) (Nat.le_trans h (by decide))
def TMg (s : List UInt8) (w : World) (e : Ending) (w' : World) : Prop :=
  (∃ m x, Told s m ∧ e = .returned (.tuple #[m.val x, .int .i64 0]) ∧ MgAt w' m x ∧ Below w.heap.size w w') ∨
  ((∀ m, ¬ Told s m) ∧ ∃ x, e = .returned (.tuple #[mgZ.val x, .int .i64 3]) ∧ MgAt w' mgZ x ∧ Below w.heap.size w w')
theorem mgat_zero : ∀ w, MgAt w mgZ mmZ := fun _ => ⟨.inl rfl, .inl rfl, .inl rfl, .inl rfl, .inl rfl⟩

set_option maxHeartbeats 8000000 in
set_option maxRecDepth 100000 in
theorem PParse_any (s : List UInt8) (w : World) (hs : s.length ≤ 281474976710656) :
    Calls Try.prog 26 #[.string (str s)] w (TMg s w) := by
  obtain ⟨H, hH⟩ : ∃ H, w.heap.size = H := ⟨_, rfl⟩
  obtain ⟨V, hV⟩ : ∃ V, V = ((w.alloc (.cells zMg 52)).alloc (.cells #[.string (str s), .bool false] 80)).alloc (.cells zMg 52) := ⟨_, rfl⟩
  have hP0 : PzAt w H V (s, false) zMg := by
    have b1 := below_one w (.cells zMg 52)
    have b2 := below_one (w.alloc (.cells zMg 52)) (.cells #[.string (str s), .bool false] 80)
    have b3 := below_one ((w.alloc (.cells zMg 52)).alloc (.cells #[.string (str s), .bool false] 80)) (.cells zMg 52)
    have h1 := heap_new w (.cells zMg 52)
    have h2 := heap_new (w.alloc (.cells zMg 52)) (.cells #[.string (str s), .bool false] 80)
    have h3 := heap_new ((w.alloc (.cells zMg 52)).alloc (.cells #[.string (str s), .bool false] 80)) (.cells zMg 52)
    have z1 : (w.alloc (.cells zMg 52)).heap.size = H + 1 := by rw [← hH]; simp
    have z2 : ((w.alloc (.cells zMg 52)).alloc (.cells #[.string (str s), .bool false] 80)).heap.size = H + 2 := by rw [← hH]; simp
    rw [hH] at h1 b1
    rw [z1] at h2 b2
    rw [z2] at h3 b3
    rw [← hV] at b3 h3
    refine ⟨?_, h3, ?_, ?_, (b1.trans (b2.mono (by omega))).trans (b3.mono (by omega))⟩
    · unfold RdAt; rw [b3.block (H + 1) (by omega)]; exact h2
    · rw [b3.block H (by omega), b2.block H (by omega)]; exact h1
    · rw [hV, ← hH]; simp
  obtain ⟨hl1, hl2, hl3, hl4, hl5, hl6, hl7, hl8, hl9, hl10, hl11, hl12, hl13⟩ := p_le s
  obtain ⟨v1, hv1⟩ : ∃ v, numN s 1 = v := ⟨_, rfl⟩
  obtain ⟨v2, hv2⟩ : ∃ v, numN (p1 s).1 8 = v := ⟨_, rfl⟩
  obtain ⟨l1, hv3⟩ : ∃ v, vLn (p2 s).1 = v := ⟨_, rfl⟩
  obtain ⟨v4, hv4⟩ : ∃ v, numN (p3 s).1 8 = v := ⟨_, rfl⟩
  obtain ⟨v5, hv5⟩ : ∃ v, numN (p4 s).1 8 = v := ⟨_, rfl⟩
  obtain ⟨v6, hv6⟩ : ∃ v, numN (p5 s).1 8 = v := ⟨_, rfl⟩
  obtain ⟨v7, hv7⟩ : ∃ v, decide (numN (p6 s).1 1 = 1) = v := ⟨_, rfl⟩
  obtain ⟨l2, hv8⟩ : ∃ v, vLn (p7 s).1 = v := ⟨_, rfl⟩
  obtain ⟨v9, hv9⟩ : ∃ v, numN (p8 s).1 8 = v := ⟨_, rfl⟩
  obtain ⟨bm, hv10⟩ : ∃ v, parM (p9 s).1 = v := ⟨_, rfl⟩
  obtain ⟨zs, hv11⟩ : ∃ v, vSz (p10 s) = v := ⟨_, rfl⟩
  obtain ⟨v12, hv12⟩ : ∃ v, numN (p11 s).1 8 = v := ⟨_, rfl⟩
  obtain ⟨v13, hv13⟩ : ∃ v, numN (p12 s).1 8 = v := ⟨_, rfl⟩
  have N1 : Hid (∀ W, RdAt W (H + 1) (s, false) → Calls Try.prog 37 #[.pointer (some ⟨H + 1, 0, none⟩), .int .i64 1] W (RdEnd (H + 1) (p1 s) (.int .i64 v1) W)) := Lib.hid (fun W h => by have := number_any17 h (by show s.length ≤ _; omega) 1; rw [show ((s, false) : Rd).1 = s from rfl, hv1] at this; exact this)
  have N2 : Hid (∀ W, RdAt W (H + 1) (p1 s) → Calls Try.prog 37 #[.pointer (some ⟨H + 1, 0, none⟩), .int .i64 8] W (RdEnd (H + 1) (p2 s) (.int .i64 v2) W)) := Lib.hid (fun W h => by have := number_any17 h (by omega) 8; rw [hv2] at this; exact this)
  have N3 : Hid (∀ W, RdAt W (H + 1) (p2 s) → Calls Try.prog 55 #[.pointer (some ⟨H + 1, 0, none⟩), .func (.func 13) #[] #[]] W (RdRow (H + 1) (p3 s) (fun w' A => BrsAt w' w'.heap.size A l1) l1.length W)) := Lib.hid (fun W h => by have := takeLn_any h (by omega); rw [hv3] at this; exact this)
  have N4 : Hid (∀ W, RdAt W (H + 1) (p3 s) → Calls Try.prog 37 #[.pointer (some ⟨H + 1, 0, none⟩), .int .i64 8] W (RdEnd (H + 1) (p4 s) (.int .i64 v4) W)) := Lib.hid (fun W h => by have := number_any17 h (by omega) 8; rw [hv4] at this; exact this)
  have N5 : Hid (∀ W, RdAt W (H + 1) (p4 s) → Calls Try.prog 37 #[.pointer (some ⟨H + 1, 0, none⟩), .int .i64 8] W (RdEnd (H + 1) (p5 s) (.int .i64 v5) W)) := Lib.hid (fun W h => by have := number_any17 h (by omega) 8; rw [hv5] at this; exact this)
  have N6 : Hid (∀ W, RdAt W (H + 1) (p5 s) → Calls Try.prog 37 #[.pointer (some ⟨H + 1, 0, none⟩), .int .i64 8] W (RdEnd (H + 1) (p6 s) (.int .i64 v6) W)) := Lib.hid (fun W h => by have := number_any17 h (by omega) 8; rw [hv6] at this; exact this)
  have N7 : Hid (∀ W, RdAt W (H + 1) (p6 s) → Calls Try.prog 56 #[.pointer (some ⟨H + 1, 0, none⟩)] W (RdEnd (H + 1) (p7 s) (.bool v7) W)) := Lib.hid (fun W h => by have := flag_any17 h (by omega); rw [hv7] at this; exact this)
  have N8 : Hid (∀ W, RdAt W (H + 1) (p7 s) → Calls Try.prog 55 #[.pointer (some ⟨H + 1, 0, none⟩), .func (.func 13) #[] #[]] W (RdRow (H + 1) (p8 s) (fun w' A => BrsAt w' w'.heap.size A l2) l2.length W)) := Lib.hid (fun W h => by have := takeLn_any h (by omega); rw [hv8] at this; exact this)
  have N9 : Hid (∀ W, RdAt W (H + 1) (p8 s) → Calls Try.prog 37 #[.pointer (some ⟨H + 1, 0, none⟩), .int .i64 8] W (RdEnd (H + 1) (p9 s) (.int .i64 v9) W)) := Lib.hid (fun W h => by have := number_any17 h (by omega) 8; rw [hv9] at this; exact this)
  have N10 : Hid (∀ W, RdAt W (H + 1) (p9 s) → Calls Try.prog 57 #[.pointer (some ⟨H + 1, 0, none⟩), .func (.func 58) #[] #[]] W fun e w' => ∃ A c, e = .returned (.slice A bm.length c) ∧ BtsAt w' w'.heap.size A bm ∧ RdAt w' (H + 1) (p10 s) ∧ ButH (H + 1) W w' ∧ Below (H + 1) W w') := Lib.hid (fun W h => by have := takeBt_any h (by omega); rw [hv10] at this; exact this)
  have N11 : Hid (∀ W, RdAt W (H + 1) (p10 s) → Calls Try.prog 59 #[.pointer (some ⟨H + 1, 0, none⟩)] W (RdRow (H + 1) (p11 s) (fun w' A => Lies w' w'.heap.size A (zs.map (Value.int .i64))) zs.length W)) := Lib.hid (fun W h => by have := sizes_any17 h (by omega); rw [hv11] at this; exact this)
  have N12 : Hid (∀ W, RdAt W (H + 1) (p11 s) → Calls Try.prog 37 #[.pointer (some ⟨H + 1, 0, none⟩), .int .i64 8] W (RdEnd (H + 1) (p12 s) (.int .i64 v12) W)) := Lib.hid (fun W h => by have := number_any17 h (by omega) 8; rw [hv12] at this; exact this)
  have N13 : Hid (∀ W, RdAt W (H + 1) (p12 s) → Calls Try.prog 37 #[.pointer (some ⟨H + 1, 0, none⟩), .int .i64 8] W (RdEnd (H + 1) (p13 s) (.int .i64 v13) W)) := Lib.hid (fun W h => by have := number_any17 h (by omega) 8; rw [hv13] at this; exact this)
  have N14 := Lib.hid (fun W (h : RdAt W (H + 1) (p13 s)) => takeWr_any h (by omega))
  have HPm : Hid (∀ ws, pm s ws = ⟨v1, v2, l1, v4, v5, v6, v7, l2, v9, bm, zs, v12, v13, ws⟩) := Lib.hid (fun ws => by unfold pm; rw [hv1, hv2, hv3, hv4, hv5, hv6, hv7, hv8, hv9, hv10, hv11, hv12, hv13])
  have HP0 := Lib.hid hP0
  have HQ0 := Lib.hid (show PzRows H V [] none [] none [] none [] none from ⟨.inl rfl, .inl rfl, .inl rfl, .inl rfl, RowNe.nil, RowNe.nil, RowNe.nil, RowNe.nil⟩)
  have HH := Lib.hid hH
  obtain ⟨T, hT⟩ : ∃ T, str s = T := ⟨_, rfl⟩
  rw [hT] at hV ⊢
  have HV := Lib.hid (show ((w.alloc (.cells #[.int .i64 0, .int .i64 0, .slice none 0 0, .int .i64 0, .int .i64 0, .int .i64 0, .bool false, .slice none 0 0, .int .i64 0, .slice none 0 0, .slice none 0 0, .int .i64 0, .int .i64 0, .slice none 0 0] 52)).alloc (.cells #[.string T, .bool false] 80)).alloc (.cells #[.int .i64 0, .int .i64 0, .slice none 0 0, .int .i64 0, .int .i64 0, .int .i64 0, .bool false, .slice none 0 0, .int .i64 0, .slice none 0 0, .slice none 0 0, .int .i64 0, .int .i64 0, .slice none 0 0] 52) = V from by rw [hV]; rfl)
  clear hP0 hl1 hl2 hl3 hl4 hl5 hl6 hl7 hl8 hl9 hl10 hl11 hl12 hl13 hv1 hv2 hv3 hv4 hv5 hv6 hv7 hv8 hv9 hv10 hv11 hv12 hv13 hV hH hT hs
  go_enter Try.func26, Try.ntmps26
  go_upto_region 3 with fail
  rw [HV.out, HH.out]
  go_upto_region 4 with (go_at_call 37; (with_reducible refine (N1.out _ HP0.out.rd).mono ?_); rintro e u1 ⟨rfl, hr, hb, hc⟩; have HPx := Lib.hid (HP0.out.num hr hb hc); have qx := HQ0.out.but (.inr (.inl rfl)) hb; have HQx := Lib.hid qx; clear qx hr hb hc; have gf := HPx.out.fz 0; have gc : u1.cell? ⟨H + 2, 0, none⟩ = some (.int .i64 0) := HPx.out.at_ 0)
  have HP1 := Lib.hid (show PzAt w H _ (p1 s) #[.int .i64 v1, .int .i64 0, .slice none 0 0, .int .i64 0, .int .i64 0, .int .i64 0, .bool false, .slice none 0 0, .int .i64 0, .slice none 0 0, .slice none 0 0, .int .i64 0, .int .i64 0, .slice none 0 0] from HPx.out.set 0 (.int .i64 v1))
  have HQ1 := Lib.hid (HQx.out.set 0 (.int .i64 v1))
  clear gf gc HPx HQx HP0 HQ0
  generalize u1.setCell ⟨H + 2, 0, none⟩ (.int .i64 v1) = W1 at *
  go_upto_region 5 with (go_at_call 37; (with_reducible refine (N2.out _ HP1.out.rd).mono ?_); rintro e u2 ⟨rfl, hr, hb, hc⟩; have HPx := Lib.hid (HP1.out.num hr hb hc); have qx := HQ1.out.but (.inr (.inl rfl)) hb; have HQx := Lib.hid qx; clear qx hr hb hc; have gf := HPx.out.fz 1; have gc : u2.cell? ⟨H + 2, 1, none⟩ = some (.int .i64 0) := HPx.out.at_ 1)
  have HP2 := Lib.hid (show PzAt w H _ (p2 s) #[.int .i64 v1, .int .i64 v2, .slice none 0 0, .int .i64 0, .int .i64 0, .int .i64 0, .bool false, .slice none 0 0, .int .i64 0, .slice none 0 0, .slice none 0 0, .int .i64 0, .int .i64 0, .slice none 0 0] from HPx.out.set 1 (.int .i64 v2))
  have HQ2 := Lib.hid (HQx.out.set 1 (.int .i64 v2))
  clear gf gc HPx HQx HP1 HQ1
  generalize u2.setCell ⟨H + 2, 1, none⟩ (.int .i64 v2) = W2 at *
  go_upto_region 6 with (go_at_call 55; (with_reducible refine (N3.out _ HP2.out.rd).mono ?_); rintro e u3 ⟨A1, c1, rfl, ha, hf, hr, hb, hc⟩; have HPx := Lib.hid (HP2.out.num hr hb hc); have qx := HQ2.out.but (.inr (.inl rfl)) hb; have HQx := Lib.hid (show PzRows H u3 l1 A1 _ _ _ _ _ _ from ⟨ha, qx.anc, qx.bits, qx.sizes, RowNe.big (fun b off e => Nat.le_trans HP2.out.big (hf b off e)), qx.n2, qx.n3, qx.n4⟩); clear qx hr hb hc ha hf; have gf := HPx.out.fz 2; have gc : u3.cell? ⟨H + 2, 2, none⟩ = some (.slice none 0 0) := HPx.out.at_ 2)
  have HP3 := Lib.hid (show PzAt w H _ (p3 s) #[.int .i64 v1, .int .i64 v2, .slice A1 l1.length c1, .int .i64 0, .int .i64 0, .int .i64 0, .bool false, .slice none 0 0, .int .i64 0, .slice none 0 0, .slice none 0 0, .int .i64 0, .int .i64 0, .slice none 0 0] from HPx.out.set 2 (.slice A1 l1.length c1))
  have HQ3 := Lib.hid (HQx.out.set 2 (.slice A1 l1.length c1))
  clear gf gc HPx HQx HP2 HQ2
  generalize u3.setCell ⟨H + 2, 2, none⟩ (.slice A1 l1.length c1) = W3 at *
  go_upto_region 7 with (go_at_call 37; (with_reducible refine (N4.out _ HP3.out.rd).mono ?_); rintro e u4 ⟨rfl, hr, hb, hc⟩; have HPx := Lib.hid (HP3.out.num hr hb hc); have qx := HQ3.out.but (.inr (.inl rfl)) hb; have HQx := Lib.hid qx; clear qx hr hb hc; have gf := HPx.out.fz 3; have gc : u4.cell? ⟨H + 2, 3, none⟩ = some (.int .i64 0) := HPx.out.at_ 3)
  have HP4 := Lib.hid (show PzAt w H _ (p4 s) #[.int .i64 v1, .int .i64 v2, .slice A1 l1.length c1, .int .i64 v4, .int .i64 0, .int .i64 0, .bool false, .slice none 0 0, .int .i64 0, .slice none 0 0, .slice none 0 0, .int .i64 0, .int .i64 0, .slice none 0 0] from HPx.out.set 3 (.int .i64 v4))
  have HQ4 := Lib.hid (HQx.out.set 3 (.int .i64 v4))
  clear gf gc HPx HQx HP3 HQ3
  generalize u4.setCell ⟨H + 2, 3, none⟩ (.int .i64 v4) = W4 at *
  go_upto_region 8 with (go_at_call 37; (with_reducible refine (N5.out _ HP4.out.rd).mono ?_); rintro e u5 ⟨rfl, hr, hb, hc⟩; have HPx := Lib.hid (HP4.out.num hr hb hc); have qx := HQ4.out.but (.inr (.inl rfl)) hb; have HQx := Lib.hid qx; clear qx hr hb hc; have gf := HPx.out.fz 4; have gc : u5.cell? ⟨H + 2, 4, none⟩ = some (.int .i64 0) := HPx.out.at_ 4)
  have HP5 := Lib.hid (show PzAt w H _ (p5 s) #[.int .i64 v1, .int .i64 v2, .slice A1 l1.length c1, .int .i64 v4, .int .i64 v5, .int .i64 0, .bool false, .slice none 0 0, .int .i64 0, .slice none 0 0, .slice none 0 0, .int .i64 0, .int .i64 0, .slice none 0 0] from HPx.out.set 4 (.int .i64 v5))
  have HQ5 := Lib.hid (HQx.out.set 4 (.int .i64 v5))
  clear gf gc HPx HQx HP4 HQ4
  generalize u5.setCell ⟨H + 2, 4, none⟩ (.int .i64 v5) = W5 at *
  go_upto_region 9 with (go_at_call 37; (with_reducible refine (N6.out _ HP5.out.rd).mono ?_); rintro e u6 ⟨rfl, hr, hb, hc⟩; have HPx := Lib.hid (HP5.out.num hr hb hc); have qx := HQ5.out.but (.inr (.inl rfl)) hb; have HQx := Lib.hid qx; clear qx hr hb hc; have gf := HPx.out.fz 5; have gc : u6.cell? ⟨H + 2, 5, none⟩ = some (.int .i64 0) := HPx.out.at_ 5)
  have HP6 := Lib.hid (show PzAt w H _ (p6 s) #[.int .i64 v1, .int .i64 v2, .slice A1 l1.length c1, .int .i64 v4, .int .i64 v5, .int .i64 v6, .bool false, .slice none 0 0, .int .i64 0, .slice none 0 0, .slice none 0 0, .int .i64 0, .int .i64 0, .slice none 0 0] from HPx.out.set 5 (.int .i64 v6))
  have HQ6 := Lib.hid (HQx.out.set 5 (.int .i64 v6))
  clear gf gc HPx HQx HP5 HQ5
  generalize u6.setCell ⟨H + 2, 5, none⟩ (.int .i64 v6) = W6 at *
  go_upto_region 10 with (go_at_call 56; (with_reducible refine (N7.out _ HP6.out.rd).mono ?_); rintro e u7 ⟨rfl, hr, hb, hc⟩; have HPx := Lib.hid (HP6.out.num hr hb hc); have qx := HQ6.out.but (.inr (.inl rfl)) hb; have HQx := Lib.hid qx; clear qx hr hb hc; have gf := HPx.out.fz 6; have gc : u7.cell? ⟨H + 2, 6, none⟩ = some (.bool false) := HPx.out.at_ 6)
  have HP7 := Lib.hid (show PzAt w H _ (p7 s) #[.int .i64 v1, .int .i64 v2, .slice A1 l1.length c1, .int .i64 v4, .int .i64 v5, .int .i64 v6, .bool v7, .slice none 0 0, .int .i64 0, .slice none 0 0, .slice none 0 0, .int .i64 0, .int .i64 0, .slice none 0 0] from HPx.out.set 6 (.bool v7))
  have HQ7 := Lib.hid (HQx.out.set 6 (.bool v7))
  clear gf gc HPx HQx HP6 HQ6
  generalize u7.setCell ⟨H + 2, 6, none⟩ (.bool v7) = W7 at *
  go_upto_region 11 with (go_at_call 55; (with_reducible refine (N8.out _ HP7.out.rd).mono ?_); rintro e u8 ⟨A2, c2, rfl, ha, hf, hr, hb, hc⟩; have HPx := Lib.hid (HP7.out.num hr hb hc); have qx := HQ7.out.but (.inr (.inl rfl)) hb; have HQx := Lib.hid (show PzRows H u8 _ _ l2 A2 _ _ _ _ from ⟨qx.line, ha, qx.bits, qx.sizes, qx.n1, RowNe.big (fun b off e => Nat.le_trans HP7.out.big (hf b off e)), qx.n3, qx.n4⟩); clear qx hr hb hc ha hf; have gf := HPx.out.fz 7; have gc : u8.cell? ⟨H + 2, 7, none⟩ = some (.slice none 0 0) := HPx.out.at_ 7)
  have HP8 := Lib.hid (show PzAt w H _ (p8 s) #[.int .i64 v1, .int .i64 v2, .slice A1 l1.length c1, .int .i64 v4, .int .i64 v5, .int .i64 v6, .bool v7, .slice A2 l2.length c2, .int .i64 0, .slice none 0 0, .slice none 0 0, .int .i64 0, .int .i64 0, .slice none 0 0] from HPx.out.set 7 (.slice A2 l2.length c2))
  have HQ8 := Lib.hid (HQx.out.set 7 (.slice A2 l2.length c2))
  clear gf gc HPx HQx HP7 HQ7
  generalize u8.setCell ⟨H + 2, 7, none⟩ (.slice A2 l2.length c2) = W8 at *
  go_upto_region 12 with (go_at_call 37; (with_reducible refine (N9.out _ HP8.out.rd).mono ?_); rintro e u9 ⟨rfl, hr, hb, hc⟩; have HPx := Lib.hid (HP8.out.num hr hb hc); have qx := HQ8.out.but (.inr (.inl rfl)) hb; have HQx := Lib.hid qx; clear qx hr hb hc; have gf := HPx.out.fz 8; have gc : u9.cell? ⟨H + 2, 8, none⟩ = some (.int .i64 0) := HPx.out.at_ 8)
  have HP9 := Lib.hid (show PzAt w H _ (p9 s) #[.int .i64 v1, .int .i64 v2, .slice A1 l1.length c1, .int .i64 v4, .int .i64 v5, .int .i64 v6, .bool v7, .slice A2 l2.length c2, .int .i64 v9, .slice none 0 0, .slice none 0 0, .int .i64 0, .int .i64 0, .slice none 0 0] from HPx.out.set 8 (.int .i64 v9))
  have HQ9 := Lib.hid (HQx.out.set 8 (.int .i64 v9))
  clear gf gc HPx HQx HP8 HQ8
  generalize u9.setCell ⟨H + 2, 8, none⟩ (.int .i64 v9) = W9 at *
  go_upto_region 13 with (go_at_call 57; (with_reducible refine (N10.out _ HP9.out.rd).mono ?_); rintro e u10 ⟨A3, c3, rfl, ha, hr, hb, hc⟩; have HPx := Lib.hid (HP9.out.num hr hb hc); have qx := HQ9.out.but (.inr (.inl rfl)) hb; have HQx := Lib.hid (show PzRows H u10 _ _ _ _ bm A3 _ _ from ⟨qx.line, qx.anc, ha, qx.sizes, qx.n1, qx.n2, bits_ne17 HPx.out (by rfl) ha, qx.n4⟩); clear qx hr hb hc ha; have gf := HPx.out.fz 9; have gc : u10.cell? ⟨H + 2, 9, none⟩ = some (.slice none 0 0) := HPx.out.at_ 9)
  have HP10 := Lib.hid (show PzAt w H _ (p10 s) #[.int .i64 v1, .int .i64 v2, .slice A1 l1.length c1, .int .i64 v4, .int .i64 v5, .int .i64 v6, .bool v7, .slice A2 l2.length c2, .int .i64 v9, .slice A3 bm.length c3, .slice none 0 0, .int .i64 0, .int .i64 0, .slice none 0 0] from HPx.out.set 9 (.slice A3 bm.length c3))
  have HQ10 := Lib.hid (HQx.out.set 9 (.slice A3 bm.length c3))
  clear gf gc HPx HQx HP9 HQ9
  generalize u10.setCell ⟨H + 2, 9, none⟩ (.slice A3 bm.length c3) = W10 at *
  go_upto_region 14 with (go_at_call 59; (with_reducible refine (N11.out _ HP10.out.rd).mono ?_); rintro e u11 ⟨A4, c4, rfl, ha, hf, hr, hb, hc⟩; have HPx := Lib.hid (HP10.out.num hr hb hc); have qx := HQ10.out.but (.inr (.inl rfl)) hb; have HQx := Lib.hid (show PzRows H u11 _ _ _ _ _ _ zs A4 from ⟨qx.line, qx.anc, qx.bits, ha, qx.n1, qx.n2, qx.n3, RowNe.big (fun b off e => Nat.le_trans HP10.out.big (hf b off e))⟩); clear qx hr hb hc ha hf; have gf := HPx.out.fz 10; have gc : u11.cell? ⟨H + 2, 10, none⟩ = some (.slice none 0 0) := HPx.out.at_ 10)
  have HP11 := Lib.hid (show PzAt w H _ (p11 s) #[.int .i64 v1, .int .i64 v2, .slice A1 l1.length c1, .int .i64 v4, .int .i64 v5, .int .i64 v6, .bool v7, .slice A2 l2.length c2, .int .i64 v9, .slice A3 bm.length c3, .slice A4 zs.length c4, .int .i64 0, .int .i64 0, .slice none 0 0] from HPx.out.set 10 (.slice A4 zs.length c4))
  have HQ11 := Lib.hid (HQx.out.set 10 (.slice A4 zs.length c4))
  clear gf gc HPx HQx HP10 HQ10
  generalize u11.setCell ⟨H + 2, 10, none⟩ (.slice A4 zs.length c4) = W11 at *
  go_upto_region 15 with (go_at_call 37; (with_reducible refine (N12.out _ HP11.out.rd).mono ?_); rintro e u12 ⟨rfl, hr, hb, hc⟩; have HPx := Lib.hid (HP11.out.num hr hb hc); have qx := HQ11.out.but (.inr (.inl rfl)) hb; have HQx := Lib.hid qx; clear qx hr hb hc; have gf := HPx.out.fz 11; have gc : u12.cell? ⟨H + 2, 11, none⟩ = some (.int .i64 0) := HPx.out.at_ 11)
  have HP12 := Lib.hid (show PzAt w H _ (p12 s) #[.int .i64 v1, .int .i64 v2, .slice A1 l1.length c1, .int .i64 v4, .int .i64 v5, .int .i64 v6, .bool v7, .slice A2 l2.length c2, .int .i64 v9, .slice A3 bm.length c3, .slice A4 zs.length c4, .int .i64 v12, .int .i64 0, .slice none 0 0] from HPx.out.set 11 (.int .i64 v12))
  have HQ12 := Lib.hid (HQx.out.set 11 (.int .i64 v12))
  clear gf gc HPx HQx HP11 HQ11
  generalize u12.setCell ⟨H + 2, 11, none⟩ (.int .i64 v12) = W12 at *
  go_upto_region 16 with (go_at_call 37; (with_reducible refine (N13.out _ HP12.out.rd).mono ?_); rintro e u13 ⟨rfl, hr, hb, hc⟩; have HPx := Lib.hid (HP12.out.num hr hb hc); have qx := HQ12.out.but (.inr (.inl rfl)) hb; have HQx := Lib.hid qx; clear qx hr hb hc; have gf := HPx.out.fz 12; have gc : u13.cell? ⟨H + 2, 12, none⟩ = some (.int .i64 0) := HPx.out.at_ 12)
  have HP13 := Lib.hid (show PzAt w H _ (p13 s) #[.int .i64 v1, .int .i64 v2, .slice A1 l1.length c1, .int .i64 v4, .int .i64 v5, .int .i64 v6, .bool v7, .slice A2 l2.length c2, .int .i64 v9, .slice A3 bm.length c3, .slice A4 zs.length c4, .int .i64 v12, .int .i64 v13, .slice none 0 0] from HPx.out.set 12 (.int .i64 v13))
  have HQ13 := Lib.hid (HQx.out.set 12 (.int .i64 v13))
  clear gf gc HPx HQx HP12 HQ12
  generalize u13.setCell ⟨H + 2, 12, none⟩ (.int .i64 v13) = W13 at *
  by_cases hw : ∃ ws rest, wsAt (p13 s).1 = some (ws, rest) ∧ writable ws = true
  case neg =>
    have N15 : Hid (∀ W, RdAt W (H + 1) (p13 s) → Calls Try.prog 60 #[.pointer (some ⟨H + 1, 0, none⟩), .func (.func 19) #[] #[]] W fun e w' => (∃ A c, e = .returned (.slice A 0 c)) ∧ RdAt w' (H + 1) ([], true) ∧ ButH (H + 1) W w' ∧ Below (H + 1) W w') := Lib.hid (fun W h => (N14.out W h).mono (by
      rintro e w' (⟨ws, rest, h1, h2, _⟩ | ⟨_, A, c, rfl, _, _, h4, h5, h6⟩)
      · exact absurd ⟨ws, rest, h1, h2⟩ hw
      · exact ⟨⟨A, c, rfl⟩, h4, h5, h6⟩))
    have HNt : Hid (∀ m, ¬ Told s m) := Lib.hid (pm_no (fun ws h1 h2 h3 => hw ⟨ws, [], h2, (writable_iff _).2 h3.ws⟩))
    clear hw N14 HPm
    go_upto_region 17 with (go_at_call 60; (with_reducible refine (N15.out _ HP13.out.rd).mono ?_); rintro e u14 ⟨⟨A5, c5, rfl⟩, hr, hb, hc⟩; have HPx := Lib.hid (HP13.out.num hr hb hc); clear hr hb hc; have gf := HPx.out.fz 13; have gc : u14.cell? ⟨H + 2, 13, none⟩ = some (.slice none 0 0) := HPx.out.at_ 13)
    have HP14 := Lib.hid (show PzAt w H _ ([], true) _ from HPx.out.set 13 (.slice A5 0 c5))
    clear gf gc HPx HP13 HQ13
    generalize u14.setCell ⟨H + 2, 13, none⟩ (.slice A5 0 c5) = W14 at *
    have r1 := HP14.out.rd.c1
    dsimp only at r1
    go_wp2_with (first
      | (refine wpList_store_row rfl 52 (.tmp 2) (.tmp 53) rfl H zMg rfl rfl 52 zMg HP14.out.res zMg_info rfl zMg_one ?_))
    have HRr := setRow_heap W14 H zMg zMg 52 (0, 0) HP14.out.res
    refine bodyPost_ret (v := .tuple #[.agg zMg, .int .i64 3]) (results_cell17 (p := 2) (u := 3) (ty := 52) rfl _ _ H 52 zMg (0, 0) _ rfl HRr msg_desc17 rfl zMg_info) rfl ?_
    exact .inr ⟨HNt.out, mmZ, rfl, mgat_zero _, by rw [HH.out]; exact below_setRow HP14.out.bel (Nat.le_refl _) _⟩
  obtain ⟨ws, rest, hw1, hw2⟩ := hw
  have N15 : Hid (∀ W, RdAt W (H + 1) (p13 s) → Calls Try.prog 60 #[.pointer (some ⟨H + 1, 0, none⟩), .func (.func 19) #[] #[]] W (RdRow (H + 1) (rest, (p13 s).2) (fun w' A => WrsAt w' w'.heap.size A ws) ws.length W)) := Lib.hid (fun W h => (N14.out W h).mono (by
    rintro e w' (⟨ws2, rest2, h1, _, h3⟩ | ⟨h1, _⟩)
    · rw [hw1] at h1
      simp only [Option.some.injEq, Prod.mk.injEq] at h1
      obtain ⟨rfl, rfl⟩ := h1
      exact h3
    · rw [h1 _ _ hw1] at hw2; cases hw2))
  clear N14
  go_upto_region 17 with (go_at_call 60; (with_reducible refine (N15.out _ HP13.out.rd).mono ?_); rintro e u14 ⟨A5, c5, rfl, ha, hf, hr, hb, hc⟩; have HPx := Lib.hid (HP13.out.num hr hb hc); have HQx := Lib.hid (HQ13.out.but (.inr (.inl rfl)) hb); have HA5 := Lib.hid ha; have HN5 := Lib.hid (show RowNe H A5 ws from RowNe.big (fun b off e => Nat.le_trans HP13.out.big (hf b off e))); clear ha hf hr hb hc; have gf := HPx.out.fz 13; have gc : u14.cell? ⟨H + 2, 13, none⟩ = some (.slice none 0 0) := HPx.out.at_ 13)
  have HP14 := Lib.hid (show PzAt w H _ (rest, (p13 s).2) #[.int .i64 v1, .int .i64 v2, .slice A1 l1.length c1, .int .i64 v4, .int .i64 v5, .int .i64 v6, .bool v7, .slice A2 l2.length c2, .int .i64 v9, .slice A3 bm.length c3, .slice A4 zs.length c4, .int .i64 v12, .int .i64 v13, .slice A5 ws.length c5] from HPx.out.set 13 (.slice A5 ws.length c5))
  have HQ14 := Lib.hid (HQx.out.set 13 (.slice A5 ws.length c5))
  have HW14 := Lib.hid (wrs_but18 HA5.out (fun b off e h => (HN5.out b off e h).2.2) ((ButH.refl (H + 2) u14).set 13 (.slice A5 ws.length c5)))
  clear gf gc HPx HQx HA5 HP13 HQ13
  generalize u14.setCell ⟨H + 2, 13, none⟩ (.slice A5 ws.length c5) = W14 at *
  have r0 := HP14.out.rd.c0
  have r1 := HP14.out.rd.c1
  dsimp only at r0 r1
  cases hbad : (p13 s).2 with
  | true =>
    have HNt : Hid (∀ m, ¬ Told s m) := Lib.hid (pm_no (fun ws h1 h2 h3 => by rw [hbad] at h1; cases h1))
    rw [hbad] at r1
    clear hw1 hw2 hbad
    go_wp2_with (first
      | (refine wpList_store_row rfl 52 (.tmp 2) (.tmp 53) rfl H zMg rfl rfl 52 zMg HP14.out.res zMg_info rfl zMg_one ?_))
    have HRr := setRow_heap W14 H zMg zMg 52 (0, 0) HP14.out.res
    refine bodyPost_ret (v := .tuple #[.agg zMg, .int .i64 3]) (results_cell17 (p := 2) (u := 3) (ty := 52) rfl _ _ H 52 zMg (0, 0) _ rfl HRr msg_desc17 rfl zMg_info) rfl ?_
    exact .inr ⟨HNt.out, mmZ, rfl, mgat_zero _, by rw [HH.out]; exact below_setRow HP14.out.bel (Nat.le_refl _) _⟩
  | false =>
  rw [hbad] at r1
  by_cases hrest : rest = []
  case neg =>
    have HNt : Hid (∀ m, ¬ Told s m) := Lib.hid (pm_no (fun ws2 h1 h2 h3 => by
      rw [hw1] at h2
      simp only [Option.some.injEq, Prod.mk.injEq] at h2
      exact hrest h2.2))
    have q1 : ((str rest).toList == (⟨#[]⟩ : ByteArray).toList) = false := by
      rw [beq_eq_false_iff_ne, ne_eq, Lib.toList_data, Lib.toList_data, str_list]; exact hrest
    have q2 : ((str rest).toList != (⟨#[]⟩ : ByteArray).toList) = true := by unfold bne; rw [q1]; rfl
    have q3 : ((str rest).size == 0) = false := by rw [beq_eq_false_iff_ne, str_size]; intro h; exact hrest (List.length_eq_zero_iff.1 h)
    have q5 : (str rest).toList.isEmpty = false := by rw [Bool.eq_false_iff, ne_eq, List.isEmpty_iff, Lib.toList_data, str_list]; exact hrest
    have q4 : rest.isEmpty = false := by rw [Bool.eq_false_iff, ne_eq, List.isEmpty_iff]; exact hrest
    clear hw1 hw2 hbad
    go_wp2_with (first
      | (refine wpList_store_row rfl 52 (.tmp 2) (.tmp 53) rfl H zMg rfl rfl 52 zMg HP14.out.res zMg_info rfl zMg_one ?_))
    have HRr := setRow_heap W14 H zMg zMg 52 (0, 0) HP14.out.res
    refine bodyPost_ret (v := .tuple #[.agg zMg, .int .i64 3]) (results_cell17 (p := 2) (u := 3) (ty := 52) rfl _ _ H 52 zMg (0, 0) _ rfl HRr msg_desc17 rfl zMg_info) rfl ?_
    exact .inr ⟨HNt.out, mmZ, rfl, mgat_zero _, by rw [HH.out]; exact below_setRow HP14.out.bel (Nat.le_refl _) _⟩
  subst hrest
  rw [show str ([] : List UInt8) = ⟨#[]⟩ from rfl] at r0
  have hlen := ((writable_iff _).1 hw2).1
  have hfit := pm_fit (s := s) hlen
  rw [HPm.out] at hfit
  have hmg : MgAt W14 ⟨v1, v2, l1, v4, v5, v6, v7, l2, v9, bm, zs, v12, v13, ws⟩ ⟨A1, c1, A2, c2, A3, c3, A4, c4, A5, c5⟩ := ⟨HQ14.out.line, HQ14.out.anc, HQ14.out.bits, HQ14.out.sizes, HW14.out⟩
  have hrt := PRight_any _ _ hmg hfit
  have HYes : Hid (mgOkB ⟨v1, v2, l1, v4, v5, v6, v7, l2, v9, bm, zs, v12, v13, ws⟩ = true → Told s ⟨v1, v2, l1, v4, v5, v6, v7, l2, v9, bm, zs, v12, v13, ws⟩) := Lib.hid (fun h => by
    have h2 := (mgOkB_iff hfit.bits).1 h
    rw [← HPm.out ws] at h2 ⊢
    exact pm_yes hbad hw1 h2)
  have HNo : Hid (mgOkB ⟨v1, v2, l1, v4, v5, v6, v7, l2, v9, bm, zs, v12, v13, ws⟩ = false → ∀ m, ¬ Told s m) := Lib.hid (fun h => pm_no (fun ws2 h1 h2 h3 => by
    rw [hw1] at h2
    simp only [Option.some.injEq, Prod.mk.injEq, and_true] at h2
    rw [← h2, HPm.out ws] at h3
    rw [(mgOkB_iff hfit.bits).2 h3] at h
    cases h))
  have HRt := Lib.hid hrt
  have HMg := Lib.hid hmg
  unfold Mg.val Mg.cells at HRt
  dsimp only at HRt
  have b0 := HP14.out.at_ 0
  have b1 := HP14.out.at_ 1
  have b2 := HP14.out.at_ 2
  have b3 := HP14.out.at_ 3
  have b4 := HP14.out.at_ 4
  have b5 := HP14.out.at_ 5
  have b6 := HP14.out.at_ 6
  have b7 := HP14.out.at_ 7
  have b8 := HP14.out.at_ 8
  have b9 := HP14.out.at_ 9
  have b10 := HP14.out.at_ 10
  have b11 := HP14.out.at_ 11
  have b12 := HP14.out.at_ 12
  have b13 := HP14.out.at_ 13
  simp only [List.getElem?_toArray, List.getElem?_cons_zero, List.getElem?_cons_succ] at b0 b1 b2 b3 b4 b5 b6 b7 b8 b9 b10 b11 b12 b13
  obtain ⟨R, hR⟩ : ∃ R, mgOkB ⟨v1, v2, l1, v4, v5, v6, v7, l2, v9, bm, zs, v12, v13, ws⟩ = R := ⟨_, rfl⟩
  rw [hR] at HRt HYes HNo
  clear hw1 hw2 hbad hlen hfit hmg hrt hR HPm
  cases R with
  | false =>
    have HNt : Hid (∀ m, ¬ Told s m) := Lib.hid (HNo.out rfl)
    go_upto_region 18 with (go_at_call 25; (with_reducible refine HRt.out.mono ?_); rintro e u15 ⟨rfl, hb9⟩; have HB15 := Lib.hid hb9; clear hb9)
    have HP15 := Lib.hid (show PzAt w H u15 _ _ from HP14.out.num (HP14.out.rd.below HB15.out) ((ButH.refl _ _).below HB15.out) (HB15.out.mono (by have := HP14.out.big; omega)))
    clear b0 b1 b2 b3 b4 b5 b6 b7 b8 b9 b10 b11 b12 b13 r0 r1
    go_wp2_with (first
      | (refine wpList_store_row rfl 52 (.tmp 2) (.tmp 53) rfl H zMg rfl rfl 52 zMg HP15.out.res zMg_info rfl zMg_one ?_))
    have HRr := setRow_heap u15 H zMg zMg 52 (0, 0) HP15.out.res
    refine bodyPost_ret (v := .tuple #[.agg zMg, .int .i64 3]) (results_cell17 (p := 2) (u := 3) (ty := 52) rfl _ _ H 52 zMg (0, 0) _ rfl HRr msg_desc17 rfl zMg_info) rfl ?_
    exact .inr ⟨HNt.out, mmZ, rfl, mgat_zero _, by rw [HH.out]; exact below_setRow HP15.out.bel (Nat.le_refl _) _⟩
  | true =>
    have HTold := Lib.hid (HYes.out rfl)
    go_upto_region 19 with (go_at_call 25; (with_reducible refine HRt.out.mono ?_); rintro e u15 ⟨rfl, hb9⟩; have HB15 := Lib.hid hb9; clear hb9)
    have HP15 := Lib.hid (show PzAt w H u15 _ _ from HP14.out.num (HP14.out.rd.below HB15.out) ((ButH.refl _ _).below HB15.out) (HB15.out.mono (by have := HP14.out.big; omega)))
    clear b0 b1 b2 b3 b4 b5 b6 b7 b8 b9 b10 b11 b12 b13 r0 r1
    have hone : (#[.int .i64 v1, .int .i64 v2, .slice A1 l1.length c1, .int .i64 v4, .int .i64 v5, .int .i64 v6, .bool v7, .slice A2 l2.length c2, .int .i64 v9, .slice A3 bm.length c3, .slice A4 zs.length c4, .int .i64 v12, .int .i64 v13, .slice A5 ws.length c5] : Array Value).all (·.oneCell') = true := by simp [Value.oneCell']
    go_wp2_with (first
      | (refine wpList_load_row rfl 52 (.tmp 5) rfl (H + 1 + 1) rfl 52 #[.int .i64 v1, .int .i64 v2, .slice A1 l1.length c1, .int .i64 v4, .int .i64 v5, .int .i64 v6, .bool v7, .slice A2 l2.length c2, .int .i64 v9, .slice A3 bm.length c3, .slice A4 zs.length c4, .int .i64 v12, .int .i64 v13, .slice A5 ws.length c5] (0, 0) _ HP15.out.box msg_desc17 rfl zMg_info ?_)
      | (refine wpList_store_row rfl 52 (.tmp 2) (.tmp 54) rfl H #[.int .i64 v1, .int .i64 v2, .slice A1 l1.length c1, .int .i64 v4, .int .i64 v5, .int .i64 v6, .bool v7, .slice A2 l2.length c2, .int .i64 v9, .slice A3 bm.length c3, .slice A4 zs.length c4, .int .i64 v12, .int .i64 v13, .slice A5 ws.length c5] rfl rfl 52 zMg HP15.out.res zMg_info rfl hone ?_))
    have HRr := setRow_heap u15 H zMg #[.int .i64 v1, .int .i64 v2, .slice A1 l1.length c1, .int .i64 v4, .int .i64 v5, .int .i64 v6, .bool v7, .slice A2 l2.length c2, .int .i64 v9, .slice A3 bm.length c3, .slice A4 zs.length c4, .int .i64 v12, .int .i64 v13, .slice A5 ws.length c5] 52 (0, 0) HP15.out.res
    refine bodyPost_ret (v := .tuple #[.agg #[.int .i64 v1, .int .i64 v2, .slice A1 l1.length c1, .int .i64 v4, .int .i64 v5, .int .i64 v6, .bool v7, .slice A2 l2.length c2, .int .i64 v9, .slice A3 bm.length c3, .slice A4 zs.length c4, .int .i64 v12, .int .i64 v13, .slice A5 ws.length c5], .int .i64 0]) (results_cell17 (p := 2) (u := 3) (ty := 52) rfl _ _ H 52 #[.int .i64 v1, .int .i64 v2, .slice A1 l1.length c1, .int .i64 v4, .int .i64 v5, .int .i64 v6, .bool v7, .slice A2 l2.length c2, .int .i64 v9, .slice A3 bm.length c3, .slice A4 zs.length c4, .int .i64 v12, .int .i64 v13, .slice A5 ws.length c5] (0, 0) _ rfl HRr msg_desc17 rfl zMg_info) rfl ?_
    have hBt : ButH H u15 (u15.setRow H #[.int .i64 v1, .int .i64 v2, .slice A1 l1.length c1, .int .i64 v4, .int .i64 v5, .int .i64 v6, .bool v7, .slice A2 l2.length c2, .int .i64 v9, .slice A3 bm.length c3, .slice A4 zs.length c4, .int .i64 v12, .int .i64 v13, .slice A5 ws.length c5]) := ⟨by simp, fun k _ hn => setRow_other u15 H k _ hn⟩
    have hQ := (HQ14.out.but (.inl rfl) ((ButH.refl H W14).below HB15.out)).but (.inl rfl) hBt
    have hW := wrs_but18 (HMg.out.ws.next HB15.out) (fun b off e h => (HN5.out b off e h).1) hBt
    exact .inl ⟨_, ⟨A1, c1, A2, c2, A3, c3, A4, c4, A5, c5⟩, HTold.out, rfl, ⟨hQ.line, hQ.anc, hQ.bits, hQ.sizes, hW⟩, by rw [HH.out]; exact below_setRow HP15.out.bel (Nat.le_refl _) _⟩
end Go.Proofs.Ytkpoeigoocbgeaa
