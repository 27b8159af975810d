/- The contract of the document's Heard. -/
import Derived.Test.YtdhmkcomngbmaaaLinkI
namespace Go.Proofs.Ytdhmkcomngbmaaa
open Go.RowKit

/-- What lies in memory while a text is heard: the answer's four numbers, and the call's. -/
structure HdAt (w wd : World) (a b c d : Int) : Prop where
  r : Quad wd w.heap.size (.int .i64 0) (.int .i64 0) (.int .i64 0) (.int .i64 0) 68
  n : Quad wd (w.heap.size + 1) (.int .i64 a) (.int .i64 b) (.int .i64 c) (.int .i64 d) 68
  bel : Below w.heap.size w wd
section
variable {w wd w' : World} {a b c d : Int}
theorem HdAt.later (h : HdAt w wd a b c d) (hb : Below wd.heap.size wd w') : HdAt w w' a b c d := ⟨h.r.below hb, h.n.below hb, h.bel.trans (hb.mono h.bel.size)⟩
theorem HdAt.start (w : World) : HdAt w ((w.alloc (.cells #[.int .i64 0, .int .i64 0, .int .i64 0, .int .i64 0] 68)).alloc (.cells #[.int .i64 0, .int .i64 0, .int .i64 0, .int .i64 0] 68)) 0 0 0 0 := by
  have h1 := Quad.new (w.alloc (.cells #[.int .i64 0, .int .i64 0, .int .i64 0, .int .i64 0] 68)) (.int .i64 0) (.int .i64 0) (.int .i64 0) (.int .i64 0) 68
  rw [show (w.alloc (.cells #[.int .i64 0, .int .i64 0, .int .i64 0, .int .i64 0] 68)).heap.size = w.heap.size + 1 from by simp] at h1
  exact ⟨(Quad.new w _ _ _ _ _).below (below_one _ _), h1, below_news _ _ _⟩
theorem HdAt.set0 (h : HdAt w wd a b c d) (n : Int) : HdAt w (wd.setCell ⟨w.heap.size + 1, 0, none⟩ (.int .i64 n)) n b c d := ⟨h.r.far (p := ⟨w.heap.size + 1, 0, none⟩) (by show w.heap.size ≠ w.heap.size + 1; omega) _, h.n.set0 _, h.bel.setCell (p := ⟨w.heap.size + 1, 0, none⟩) (by show w.heap.size ≤ w.heap.size + 1; omega) _⟩
theorem HdAt.set1 (h : HdAt w wd a b c d) (n : Int) : HdAt w (wd.setCell ⟨w.heap.size + 1, 1, none⟩ (.int .i64 n)) a n c d := ⟨h.r.far (p := ⟨w.heap.size + 1, 1, none⟩) (by show w.heap.size ≠ w.heap.size + 1; omega) _, h.n.set1 _, h.bel.setCell (p := ⟨w.heap.size + 1, 1, none⟩) (by show w.heap.size ≤ w.heap.size + 1; omega) _⟩
theorem HdAt.set2 (h : HdAt w wd a b c d) (n : Int) : HdAt w (wd.setCell ⟨w.heap.size + 1, 2, none⟩ (.int .i64 n)) a b n d := ⟨h.r.far (p := ⟨w.heap.size + 1, 2, none⟩) (by show w.heap.size ≠ w.heap.size + 1; omega) _, h.n.set2 _, h.bel.setCell (p := ⟨w.heap.size + 1, 2, none⟩) (by show w.heap.size ≤ w.heap.size + 1; omega) _⟩
theorem HdAt.set3 (h : HdAt w wd a b c d) (n : Int) : HdAt w (wd.setCell ⟨w.heap.size + 1, 3, none⟩ (.int .i64 n)) a b c n := ⟨h.r.far (p := ⟨w.heap.size + 1, 3, none⟩) (by show w.heap.size ≠ w.heap.size + 1; omega) _, ⟨row_set h.n.blk 3 _⟩, h.bel.setCell (p := ⟨w.heap.size + 1, 3, none⟩) (by show w.heap.size ≤ w.heap.size + 1; omega) _⟩
theorem HdAt.fin (h : HdAt w wd a b c d) (v0 v1 v2 v3 : Value) : Quad (quadSet wd w.heap.size v0 v1 v2 v3) w.heap.size v0 v1 v2 v3 68 ∧ Below w.heap.size w (quadSet wd w.heap.size v0 v1 v2 v3) := ⟨h.r.set _ _ _ _, below_quad h.bel (Nat.le_refl _) _ _ _ _⟩
end

/-- What Heard answers. -/
def HeardEnd (s : List UInt8) (w : World) (e : Ending) (w' : World) : Prop :=
  ∃ (k : Nat) (a b c d : Nat) (p : List UInt8), e = .returned (.tuple #[.int .i64 k, .agg #[.int .i64 a, .int .i64 b, .int .i64 c, .int .i64 d], .string (str p)]) ∧
    ((IsHeard s ∧ (⟨k, a, b, c, d, p⟩ : Heard) = heardOf s) ∨ (¬ IsHeard s ∧ k = 0)) ∧ Below w.heap.size w w'
theorem HeardEnd.no {s : List UInt8} {w w' : World} (h : ¬ IsHeard s) (hb : Below w.heap.size w w') : HeardEnd s w (.returned (.tuple #[.int .i64 0, .agg #[.int .i64 0, .int .i64 0, .int .i64 0, .int .i64 0], .string ⟨#[]⟩])) w' :=
  ⟨0, 0, 0, 0, 0, [], rfl, .inr ⟨h, rfl⟩, hb⟩
theorem HeardEnd.yes {s : List UInt8} {w w' : World} {k : Nat} (h : IsHeard s) (hk : openK s = k) (hb : Below w.heap.size w w') : HeardEnd s w (.returned (.tuple #[.int .i64 k, .agg #[.int .i64 (num8 (openB s) 0), .int .i64 (num8 (openB s) 1), .int .i64 (num8 (openB s) 2), .int .i64 (num8 (openB s) 3)], .string (str ((openB s).drop 32))])) w' :=
  ⟨k, _, _, _, _, _, rfl, .inl ⟨h, by unfold heardOf; rw [hk, Int.toNat_natCast]⟩, hb⟩

theorem extract_num {b : List UInt8} (i j : Nat) (h : j = i + 8) : (str b).extract i j = str ((b.drop i).take 8) := by
  subst h
  rw [← str_of ((str b).extract i (i + 8))]
  congr 1
  rw [ByteArray.data_extract, Array.toList_extract, List.extract_eq_take_drop, str_list]
  rw [show i + 8 - i = 8 from by omega]
theorem extract_tail {b : List UInt8} (i : Nat) : (str b).extract i (str b).size = str (b.drop i) := by
  rw [← str_of ((str b).extract i (str b).size)]
  congr 1
  rw [ByteArray.data_extract, Array.toList_extract, List.extract_eq_take_drop, str_list, str_size]
  rw [List.take_of_length_le (by rw [List.length_drop]; omega)]

set_option maxHeartbeats 4000000 in
set_option maxRecDepth 100000 in
theorem RHeard_any (s : List UInt8) (w : World) (hs : s.length ≤ 281474976710656) :
    Calls Try.prog 30 #[.string (str s)] w (HeardEnd s w) := by
  have HO : Hid (∀ W : World, Calls Try.prog 44 #[.string (str s)] W fun e w' => e = .returned (.tuple #[.int .i64 (openK s), .string (str (openB s)), .int .i64 (openE s)]) ∧ Below W.heap.size W w') := Lib.hid (fun W => by
    have := RefOpen_any (str s) W (by rw [str_size]; unfold maxLen; omega)
    rwa [str_list] at this)
  obtain ⟨k, hk⟩ := openK_nat s
  have HNo := Lib.hid (fun w' => @HeardEnd.no s w w')
  have HYes := Lib.hid (fun w' h hb => @HeardEnd.yes s w w' k h hk hb)
  have HIs : Hid (IsHeard s ↔ openE s = 0 ∧ IsPkt k (openB s) ∧ 1 ≤ num8 (openB s) 0 ∧ num8 (openB s) 0 ≤ 1099511627776) := Lib.hid (by unfold IsHeard; rw [hk, Int.toNat_natCast])
  have hbl := openB_len s
  rw [hk] at HO
  generalize openB s = b at *
  generalize openE s = E at *
  clear hk hs
  have HS := Lib.hid (HdAt.start w)
  go_enter Try.func30, Try.ntmps30
  go_wp2_with fail
  refine (HO.out _).mono ?_
  rintro e w1 ⟨rfl, hb1⟩
  have HA := Lib.hid (HS.out.later hb1)
  clear hb1 HS HO
  have r0 := HA.out.r.c0
  have r1 := HA.out.r.c1
  have r2 := HA.out.r.c2
  have r3 := HA.out.r.c3
  have n0 := HA.out.n.c0
  have n1 := HA.out.n.c1
  have n2 := HA.out.n.c2
  have n3 := HA.out.n.c3
  have rf := HA.out.r.fr
  have nf := HA.out.n.fr
  by_cases hE0 : E = 0
  case neg =>
    have hq0 : (E != 0) = true := by simpa using hE0
    go_upto_region 4 with fail
    go_region
    go_wp2_with fail
    have hno : Hid (¬ IsHeard s) := Lib.hid (fun e => hE0 (HIs.out.1 e).1)
    obtain ⟨hR, hE⟩ := HA.out.fin (.int .i64 0) (.int .i64 0) (.int .i64 0) (.int .i64 0)
    have t0 := hR.drew.c0
    have t1 := hR.drew.c1
    have t2 := hR.drew.c2
    have t3 := hR.drew.c3
    have hE2 := hE.drew
    unfold quadSet at t0 t1 t2 t3 hE2
    exact bodyPost_ret (v := .tuple #[.int .i64 0, .agg #[.int .i64 0, .int .i64 0, .int .i64 0, .int .i64 0], .string ⟨#[]⟩]) (by simp [results, Try.results30, go_sem, t0, t1, t2, t3]) rfl (HNo.out _ hno.out hE2)
  subst hE0
  by_cases hk12 : k = 1 ∨ k = 2
  case neg =>
    have hq1 : ((k : Int) != 1) = true := by rw [bne_iff_ne]; omega
    have hq2 : ((k : Int) != 2) = true := by rw [bne_iff_ne]; omega
    go_upto_region 4 with fail
    go_region
    go_wp2_with fail
    have hno : Hid (¬ IsHeard s) := Lib.hid (fun e => hk12 (HIs.out.1 e).2.1.1)
    obtain ⟨hR, hE⟩ := HA.out.fin (.int .i64 0) (.int .i64 0) (.int .i64 0) (.int .i64 0)
    have t0 := hR.drew.c0
    have t1 := hR.drew.c1
    have t2 := hR.drew.c2
    have t3 := hR.drew.c3
    have hE2 := hE.drew
    unfold quadSet at t0 t1 t2 t3 hE2
    exact bodyPost_ret (v := .tuple #[.int .i64 0, .agg #[.int .i64 0, .int .i64 0, .int .i64 0, .int .i64 0], .string ⟨#[]⟩]) (by simp [results, Try.results30, go_sem, t0, t1, t2, t3]) rfl (HNo.out _ hno.out hE2)
  have HK : Hid (((k : Int) != 1) = false ∨ (((k : Int) != 1) = true ∧ ((k : Int) != 2) = false)) := Lib.hid (by rcases hk12 with h | h <;> subst h <;> simp)
  by_cases hl1 : b.length < 32
  case pos =>
    have hq3 : ((str b).size : Int) < 32 := by rw [str_size]; omega
    rcases HK.out with hq1 | ⟨hq1, hq2⟩
    · go_upto_region 4 with fail
      go_region
      go_wp2_with fail
      have hno : Hid (¬ IsHeard s) := Lib.hid (fun e => by have := (HIs.out.1 e).2.1.2.1; omega)
      obtain ⟨hR, hE⟩ := HA.out.fin (.int .i64 0) (.int .i64 0) (.int .i64 0) (.int .i64 0)
      have t0 := hR.drew.c0
      have t1 := hR.drew.c1
      have t2 := hR.drew.c2
      have t3 := hR.drew.c3
      have hE2 := hE.drew
      unfold quadSet at t0 t1 t2 t3 hE2
      exact bodyPost_ret (v := .tuple #[.int .i64 0, .agg #[.int .i64 0, .int .i64 0, .int .i64 0, .int .i64 0], .string ⟨#[]⟩]) (by simp [results, Try.results30, go_sem, t0, t1, t2, t3]) rfl (HNo.out _ hno.out hE2)
    · go_upto_region 4 with fail
      go_region
      go_wp2_with fail
      have hno : Hid (¬ IsHeard s) := Lib.hid (fun e => by have := (HIs.out.1 e).2.1.2.1; omega)
      obtain ⟨hR, hE⟩ := HA.out.fin (.int .i64 0) (.int .i64 0) (.int .i64 0) (.int .i64 0)
      have t0 := hR.drew.c0
      have t1 := hR.drew.c1
      have t2 := hR.drew.c2
      have t3 := hR.drew.c3
      have hE2 := hE.drew
      unfold quadSet at t0 t1 t2 t3 hE2
      exact bodyPost_ret (v := .tuple #[.int .i64 0, .agg #[.int .i64 0, .int .i64 0, .int .i64 0, .int .i64 0], .string ⟨#[]⟩]) (by simp [results, Try.results30, go_sem, t0, t1, t2, t3]) rfl (HNo.out _ hno.out hE2)
  have hq3 : ¬ ((str b).size : Int) < 32 := by rw [str_size]; omega
  by_cases hl2 : 544 < b.length
  case pos =>
    have hq4 : (544 : Int) < ((str b).size : Int) := by rw [str_size]; omega
    rcases HK.out with hq1 | ⟨hq1, hq2⟩
    · go_upto_region 4 with fail
      go_region
      go_wp2_with fail
      have hno : Hid (¬ IsHeard s) := Lib.hid (fun e => by have := (HIs.out.1 e).2.1.2.2.1; omega)
      obtain ⟨hR, hE⟩ := HA.out.fin (.int .i64 0) (.int .i64 0) (.int .i64 0) (.int .i64 0)
      have t0 := hR.drew.c0
      have t1 := hR.drew.c1
      have t2 := hR.drew.c2
      have t3 := hR.drew.c3
      have hE2 := hE.drew
      unfold quadSet at t0 t1 t2 t3 hE2
      exact bodyPost_ret (v := .tuple #[.int .i64 0, .agg #[.int .i64 0, .int .i64 0, .int .i64 0, .int .i64 0], .string ⟨#[]⟩]) (by simp [results, Try.results30, go_sem, t0, t1, t2, t3]) rfl (HNo.out _ hno.out hE2)
    · go_upto_region 4 with fail
      go_region
      go_wp2_with fail
      have hno : Hid (¬ IsHeard s) := Lib.hid (fun e => by have := (HIs.out.1 e).2.1.2.2.1; omega)
      obtain ⟨hR, hE⟩ := HA.out.fin (.int .i64 0) (.int .i64 0) (.int .i64 0) (.int .i64 0)
      have t0 := hR.drew.c0
      have t1 := hR.drew.c1
      have t2 := hR.drew.c2
      have t3 := hR.drew.c3
      have hE2 := hE.drew
      unfold quadSet at t0 t1 t2 t3 hE2
      exact bodyPost_ret (v := .tuple #[.int .i64 0, .agg #[.int .i64 0, .int .i64 0, .int .i64 0, .int .i64 0], .string ⟨#[]⟩]) (by simp [results, Try.results30, go_sem, t0, t1, t2, t3]) rfl (HNo.out _ hno.out hE2)
  have hq4 : ¬ (544 : Int) < ((str b).size : Int) := by rw [str_size]; omega
  have HGy : Hid (∀ i, i < 4 → num8 b i < 9223372036854775808 → getE ((b.drop (8 * i)).take 8) = 0 ∧ getN ((b.drop (8 * i)).take 8) = (num8 b i : Int)) := Lib.hid (fun i hi h => by
    have hlen : ((b.drop (8 * i)).take 8).length = 8 := by rw [List.length_take, List.length_drop]; omega
    have e := getE_ok (by omega) (by omega) h
    exact ⟨e, getN_ok e⟩)
  have HGn : Hid (∀ i, i < 4 → ¬ num8 b i < 9223372036854775808 → getE ((b.drop (8 * i)).take 8) = 10) := Lib.hid (fun i hi h => by
    have hlen : ((b.drop (8 * i)).take 8).length = 8 := by rw [List.length_take, List.length_drop]; omega
    exact getE_big (by omega) (by omega) (by unfold num8 at h; omega))
  have HGet : Hid (∀ i, i < 4 → ∀ W : World, Calls Try.prog 45 #[.string (str ((b.drop (8 * i)).take 8))] W fun e w' => e = .returned (.tuple #[.int .i64 (getN ((b.drop (8 * i)).take 8)), .int .i64 (getE ((b.drop (8 * i)).take 8))]) ∧ W = w') := Lib.hid (fun i hi W => by
    have := RefGet_any (str ((b.drop (8 * i)).take 8)) W (by rw [str_size, List.length_take]; unfold maxLen; omega)
    rwa [str_list] at this)
  have HX0 := Lib.hid (extract_num (b := b) 0 8 rfl)
  have HX1 := Lib.hid (extract_num (b := b) 8 16 rfl)
  have HX2 := Lib.hid (extract_num (b := b) 16 24 rfl)
  have HX3 := Lib.hid (extract_num (b := b) 24 32 rfl)
  have HXt := Lib.hid (extract_tail (b := b) 32)
  have hsz : (32 : Int) ≤ ((str b).size : Int) := by omega
  have hsz2 : 32 ≤ (str b).size := by omega
  clear HK
  rcases hk12 with hk1 | hk1
  case inl =>
    subst hk1
    go_wp2_with fail
    clear r0 r1 r2 r3 n0 n1 n2 n3 rf nf
    refine wp_loop_rounds 5 ?_
    rw [rounds_succ]
    have r0 := HA.out.r.c0
    have r1 := HA.out.r.c1
    have r2 := HA.out.r.c2
    have r3 := HA.out.r.c3
    have n0 := HA.out.n.c0
    have n1 := HA.out.n.c1
    have n2 := HA.out.n.c2
    have n3 := HA.out.n.c3
    have rf := HA.out.r.fr
    have nf := HA.out.n.fr
    have HQ := Lib.hid (HGet.out 0 (by omega))
    go_wp2_with fail
    rw [HX0.out]
    refine (HQ.out _).mono ?_
    rintro e w2 ⟨rfl, hw⟩
    subst hw
    by_cases hR0 : num8 b 0 < 9223372036854775808
    case neg =>
      have e1 := HGn.out 0 (by omega) hR0
      rw [e1]
      clear e1
      generalize getN ((b.drop (8 * 0)).take 8) = Nm at *
      go_wp2_with fail
      have hno : Hid (¬ IsHeard s) := Lib.hid (fun e => hR0 ((HIs.out.1 e).2.1.2.2.2.1 0 (by omega)))
      obtain ⟨hR, hE⟩ := HA.out.fin (.int .i64 0) (.int .i64 0) (.int .i64 0) (.int .i64 0)
      have t0 := hR.c0
      have t1 := hR.c1
      have t2 := hR.c2
      have t3 := hR.c3
      have hE2 := hE
      unfold quadSet at t0 t1 t2 t3 hE2
      exact bodyPost_ret (v := .tuple #[.int .i64 0, .agg #[.int .i64 0, .int .i64 0, .int .i64 0, .int .i64 0], .string ⟨#[]⟩]) (by simp [results, Try.results30, go_sem, t0, t1, t2, t3]) rfl (HNo.out _ hno.out hE2)
    obtain ⟨e1, e2⟩ := HGy.out 0 (by omega) hR0
    rw [e1, e2]
    clear e1 e2 HQ
    replace HA := Lib.hid (HA.out.set0 (num8 b 0))
    go_wp2_with fail
    generalize w1.setCell ⟨w.heap.size + 1, 0, none⟩ (.int .i64 (num8 b 0)) = W0 at HA ⊢
    clear r0 r1 r2 r3 n0 n1 n2 n3 rf nf
    replace hR0 := Lib.hid hR0
    rw [rounds_succ]
    have r0 := HA.out.r.c0
    have r1 := HA.out.r.c1
    have r2 := HA.out.r.c2
    have r3 := HA.out.r.c3
    have n0 := HA.out.n.c0
    have n1 := HA.out.n.c1
    have n2 := HA.out.n.c2
    have n3 := HA.out.n.c3
    have rf := HA.out.r.fr
    have nf := HA.out.n.fr
    have HQ := Lib.hid (HGet.out 1 (by omega))
    go_wp2_with fail
    rw [HX1.out]
    refine (HQ.out _).mono ?_
    rintro e w3 ⟨rfl, hw⟩
    subst hw
    by_cases hR1 : num8 b 1 < 9223372036854775808
    case neg =>
      have e1 := HGn.out 1 (by omega) hR1
      rw [e1]
      clear e1
      generalize getN ((b.drop (8 * 1)).take 8) = Nm at *
      go_wp2_with fail
      have hno : Hid (¬ IsHeard s) := Lib.hid (fun e => hR1 ((HIs.out.1 e).2.1.2.2.2.1 1 (by omega)))
      obtain ⟨hR, hE⟩ := HA.out.fin (.int .i64 0) (.int .i64 0) (.int .i64 0) (.int .i64 0)
      have t0 := hR.c0
      have t1 := hR.c1
      have t2 := hR.c2
      have t3 := hR.c3
      have hE2 := hE
      unfold quadSet at t0 t1 t2 t3 hE2
      exact bodyPost_ret (v := .tuple #[.int .i64 0, .agg #[.int .i64 0, .int .i64 0, .int .i64 0, .int .i64 0], .string ⟨#[]⟩]) (by simp [results, Try.results30, go_sem, t0, t1, t2, t3]) rfl (HNo.out _ hno.out hE2)
    obtain ⟨e1, e2⟩ := HGy.out 1 (by omega) hR1
    rw [e1, e2]
    clear e1 e2 HQ
    replace HA := Lib.hid (HA.out.set1 (num8 b 1))
    go_wp2_with fail
    generalize W0.setCell ⟨w.heap.size + 1, 1, none⟩ (.int .i64 (num8 b 1)) = W1 at HA ⊢
    clear r0 r1 r2 r3 n0 n1 n2 n3 rf nf
    replace hR1 := Lib.hid hR1
    rw [rounds_succ]
    have r0 := HA.out.r.c0
    have r1 := HA.out.r.c1
    have r2 := HA.out.r.c2
    have r3 := HA.out.r.c3
    have n0 := HA.out.n.c0
    have n1 := HA.out.n.c1
    have n2 := HA.out.n.c2
    have n3 := HA.out.n.c3
    have rf := HA.out.r.fr
    have nf := HA.out.n.fr
    have HQ := Lib.hid (HGet.out 2 (by omega))
    go_wp2_with fail
    rw [HX2.out]
    refine (HQ.out _).mono ?_
    rintro e w4 ⟨rfl, hw⟩
    subst hw
    by_cases hR2 : num8 b 2 < 9223372036854775808
    case neg =>
      have e1 := HGn.out 2 (by omega) hR2
      rw [e1]
      clear e1
      generalize getN ((b.drop (8 * 2)).take 8) = Nm at *
      go_wp2_with fail
      have hno : Hid (¬ IsHeard s) := Lib.hid (fun e => hR2 ((HIs.out.1 e).2.1.2.2.2.1 2 (by omega)))
      obtain ⟨hR, hE⟩ := HA.out.fin (.int .i64 0) (.int .i64 0) (.int .i64 0) (.int .i64 0)
      have t0 := hR.c0
      have t1 := hR.c1
      have t2 := hR.c2
      have t3 := hR.c3
      have hE2 := hE
      unfold quadSet at t0 t1 t2 t3 hE2
      exact bodyPost_ret (v := .tuple #[.int .i64 0, .agg #[.int .i64 0, .int .i64 0, .int .i64 0, .int .i64 0], .string ⟨#[]⟩]) (by simp [results, Try.results30, go_sem, t0, t1, t2, t3]) rfl (HNo.out _ hno.out hE2)
    obtain ⟨e1, e2⟩ := HGy.out 2 (by omega) hR2
    rw [e1, e2]
    clear e1 e2 HQ
    replace HA := Lib.hid (HA.out.set2 (num8 b 2))
    go_wp2_with fail
    generalize W1.setCell ⟨w.heap.size + 1, 2, none⟩ (.int .i64 (num8 b 2)) = W2 at HA ⊢
    clear r0 r1 r2 r3 n0 n1 n2 n3 rf nf
    replace hR2 := Lib.hid hR2
    rw [rounds_succ]
    have r0 := HA.out.r.c0
    have r1 := HA.out.r.c1
    have r2 := HA.out.r.c2
    have r3 := HA.out.r.c3
    have n0 := HA.out.n.c0
    have n1 := HA.out.n.c1
    have n2 := HA.out.n.c2
    have n3 := HA.out.n.c3
    have rf := HA.out.r.fr
    have nf := HA.out.n.fr
    have HQ := Lib.hid (HGet.out 3 (by omega))
    go_wp2_with fail
    rw [HX3.out]
    refine (HQ.out _).mono ?_
    rintro e w5 ⟨rfl, hw⟩
    subst hw
    by_cases hR3 : num8 b 3 < 9223372036854775808
    case neg =>
      have e1 := HGn.out 3 (by omega) hR3
      rw [e1]
      clear e1
      generalize getN ((b.drop (8 * 3)).take 8) = Nm at *
      go_wp2_with fail
      have hno : Hid (¬ IsHeard s) := Lib.hid (fun e => hR3 ((HIs.out.1 e).2.1.2.2.2.1 3 (by omega)))
      obtain ⟨hR, hE⟩ := HA.out.fin (.int .i64 0) (.int .i64 0) (.int .i64 0) (.int .i64 0)
      have t0 := hR.c0
      have t1 := hR.c1
      have t2 := hR.c2
      have t3 := hR.c3
      have hE2 := hE
      unfold quadSet at t0 t1 t2 t3 hE2
      exact bodyPost_ret (v := .tuple #[.int .i64 0, .agg #[.int .i64 0, .int .i64 0, .int .i64 0, .int .i64 0], .string ⟨#[]⟩]) (by simp [results, Try.results30, go_sem, t0, t1, t2, t3]) rfl (HNo.out _ hno.out hE2)
    obtain ⟨e1, e2⟩ := HGy.out 3 (by omega) hR3
    rw [e1, e2]
    clear e1 e2 HQ
    replace HA := Lib.hid (HA.out.set3 (num8 b 3))
    go_wp2_with fail
    generalize W2.setCell ⟨w.heap.size + 1, 3, none⟩ (.int .i64 (num8 b 3)) = W3 at HA ⊢
    clear r0 r1 r2 r3 n0 n1 n2 n3 rf nf
    replace hR3 := Lib.hid hR3
    rw [rounds_succ]
    have r0 := HA.out.r.c0
    have r1 := HA.out.r.c1
    have r2 := HA.out.r.c2
    have r3 := HA.out.r.c3
    have n0 := HA.out.n.c0
    have n1 := HA.out.n.c1
    have n2 := HA.out.n.c2
    have n3 := HA.out.n.c3
    have rf := HA.out.r.fr
    have nf := HA.out.n.fr
    have HR4 : Hid (∀ i, i < 4 → num8 b i < 9223372036854775808) := Lib.hid (fun i hi => by match i, hi with | 0, _ => exact hR0.out | 1, _ => exact hR1.out | 2, _ => exact hR2.out | 3, _ => exact hR3.out)
    clear hR0 hR1 hR2 hR3 HGy HGn HGet
    by_cases g1 : ((num8 b 0 : Nat) : Int) < 1
    case pos =>
      go_wp2_with fail
      have hno : Hid (¬ IsHeard s) := Lib.hid (fun e => by have := (HIs.out.1 e).2.2.1; omega)
      obtain ⟨hR, hE⟩ := HA.out.fin (.int .i64 0) (.int .i64 0) (.int .i64 0) (.int .i64 0)
      have t0 := hR.c0
      have t1 := hR.c1
      have t2 := hR.c2
      have t3 := hR.c3
      have hE2 := hE
      unfold quadSet at t0 t1 t2 t3 hE2
      exact bodyPost_ret (v := .tuple #[.int .i64 0, .agg #[.int .i64 0, .int .i64 0, .int .i64 0, .int .i64 0], .string ⟨#[]⟩]) (by simp [results, Try.results30, go_sem, t0, t1, t2, t3]) rfl (HNo.out _ hno.out hE2)
    by_cases g2 : (1099511627776 : Int) < ((num8 b 0 : Nat) : Int)
    case pos =>
      go_wp2_with fail
      have hno : Hid (¬ IsHeard s) := Lib.hid (fun e => by have := (HIs.out.1 e).2.2.2; omega)
      obtain ⟨hR, hE⟩ := HA.out.fin (.int .i64 0) (.int .i64 0) (.int .i64 0) (.int .i64 0)
      have t0 := hR.c0
      have t1 := hR.c1
      have t2 := hR.c2
      have t3 := hR.c3
      have hE2 := hE
      unfold quadSet at t0 t1 t2 t3 hE2
      exact bodyPost_ret (v := .tuple #[.int .i64 0, .agg #[.int .i64 0, .int .i64 0, .int .i64 0, .int .i64 0], .string ⟨#[]⟩]) (by simp [results, Try.results30, go_sem, t0, t1, t2, t3]) rfl (HNo.out _ hno.out hE2)
    have hyes : Hid (IsHeard s) := Lib.hid (HIs.out.2 ⟨(by first | rfl | trivial), ⟨.inl rfl, by omega, by omega, HR4.out, fun e => by omega⟩, by omega, by omega⟩)
    go_upto_region 14 with fail
    go_region
    go_wp2_with fail
    obtain ⟨hR, hE⟩ := HA.out.fin (.int .i64 (num8 b 0)) (.int .i64 (num8 b 1)) (.int .i64 (num8 b 2)) (.int .i64 (num8 b 3))
    have t0 := hR.drew.c0
    have t1 := hR.drew.c1
    have t2 := hR.drew.c2
    have t3 := hR.drew.c3
    have hE2 := hE.drew
    have hfin := HYes.out _ hyes.out hE2
    unfold quadSet at t0 t1 t2 t3 hfin
    rw [← HXt.out] at hfin
    exact bodyPost_ret (v := .tuple #[.int .i64 1, .agg #[.int .i64 (num8 b 0), .int .i64 (num8 b 1), .int .i64 (num8 b 2), .int .i64 (num8 b 3)], .string ((str b).extract 32 (str b).size)]) (by simp [results, Try.results30, go_sem, t0, t1, t2, t3]) rfl hfin
  case inr =>
    subst hk1
    go_wp2_with fail
    clear r0 r1 r2 r3 n0 n1 n2 n3 rf nf
    refine wp_loop_rounds 5 ?_
    rw [rounds_succ]
    have r0 := HA.out.r.c0
    have r1 := HA.out.r.c1
    have r2 := HA.out.r.c2
    have r3 := HA.out.r.c3
    have n0 := HA.out.n.c0
    have n1 := HA.out.n.c1
    have n2 := HA.out.n.c2
    have n3 := HA.out.n.c3
    have rf := HA.out.r.fr
    have nf := HA.out.n.fr
    have HQ := Lib.hid (HGet.out 0 (by omega))
    go_wp2_with fail
    rw [HX0.out]
    refine (HQ.out _).mono ?_
    rintro e w2 ⟨rfl, hw⟩
    subst hw
    by_cases hR0 : num8 b 0 < 9223372036854775808
    case neg =>
      have e1 := HGn.out 0 (by omega) hR0
      rw [e1]
      clear e1
      generalize getN ((b.drop (8 * 0)).take 8) = Nm at *
      go_wp2_with fail
      have hno : Hid (¬ IsHeard s) := Lib.hid (fun e => hR0 ((HIs.out.1 e).2.1.2.2.2.1 0 (by omega)))
      obtain ⟨hR, hE⟩ := HA.out.fin (.int .i64 0) (.int .i64 0) (.int .i64 0) (.int .i64 0)
      have t0 := hR.c0
      have t1 := hR.c1
      have t2 := hR.c2
      have t3 := hR.c3
      have hE2 := hE
      unfold quadSet at t0 t1 t2 t3 hE2
      exact bodyPost_ret (v := .tuple #[.int .i64 0, .agg #[.int .i64 0, .int .i64 0, .int .i64 0, .int .i64 0], .string ⟨#[]⟩]) (by simp [results, Try.results30, go_sem, t0, t1, t2, t3]) rfl (HNo.out _ hno.out hE2)
    obtain ⟨e1, e2⟩ := HGy.out 0 (by omega) hR0
    rw [e1, e2]
    clear e1 e2 HQ
    replace HA := Lib.hid (HA.out.set0 (num8 b 0))
    go_wp2_with fail
    generalize w1.setCell ⟨w.heap.size + 1, 0, none⟩ (.int .i64 (num8 b 0)) = W0 at HA ⊢
    clear r0 r1 r2 r3 n0 n1 n2 n3 rf nf
    replace hR0 := Lib.hid hR0
    rw [rounds_succ]
    have r0 := HA.out.r.c0
    have r1 := HA.out.r.c1
    have r2 := HA.out.r.c2
    have r3 := HA.out.r.c3
    have n0 := HA.out.n.c0
    have n1 := HA.out.n.c1
    have n2 := HA.out.n.c2
    have n3 := HA.out.n.c3
    have rf := HA.out.r.fr
    have nf := HA.out.n.fr
    have HQ := Lib.hid (HGet.out 1 (by omega))
    go_wp2_with fail
    rw [HX1.out]
    refine (HQ.out _).mono ?_
    rintro e w3 ⟨rfl, hw⟩
    subst hw
    by_cases hR1 : num8 b 1 < 9223372036854775808
    case neg =>
      have e1 := HGn.out 1 (by omega) hR1
      rw [e1]
      clear e1
      generalize getN ((b.drop (8 * 1)).take 8) = Nm at *
      go_wp2_with fail
      have hno : Hid (¬ IsHeard s) := Lib.hid (fun e => hR1 ((HIs.out.1 e).2.1.2.2.2.1 1 (by omega)))
      obtain ⟨hR, hE⟩ := HA.out.fin (.int .i64 0) (.int .i64 0) (.int .i64 0) (.int .i64 0)
      have t0 := hR.c0
      have t1 := hR.c1
      have t2 := hR.c2
      have t3 := hR.c3
      have hE2 := hE
      unfold quadSet at t0 t1 t2 t3 hE2
      exact bodyPost_ret (v := .tuple #[.int .i64 0, .agg #[.int .i64 0, .int .i64 0, .int .i64 0, .int .i64 0], .string ⟨#[]⟩]) (by simp [results, Try.results30, go_sem, t0, t1, t2, t3]) rfl (HNo.out _ hno.out hE2)
    obtain ⟨e1, e2⟩ := HGy.out 1 (by omega) hR1
    rw [e1, e2]
    clear e1 e2 HQ
    replace HA := Lib.hid (HA.out.set1 (num8 b 1))
    go_wp2_with fail
    generalize W0.setCell ⟨w.heap.size + 1, 1, none⟩ (.int .i64 (num8 b 1)) = W1 at HA ⊢
    clear r0 r1 r2 r3 n0 n1 n2 n3 rf nf
    replace hR1 := Lib.hid hR1
    rw [rounds_succ]
    have r0 := HA.out.r.c0
    have r1 := HA.out.r.c1
    have r2 := HA.out.r.c2
    have r3 := HA.out.r.c3
    have n0 := HA.out.n.c0
    have n1 := HA.out.n.c1
    have n2 := HA.out.n.c2
    have n3 := HA.out.n.c3
    have rf := HA.out.r.fr
    have nf := HA.out.n.fr
    have HQ := Lib.hid (HGet.out 2 (by omega))
    go_wp2_with fail
    rw [HX2.out]
    refine (HQ.out _).mono ?_
    rintro e w4 ⟨rfl, hw⟩
    subst hw
    by_cases hR2 : num8 b 2 < 9223372036854775808
    case neg =>
      have e1 := HGn.out 2 (by omega) hR2
      rw [e1]
      clear e1
      generalize getN ((b.drop (8 * 2)).take 8) = Nm at *
      go_wp2_with fail
      have hno : Hid (¬ IsHeard s) := Lib.hid (fun e => hR2 ((HIs.out.1 e).2.1.2.2.2.1 2 (by omega)))
      obtain ⟨hR, hE⟩ := HA.out.fin (.int .i64 0) (.int .i64 0) (.int .i64 0) (.int .i64 0)
      have t0 := hR.c0
      have t1 := hR.c1
      have t2 := hR.c2
      have t3 := hR.c3
      have hE2 := hE
      unfold quadSet at t0 t1 t2 t3 hE2
      exact bodyPost_ret (v := .tuple #[.int .i64 0, .agg #[.int .i64 0, .int .i64 0, .int .i64 0, .int .i64 0], .string ⟨#[]⟩]) (by simp [results, Try.results30, go_sem, t0, t1, t2, t3]) rfl (HNo.out _ hno.out hE2)
    obtain ⟨e1, e2⟩ := HGy.out 2 (by omega) hR2
    rw [e1, e2]
    clear e1 e2 HQ
    replace HA := Lib.hid (HA.out.set2 (num8 b 2))
    go_wp2_with fail
    generalize W1.setCell ⟨w.heap.size + 1, 2, none⟩ (.int .i64 (num8 b 2)) = W2 at HA ⊢
    clear r0 r1 r2 r3 n0 n1 n2 n3 rf nf
    replace hR2 := Lib.hid hR2
    rw [rounds_succ]
    have r0 := HA.out.r.c0
    have r1 := HA.out.r.c1
    have r2 := HA.out.r.c2
    have r3 := HA.out.r.c3
    have n0 := HA.out.n.c0
    have n1 := HA.out.n.c1
    have n2 := HA.out.n.c2
    have n3 := HA.out.n.c3
    have rf := HA.out.r.fr
    have nf := HA.out.n.fr
    have HQ := Lib.hid (HGet.out 3 (by omega))
    go_wp2_with fail
    rw [HX3.out]
    refine (HQ.out _).mono ?_
    rintro e w5 ⟨rfl, hw⟩
    subst hw
    by_cases hR3 : num8 b 3 < 9223372036854775808
    case neg =>
      have e1 := HGn.out 3 (by omega) hR3
      rw [e1]
      clear e1
      generalize getN ((b.drop (8 * 3)).take 8) = Nm at *
      go_wp2_with fail
      have hno : Hid (¬ IsHeard s) := Lib.hid (fun e => hR3 ((HIs.out.1 e).2.1.2.2.2.1 3 (by omega)))
      obtain ⟨hR, hE⟩ := HA.out.fin (.int .i64 0) (.int .i64 0) (.int .i64 0) (.int .i64 0)
      have t0 := hR.c0
      have t1 := hR.c1
      have t2 := hR.c2
      have t3 := hR.c3
      have hE2 := hE
      unfold quadSet at t0 t1 t2 t3 hE2
      exact bodyPost_ret (v := .tuple #[.int .i64 0, .agg #[.int .i64 0, .int .i64 0, .int .i64 0, .int .i64 0], .string ⟨#[]⟩]) (by simp [results, Try.results30, go_sem, t0, t1, t2, t3]) rfl (HNo.out _ hno.out hE2)
    obtain ⟨e1, e2⟩ := HGy.out 3 (by omega) hR3
    rw [e1, e2]
    clear e1 e2 HQ
    replace HA := Lib.hid (HA.out.set3 (num8 b 3))
    go_wp2_with fail
    generalize W2.setCell ⟨w.heap.size + 1, 3, none⟩ (.int .i64 (num8 b 3)) = W3 at HA ⊢
    clear r0 r1 r2 r3 n0 n1 n2 n3 rf nf
    replace hR3 := Lib.hid hR3
    rw [rounds_succ]
    have r0 := HA.out.r.c0
    have r1 := HA.out.r.c1
    have r2 := HA.out.r.c2
    have r3 := HA.out.r.c3
    have n0 := HA.out.n.c0
    have n1 := HA.out.n.c1
    have n2 := HA.out.n.c2
    have n3 := HA.out.n.c3
    have rf := HA.out.r.fr
    have nf := HA.out.n.fr
    have HR4 : Hid (∀ i, i < 4 → num8 b i < 9223372036854775808) := Lib.hid (fun i hi => by match i, hi with | 0, _ => exact hR0.out | 1, _ => exact hR1.out | 2, _ => exact hR2.out | 3, _ => exact hR3.out)
    clear hR0 hR1 hR2 hR3 HGy HGn HGet
    by_cases g1 : ((num8 b 0 : Nat) : Int) < 1
    case pos =>
      go_wp2_with fail
      have hno : Hid (¬ IsHeard s) := Lib.hid (fun e => by have := (HIs.out.1 e).2.2.1; omega)
      obtain ⟨hR, hE⟩ := HA.out.fin (.int .i64 0) (.int .i64 0) (.int .i64 0) (.int .i64 0)
      have t0 := hR.c0
      have t1 := hR.c1
      have t2 := hR.c2
      have t3 := hR.c3
      have hE2 := hE
      unfold quadSet at t0 t1 t2 t3 hE2
      exact bodyPost_ret (v := .tuple #[.int .i64 0, .agg #[.int .i64 0, .int .i64 0, .int .i64 0, .int .i64 0], .string ⟨#[]⟩]) (by simp [results, Try.results30, go_sem, t0, t1, t2, t3]) rfl (HNo.out _ hno.out hE2)
    by_cases g2 : (1099511627776 : Int) < ((num8 b 0 : Nat) : Int)
    case pos =>
      go_wp2_with fail
      have hno : Hid (¬ IsHeard s) := Lib.hid (fun e => by have := (HIs.out.1 e).2.2.2; omega)
      obtain ⟨hR, hE⟩ := HA.out.fin (.int .i64 0) (.int .i64 0) (.int .i64 0) (.int .i64 0)
      have t0 := hR.c0
      have t1 := hR.c1
      have t2 := hR.c2
      have t3 := hR.c3
      have hE2 := hE
      unfold quadSet at t0 t1 t2 t3 hE2
      exact bodyPost_ret (v := .tuple #[.int .i64 0, .agg #[.int .i64 0, .int .i64 0, .int .i64 0, .int .i64 0], .string ⟨#[]⟩]) (by simp [results, Try.results30, go_sem, t0, t1, t2, t3]) rfl (HNo.out _ hno.out hE2)
    by_cases g3 : num8 b 2 = 0
    case neg =>
      have g3' : (((num8 b 2 : Nat) : Int) != 0) = true := by rw [bne_iff_ne]; omega
      go_wp2_with fail
      have hno : Hid (¬ IsHeard s) := Lib.hid (fun e => g3 ((HIs.out.1 e).2.1.2.2.2.2 rfl).1)
      obtain ⟨hR, hE⟩ := HA.out.fin (.int .i64 0) (.int .i64 0) (.int .i64 0) (.int .i64 0)
      have t0 := hR.c0
      have t1 := hR.c1
      have t2 := hR.c2
      have t3 := hR.c3
      have hE2 := hE
      unfold quadSet at t0 t1 t2 t3 hE2
      exact bodyPost_ret (v := .tuple #[.int .i64 0, .agg #[.int .i64 0, .int .i64 0, .int .i64 0, .int .i64 0], .string ⟨#[]⟩]) (by simp [results, Try.results30, go_sem, t0, t1, t2, t3]) rfl (HNo.out _ hno.out hE2)
    have g3' : (((num8 b 2 : Nat) : Int) != 0) = false := by simp [g3]
    by_cases g4 : 32 < b.length
    case pos =>
      have g4' : (32 : Int) < ((str b).size : Int) := by rw [str_size]; omega
      replace g3 := Lib.hid g3
      go_wp2_with fail
      have hno : Hid (¬ IsHeard s) := Lib.hid (fun e => by have := ((HIs.out.1 e).2.1.2.2.2.2 rfl).2; omega)
      obtain ⟨hR, hE⟩ := HA.out.fin (.int .i64 0) (.int .i64 0) (.int .i64 0) (.int .i64 0)
      have t0 := hR.c0
      have t1 := hR.c1
      have t2 := hR.c2
      have t3 := hR.c3
      have hE2 := hE
      unfold quadSet at t0 t1 t2 t3 hE2
      exact bodyPost_ret (v := .tuple #[.int .i64 0, .agg #[.int .i64 0, .int .i64 0, .int .i64 0, .int .i64 0], .string ⟨#[]⟩]) (by simp [results, Try.results30, go_sem, t0, t1, t2, t3]) rfl (HNo.out _ hno.out hE2)
    have g4' : ¬ (32 : Int) < ((str b).size : Int) := by rw [str_size]; omega
    have hyes : Hid (IsHeard s) := Lib.hid (HIs.out.2 ⟨(by first | rfl | trivial), ⟨.inr rfl, by omega, by omega, HR4.out, fun _ => ⟨g3, by omega⟩⟩, by omega, by omega⟩)
    replace g3 := Lib.hid g3
    go_upto_region 14 with fail
    go_region
    go_wp2_with fail
    obtain ⟨hR, hE⟩ := HA.out.fin (.int .i64 (num8 b 0)) (.int .i64 (num8 b 1)) (.int .i64 (num8 b 2)) (.int .i64 (num8 b 3))
    have t0 := hR.drew.c0
    have t1 := hR.drew.c1
    have t2 := hR.drew.c2
    have t3 := hR.drew.c3
    have hE2 := hE.drew
    have hfin := HYes.out _ hyes.out hE2
    unfold quadSet at t0 t1 t2 t3 hfin
    rw [← HXt.out] at hfin
    exact bodyPost_ret (v := .tuple #[.int .i64 2, .agg #[.int .i64 (num8 b 0), .int .i64 (num8 b 1), .int .i64 (num8 b 2), .int .i64 (num8 b 3)], .string ((str b).extract 32 (str b).size)]) (by simp [results, Try.results30, go_sem, t0, t1, t2, t3]) rfl hfin
end Go.Proofs.Ytdhmkcomngbmaaa
