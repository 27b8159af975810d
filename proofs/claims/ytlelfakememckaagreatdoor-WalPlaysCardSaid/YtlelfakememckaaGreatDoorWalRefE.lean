/- Contract of the document's slotOf where the slot does not count. -/
import Derived.Test.YtlelfakememckaaGreatDoorWalRefB
import Derived.Test.YtlelfakememckaaGreatDoorWalRefC
namespace Go.Proofs.YtlelfakememckaaGreatDoor
open Go.RowKit

set_option maxHeartbeats 8000000 in
set_option maxRecDepth 100000 in
theorem DocSlotOf_no {w : World} {d : DSt} (ho : d.Ok) (ht : d.Tru) {fA aA wA : Option Addr} {fc ac wc : Nat} (h : RefAt w w.heap.size d.firm d.loose fA aA ac wA wc) (hl : d.loose.length ≤ 1000001) (L : Int) (slot k : Nat) (hs : 2 ≤ slot) (hk : k ≤ 1) (hf : 2 * slot + 3 ≤ d.firm.length)
    (hx : (d.readB ((k * slot : Nat) : Int)).length = 32) (hno : ¬ DocSlot (d.readB ((k * slot : Nat) : Int)) d.firm.length slot k) :
    Calls Tryz.prog 35 #[.agg #[.slice fA d.firm.length fc, .slice aA d.loose.length ac, .slice wA d.loose.length wc, .int .i64 L, .bool d.off], .int .i64 slot, .int .i64 k] w fun e w' => e = .returned (.tuple #[.agg #[.int .i64 0, .int .i64 0, .int .i64 0, .int .i64 0, .string ⟨#[]⟩, .slice none 0 0], .bool false]) ∧ Below w.heap.size w w' := by
  have HSec : Hid (∀ w', Below w.heap.size w w' → ∀ x : Nat, Calls Tryz.prog 36 #[.agg #[.slice fA d.firm.length fc, .slice aA d.loose.length ac, .slice wA d.loose.length wc, .int .i64 L, .bool d.off], .int .i64 (x : Int)] w' fun e w'' => e = .returned (.string (str (d.readB (x : Int)))) ∧ Below w'.heap.size w' w'') := Lib.hid (fun w' hb x => DocSector_any ho ht (h.next hb) hl x L)
  have hN : d.firm.length ≤ 4096 := by rw [ho.len]; exact ho.le
  obtain ⟨P, hP⟩ : ∃ P : Nat, k * slot = P := ⟨_, rfl⟩
  have hPz : (k : Int) * (slot : Int) = (P : Int) := by rw [← hP]; simp
  have hks : k * slot ≤ slot := by
    calc k * slot ≤ 1 * slot := Nat.mul_le_mul_right _ hk
      _ = slot := Nat.one_mul _
  have hPs : P ≤ slot := by omega
  have hPw : IntKind.i64.wrap ((k : Int) * (slot : Int)) = (P : Int) := by rw [hPz, IntKind.wrap_i64]; omega
  rw [hP] at hx hno
  have HSc : Hid (∀ w', Below w.heap.size w w' → Calls Tryz.prog 36 #[.agg #[.slice fA d.firm.length fc, .slice aA d.loose.length ac, .slice wA d.loose.length wc, .int .i64 L, .bool d.off], .int .i64 (P : Int)] w' fun e w'' => e = .returned (.string (str (d.readB (P : Int)))) ∧ Below w'.heap.size w' w'') := Lib.hid (fun w' hb => HSec.out w' hb P)
  generalize d.readB (P : Int) = x at *
  generalize d.firm.length = N at *
  generalize d.loose.length = m at *
  generalize d.off = o at *
  have hxs : (str x).size = 32 := by rw [str_size]; exact hx
  have hG : ∀ i j : Nat, i ≤ j → j ≤ 32 → ∀ w, Calls Tryz.prog 37 #[.string (str x), .int .i64 i, .int .i64 j] w fun e w' => e = .returned (.int .i64 (fld x i j)) ∧ w = w' := fun i j hi hj w => by
    have := DocGet_any (str x) i j (by omega) hi (by omega) w
    rw [str_list] at this
    exact this
  obtain ⟨G, hg, hg2⟩ := getN_nat ((x.drop 1).take (9 - 1))
  obtain ⟨Z, hz, hz2⟩ := getN_four (l := (x.drop 9).take (13 - 9)) (by rw [List.length_take]; omega)
  obtain ⟨Q, hq, hq2⟩ := getN_four (l := (x.drop 13).take (17 - 13)) (by rw [List.length_take]; omega)
  obtain ⟨U, hu, hu2⟩ := getN_nat ((x.drop 17).take (25 - 17))
  have f0 : fld x 1 9 = (G : Int) := hg
  have f1 : fld x 9 13 = (Z : Int) := hz
  have f2 : fld x 13 17 = (Q : Int) := hq
  have f3 : fld x 17 25 = (U : Int) := hu
  have K0 := hG 1 9 (by omega) (by omega)
  have K1 := hG 9 13 (by omega) (by omega)
  have K2 := hG 13 17 (by omega) (by omega)
  have K3 := hG 17 25 (by omega) (by omega)
  rw [f0] at K0
  rw [f1] at K1
  rw [f2] at K2
  rw [f3] at K3
  replace K0 := Lib.hid K0
  replace K1 := Lib.hid K1
  replace K2 := Lib.hid K2
  replace K3 := Lib.hid K3
  have HSH : Hid (∀ w, Calls Tryz.prog 48 #[.int .i64 G, .int .i64 Z, .int .i64 Q, .int .i64 U] w fun e w' => e = .returned (.string (str (padB (slotHead G Z Q U)))) ∧ Below w.heap.size w w') := Lib.hid (fun w => DocSlotHead_any G Z Q U w (by omega) (by omega) (by omega) (by omega))
  unfold DocSlot at hno
  rw [f0, f1, f2, f3] at hno
  have hseq : (str x).toList = (str (padB (slotHead G Z Q U))).toList → x = padB (slotHead G Z Q U) := fun e => by rwa [Lib.toList_data, str_list, Lib.toList_data, str_list] at e
  obtain ⟨S, hS⟩ : ∃ S, str x = S := ⟨_, rfl⟩
  obtain ⟨S2, hS2⟩ : ∃ S, str (padB (slotHead G Z Q U)) = S := ⟨_, rfl⟩
  rw [hS] at HSc K0 K1 K2 K3 hseq
  rw [hS2] at HSH hseq
  have hw32 : (32 : Int) * ((slot : Int) - 1) = 32 * (slot : Int) - 32 := by omega
  have HB0 : Hid (Below w.heap.size w ((w.alloc (.cells #[.slice fA N fc, .slice aA m ac, .slice wA m wc, .int .i64 L, .bool o] 30)).alloc (.cells #[.int .i64 0, .int .i64 0, .int .i64 0, .int .i64 0, .string ⟨#[]⟩, .slice none 0 0] 38))) := Lib.hid (((Below.refl _ _).alloc (Nat.le_refl _) _).alloc (by simp) _)
  have HC0 : Hid (∀ w', Below ((w.alloc (.cells #[.slice fA N fc, .slice aA m ac, .slice wA m wc, .int .i64 L, .bool o] 30)).alloc (.cells #[.int .i64 0, .int .i64 0, .int .i64 0, .int .i64 0, .string ⟨#[]⟩, .slice none 0 0] 38)).heap.size ((w.alloc (.cells #[.slice fA N fc, .slice aA m ac, .slice wA m wc, .int .i64 L, .bool o] 30)).alloc (.cells #[.int .i64 0, .int .i64 0, .int .i64 0, .int .i64 0, .string ⟨#[]⟩, .slice none 0 0] 38)) w' → w'.heap[w.heap.size]? = some (.cells #[.slice fA N fc, .slice aA m ac, .slice wA m wc, .int .i64 L, .bool o] 30 (0, 0)) ∧ w'.heap[w.heap.size + 1]? = some (.cells #[.int .i64 0, .int .i64 0, .int .i64 0, .int .i64 0, .string ⟨#[]⟩, .slice none 0 0] 38 (0, 0))) := Lib.hid (fun w' hb => by
    have hsz : ((w.alloc (.cells #[.slice fA N fc, .slice aA m ac, .slice wA m wc, .int .i64 L, .bool o] 30)).alloc (.cells #[.int .i64 0, .int .i64 0, .int .i64 0, .int .i64 0, .string ⟨#[]⟩, .slice none 0 0] 38)).heap.size = w.heap.size + 1 + 1 := by simp
    rw [hsz] at hb
    refine ⟨?_, ?_⟩
    · rw [hb.block _ (by omega), Below.heap_alloc _ _ _ (by simp)]
      exact heap_alloc_new _ _
    · rw [hb.block _ (by omega)]
      have := heap_alloc_new (w.alloc (.cells #[.slice fA N fc, .slice aA m ac, .slice wA m wc, .int .i64 L, .bool o] 30)) (.cells #[.int .i64 0, .int .i64 0, .int .i64 0, .int .i64 0, .string ⟨#[]⟩, .slice none 0 0] 38)
      simpa using this)
  clear ho ht h hl HSec hG hg hz hq hu f0 f1 f2 f3 hx hxs hS hS2 hP hPz hks
  go_enter Tryz.func35, Tryz.ntmps35
  go_wp2_with fail
  refine (HSc.out _ HB0.out).mono ?_
  rintro e w1 ⟨rfl, hb1⟩
  have HB1 := Lib.hid (below_next HB0.out hb1)
  replace HC0 := Lib.hid (fun w' (hb : Below w1.heap.size w1 w') => HC0.out w' (below_next hb1 hb))
  clear hb1
  go_wp2_with fail
  refine (K0.out _).mono ?_
  rintro e w' ⟨rfl, rfl⟩
  go_wp2_with fail
  refine (K1.out _).mono ?_
  rintro e w' ⟨rfl, rfl⟩
  go_wp2_with fail
  refine (K2.out _).mono ?_
  rintro e w' ⟨rfl, rfl⟩
  go_wp2_with fail
  refine (K3.out _).mono ?_
  rintro e w' ⟨rfl, rfl⟩
  go_wp2_with fail
  refine (HSH.out _).mono ?_
  rintro e w2 ⟨rfl, hb2⟩
  have HB2 := Lib.hid (below_next HB1.out hb2)
  obtain ⟨h1, h2⟩ := HC0.out _ hb2
  clear hb2 HC0
  have d0 : w2.cell? ⟨w.heap.size, 0, none⟩ = some (.slice fA N fc) := by rw [Lib.cell_of_heap h1]; rfl
  have k0 := Lib.cell_of_heap h2
  have k1 := Lib.frozen_of_heap h2
  have HH2 := Lib.hid h2
  clear h1 h2
  have n0 : (0 : Int) ≤ (G : Int) := Int.natCast_nonneg _
  have n1 : (0 : Int) ≤ (U : Int) := Int.natCast_nonneg _
  have n2 : (0 : Int) ≤ (Q : Int) := Int.natCast_nonneg _
  have n3 : (0 : Int) ≤ (Z : Int) := Int.natCast_nonneg _
  by_cases q0 : S.toList = S2.toList
  case neg =>
    clear hno hseq
    go_wp2_with fail
    exact bodyPost_ret (v := .tuple #[.agg #[.int .i64 0, .int .i64 0, .int .i64 0, .int .i64 0, .string ⟨#[]⟩, .slice none 0 0], .bool false]) (by simp [results, Tryz.results35, go_sem, k0]) rfl ⟨rfl, (((((HB2.out.setCell (by simp) _).setCell (by simp) _).setCell (by simp) _).setCell (by simp) _).setCell (by simp) _).setCell (by simp) _⟩
  by_cases q1 : 1 ≤ (G : Int)
  case neg =>
    have r1 : (G : Int) < 1 := by omega
    clear hno hseq
    go_wp2_with fail
    exact bodyPost_ret (v := .tuple #[.agg #[.int .i64 0, .int .i64 0, .int .i64 0, .int .i64 0, .string ⟨#[]⟩, .slice none 0 0], .bool false]) (by simp [results, Tryz.results35, go_sem, k0]) rfl ⟨rfl, (((((HB2.out.setCell (by simp) _).setCell (by simp) _).setCell (by simp) _).setCell (by simp) _).setCell (by simp) _).setCell (by simp) _⟩
  have r1 : ¬ (G : Int) < 1 := by omega
  by_cases q2 : (G : Int) ≤ 1099511627776
  case neg =>
    have r2 : 1099511627776 < (G : Int) := by omega
    clear hno hseq
    go_wp2_with fail
    exact bodyPost_ret (v := .tuple #[.agg #[.int .i64 0, .int .i64 0, .int .i64 0, .int .i64 0, .string ⟨#[]⟩, .slice none 0 0], .bool false]) (by simp [results, Tryz.results35, go_sem, k0]) rfl ⟨rfl, (((((HB2.out.setCell (by simp) _).setCell (by simp) _).setCell (by simp) _).setCell (by simp) _).setCell (by simp) _).setCell (by simp) _⟩
  have r2 : ¬ 1099511627776 < (G : Int) := by omega
  by_cases q3 : (G : Int) % 2 = (k : Int)
  case neg =>
    clear hno hseq
    go_wp2_with fail
    exact bodyPost_ret (v := .tuple #[.agg #[.int .i64 0, .int .i64 0, .int .i64 0, .int .i64 0, .string ⟨#[]⟩, .slice none 0 0], .bool false]) (by simp [results, Tryz.results35, go_sem, k0]) rfl ⟨rfl, (((((HB2.out.setCell (by simp) _).setCell (by simp) _).setCell (by simp) _).setCell (by simp) _).setCell (by simp) _).setCell (by simp) _⟩
  by_cases q4 : (Z : Int) ≤ 32 * ((slot : Int) - 1)
  case neg =>
    have r4 : 32 * ((slot : Int) - 1) < (Z : Int) := by omega
    clear hno hseq
    go_wp2_with fail
    exact bodyPost_ret (v := .tuple #[.agg #[.int .i64 0, .int .i64 0, .int .i64 0, .int .i64 0, .string ⟨#[]⟩, .slice none 0 0], .bool false]) (by simp [results, Tryz.results35, go_sem, k0]) rfl ⟨rfl, (((((HB2.out.setCell (by simp) _).setCell (by simp) _).setCell (by simp) _).setCell (by simp) _).setCell (by simp) _).setCell (by simp) _⟩
  have r4 : ¬ 32 * ((slot : Int) - 1) < (Z : Int) := by omega
  by_cases q5 : (Q : Int) < (N : Int) - 2 * (slot : Int)
  case neg =>
    have r5 : (N : Int) - 2 * (slot : Int) ≤ (Q : Int) := by omega
    clear hno hseq
    go_wp2_with fail
    exact bodyPost_ret (v := .tuple #[.agg #[.int .i64 0, .int .i64 0, .int .i64 0, .int .i64 0, .string ⟨#[]⟩, .slice none 0 0], .bool false]) (by simp [results, Tryz.results35, go_sem, k0]) rfl ⟨rfl, (((((HB2.out.setCell (by simp) _).setCell (by simp) _).setCell (by simp) _).setCell (by simp) _).setCell (by simp) _).setCell (by simp) _⟩
  have r5 : ¬ (N : Int) - 2 * (slot : Int) ≤ (Q : Int) := by omega
  by_cases q6 : 1 ≤ (U : Int)
  case neg =>
    have r6 : (U : Int) < 1 := by omega
    clear hno hseq
    go_wp2_with fail
    exact bodyPost_ret (v := .tuple #[.agg #[.int .i64 0, .int .i64 0, .int .i64 0, .int .i64 0, .string ⟨#[]⟩, .slice none 0 0], .bool false]) (by simp [results, Tryz.results35, go_sem, k0]) rfl ⟨rfl, (((((HB2.out.setCell (by simp) _).setCell (by simp) _).setCell (by simp) _).setCell (by simp) _).setCell (by simp) _).setCell (by simp) _⟩
  have r6 : ¬ (U : Int) < 1 := by omega
  by_cases q7 : (U : Int) ≤ 1099511627776
  case neg =>
    have r7 : 1099511627776 < (U : Int) := by omega
    clear hno hseq
    go_wp2_with fail
    exact bodyPost_ret (v := .tuple #[.agg #[.int .i64 0, .int .i64 0, .int .i64 0, .int .i64 0, .string ⟨#[]⟩, .slice none 0 0], .bool false]) (by simp [results, Tryz.results35, go_sem, k0]) rfl ⟨rfl, (((((HB2.out.setCell (by simp) _).setCell (by simp) _).setCell (by simp) _).setCell (by simp) _).setCell (by simp) _).setCell (by simp) _⟩
  have r7 : ¬ 1099511627776 < (U : Int) := by omega
  exact absurd ⟨hseq q0, q1, q2, q3, q4, q5, q6, q7⟩ hno
end Go.Proofs.YtlelfakememckaaGreatDoor
