/- Contract of the document's Small. -/
import Derived.Test.YtkpoeigoocbgeaaMsgH
namespace Go.Proofs.Ytkpoeigoocbgeaa
open Go.RowKit

def smallM (m : Mg) : Bool := decide (m.line.length ≤ 100) && (decide (m.anc.length ≤ 100) && (decide (m.bits.length ≤ 300) && (decide (m.sizes.length ≤ 100) && decide (m.ws.length ≤ 200))))

set_option maxHeartbeats 2000000 in
set_option maxRecDepth 100000 in
theorem small17_any {w : World} (m : Mg) (x : MgM) :
    Calls Try.prog 22 #[m.val x] w fun e w' => e = .returned (.bool (smallM m)) ∧ Below w.heap.size w w' := by
  obtain ⟨V, hV⟩ : ∃ V, V = w.alloc (.cells (m.cells x) 52) := ⟨_, rfl⟩
  have HB0 := Lib.hid (show Below w.heap.size w V by rw [hV]; exact below_one _ _)
  obtain ⟨c0, c1, c2, c3, c4, c5, c6, c7, c8, c9, c10, c11, c12, c13⟩ := (show BoxMg V w.heap.size m x from BoxMg.of (by rw [hV]; exact heap_new _ _))
  have HV := Lib.hid hV
  obtain ⟨R, hR⟩ : ∃ R, smallM m = R := ⟨_, rfl⟩
  rw [hR]
  have HR := Lib.hid hR
  unfold smallM at HR
  unfold Mg.cells at HV
  clear hV hR c0 c1 c3 c4 c5 c6 c8 c11 c12
  unfold Mg.val Mg.cells
  by_cases t0 : m.line.length ≤ 100
  case neg =>
    have u0 : ¬ ((m.line.length : Int) ≤ 100) := by omega
    have HE : Hid (R = false) := Lib.hid (by rw [← HR.out]; simp [t0])
    go_enter Try.func22, Try.ntmps22
    go_upto_region 1 with fail
    rw [← HV.out]
    go_wp2
    go_ret
    rw [HE.out]
    exact ⟨rfl, HB0.out⟩
  have u0 : (m.line.length : Int) ≤ 100 := by omega
  by_cases t1 : m.anc.length ≤ 100
  case neg =>
    have u1 : ¬ ((m.anc.length : Int) ≤ 100) := by omega
    have HE : Hid (R = false) := Lib.hid (by rw [← HR.out]; simp [t0, t1])
    go_enter Try.func22, Try.ntmps22
    go_upto_region 1 with fail
    rw [← HV.out]
    go_wp2
    go_ret
    rw [HE.out]
    exact ⟨rfl, HB0.out⟩
  have u1 : (m.anc.length : Int) ≤ 100 := by omega
  by_cases t2 : m.bits.length ≤ 300
  case neg =>
    have u2 : ¬ ((m.bits.length : Int) ≤ 300) := by omega
    have HE : Hid (R = false) := Lib.hid (by rw [← HR.out]; simp [t0, t1, t2])
    go_enter Try.func22, Try.ntmps22
    go_upto_region 1 with fail
    rw [← HV.out]
    go_wp2
    go_ret
    rw [HE.out]
    exact ⟨rfl, HB0.out⟩
  have u2 : (m.bits.length : Int) ≤ 300 := by omega
  by_cases t3 : m.sizes.length ≤ 100
  case neg =>
    have u3 : ¬ ((m.sizes.length : Int) ≤ 100) := by omega
    have HE : Hid (R = false) := Lib.hid (by rw [← HR.out]; simp [t0, t1, t2, t3])
    go_enter Try.func22, Try.ntmps22
    go_upto_region 1 with fail
    rw [← HV.out]
    go_wp2
    go_ret
    rw [HE.out]
    exact ⟨rfl, HB0.out⟩
  have u3 : (m.sizes.length : Int) ≤ 100 := by omega
  by_cases t4 : m.ws.length ≤ 200
  case neg =>
    have u4 : ¬ ((m.ws.length : Int) ≤ 200) := by omega
    have HE : Hid (R = false) := Lib.hid (by rw [← HR.out]; simp [t0, t1, t2, t3, t4])
    go_enter Try.func22, Try.ntmps22
    go_upto_region 1 with fail
    rw [← HV.out]
    go_wp2
    go_ret
    rw [HE.out]
    exact ⟨rfl, HB0.out⟩
  have u4 : (m.ws.length : Int) ≤ 200 := by omega
  have HE : Hid (R = true) := Lib.hid (by rw [← HR.out]; simp [t0, t1, t2, t3, t4])
  go_enter Try.func22, Try.ntmps22
  go_upto_region 1 with fail
  rw [← HV.out]
  go_wp2
  go_ret
  rw [HE.out]
  exact ⟨rfl, HB0.out⟩
end Go.Proofs.Ytkpoeigoocbgeaa
