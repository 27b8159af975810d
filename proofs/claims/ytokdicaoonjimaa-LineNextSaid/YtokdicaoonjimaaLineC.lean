/- Lineages: contracts of Placed and Last. -/
import Derived.Test.YtokdicaoonjimaaLineB
import Derived.Test.YtokdicaoonjimaaLater
namespace Go.Proofs.Ytokdicaoonjimaa
open Go.RowKit

theorem BrsAt.lat {w V : World} {A : Option Addr} {l : List Br} (h : BrsAt w w.heap.size A l) (hb : Below w.heap.size w V) (p : LatW V) : BrsAt p.wd p.wd.heap.size A l := (h.next hb).next p.bel
theorem lineOk_ne {l : List Br} (h : lineOk l = true) : l ≠ [] := by rintro rfl; simp [lineOk_nil] at h
theorem placedB_no {l : List Br} (h : lineOk l = false) (q : Int) : placedB l q = false := by unfold placedB; rw [h]; rfl
theorem placedB_of {l : List Br} (h : lineOk l = true) (q : Int) {b1 b2 : Bool} (h1 : decide ((lastB l).2 ≤ q) = b1) (h2 : decide (q ≤ 1099511627776) = b2) : placedB l q = (b1 && b2) := by
  unfold placedB; rw [h, ← h1, ← h2, Bool.true_and, Bool.eq_iff_iff]; simp; exact ⟨fun h => ⟨h.2, h.1⟩, fun h => ⟨h.2, h.1⟩⟩
/-- A place, boxed: its two cells. -/
structure PosBox (V : World) (H : Nat) (A : Option Addr) (n c : Nat) (q : Int) : Prop where
  c0 : ∀ p : LatW V, p.wd.cell? ⟨H, 0, none⟩ = some (.slice A n c)
  c1 : ∀ p : LatW V, p.wd.cell? ⟨H, 1, none⟩ = some (.int .i64 q)
theorem PosBox.of {V : World} {H : Nat} {A : Option Addr} {n c : Nat} {q : Int} {t : TypeId} (h : V.heap[H]? = some (.cells #[.slice A n c, .int .i64 q] t (0, 0))) : PosBox V H A n c q := by
  have hlt : H < V.heap.size := (Array.getElem?_eq_some_iff.1 h).1
  exact ⟨fun p => p.cell (by rw [Lib.cell_of_heap h]; rfl) hlt, fun p => p.cell (by rw [Lib.cell_of_heap h]; rfl) hlt⟩
theorem heap_new (w : World) (o : Obj) : (w.alloc o).heap[w.heap.size]? = some o := by show (w.heap.push _)[w.heap.size]? = _; simp
theorem below_one (w : World) (o : Obj) : Below w.heap.size w (w.alloc o) := (Below.refl _ _).alloc (Nat.le_refl _) _

set_option maxHeartbeats 4000000 in
set_option maxRecDepth 100000 in
theorem Placed_any {w : World} {A : Option Addr} {c : Nat} {l : List Br} {q : Int} (h : BrsAt w w.heap.size A l) (hl : l.length ≤ 9223372036854775807) :
    Calls Try.prog 18 #[.agg #[.slice A l.length c, .int .i64 q]] w fun r w' => r = .returned (.bool (placedB l q)) ∧ Below w.heap.size w w' := by
  have HX := Lib.hid (PosBox.of (heap_new w (.cells #[.slice A l.length c, .int .i64 q] 36 (0, 0))))
  have HBV := Lib.hid (below_one w (.cells #[.slice A l.length c, .int .i64 q] 36 (0, 0)))
  have HR := Lib.hid (fun (p : LatW (w.alloc (.cells #[.slice A l.length c, .int .i64 q] 36 (0, 0)))) c => Right_any (c := c) (h.lat HBV.out p) hl)
  cases hok : lineOk l with
  | false =>
    rw [placedB_no hok]
    rw [hok] at HR
    have HE := HR
    go_enter Try.func18, Try.ntmps18
    go_wp2_with fail
    generalize w.alloc (.cells #[.slice A l.length c, .int .i64 q] 36) = V at *
    have c0 := HX.out.c0
    have c1 := HX.out.c1
    generalize w.heap.size = H at c0 c1 ⊢
    refine wp_region_later (by kernel_rfl) (by kernel_rfl) ?_
    repeat (first | go_big_quiet_skip | quiet_step (first | (go_at_call 16; exact Calls.later_of (HR.out _ _)) | (go_at_call 28; exact Calls.later_of (HE.out _ _))))
    refine wpQuiet_nil ?_
    intro w9 hw9
    obtain ⟨p9, hw9'⟩ := hw9
    subst hw9'
    go_wp2_with fail
    go_ret
    exact ⟨rfl, HBV.out.trans (p9.bel.mono HBV.out.size)⟩
  | true =>
    have HE := Lib.hid (fun (p : LatW (w.alloc (.cells #[.slice A l.length c, .int .i64 q] 36 (0, 0)))) c => end_any (c := c) (h.lat HBV.out p) (lineOk_ne hok) hl)
    rw [hok] at HR
    have HP := Lib.hid (fun b1 b2 => @placedB_of l hok q b1 b2)
    obtain ⟨v1, hv1⟩ : ∃ v, (lastB l).1 = v := ⟨_, rfl⟩
    obtain ⟨v2, hv2⟩ : ∃ v, (lastB l).2 = v := ⟨_, rfl⟩
    rw [hv1, hv2] at HE
    rw [hv2] at HP
    have hfd : ∀ w, (Instr.field 31 (.agg #[.int .i64 v1, .int .i64 v2]) 1).run Try.prog w = .ok (.int .i64 v2) w := fun w => by kernel_rfl
    clear hv1 hv2 h
    cases h1 : decide (v2 ≤ q) with
    | false =>
    rw [HP.out _ _ h1 rfl, Bool.false_and]
    clear HP
    go_enter Try.func18, Try.ntmps18
    go_wp2_with fail
    generalize w.alloc (.cells #[.slice A l.length c, .int .i64 q] 36) = V at *
    have c0 := HX.out.c0
    have c1 := HX.out.c1
    generalize w.heap.size = H at c0 c1 ⊢
    refine wp_region_later (by kernel_rfl) (by kernel_rfl) ?_
    repeat (first | go_big_quiet_skip | quiet_step (first | (go_at_call 16; exact Calls.later_of (HR.out _ _)) | (go_at_call 28; exact Calls.later_of (HE.out _ _))))
    refine wpQuiet_nil ?_
    intro w9 hw9
    obtain ⟨p9, hw9'⟩ := hw9
    subst hw9'
    go_wp2_with fail
    go_ret
    exact ⟨rfl, HBV.out.trans (p9.bel.mono HBV.out.size)⟩
    | true =>
    rw [HP.out _ _ h1 rfl, Bool.true_and]
    clear HP
    go_enter Try.func18, Try.ntmps18
    go_wp2_with fail
    generalize w.alloc (.cells #[.slice A l.length c, .int .i64 q] 36) = V at *
    have c0 := HX.out.c0
    have c1 := HX.out.c1
    generalize w.heap.size = H at c0 c1 ⊢
    refine wp_region_later (by kernel_rfl) (by kernel_rfl) ?_
    repeat (first | go_big_quiet_skip | quiet_step (first | (go_at_call 16; exact Calls.later_of (HR.out _ _)) | (go_at_call 28; exact Calls.later_of (HE.out _ _))))
    refine wpQuiet_nil ?_
    intro w9 hw9
    obtain ⟨p9, hw9'⟩ := hw9
    subst hw9'
    go_wp2_with fail
    go_ret
    exact ⟨rfl, HBV.out.trans (p9.bel.mono HBV.out.size)⟩

theorem lastL_ok {l : List Br} (h : lineOk l = true) : lastL l = (lastB l).1 := by unfold lastL; rw [if_pos h]
theorem lastL_no {l : List Br} (h : lineOk l = false) : lastL l = 0 := by unfold lastL; rw [if_neg (by rw [h]; simp)]
set_option maxHeartbeats 4000000 in
set_option maxRecDepth 100000 in
theorem Last_any {w : World} {A : Option Addr} {c : Nat} {l : List Br} (h : BrsAt w w.heap.size A l) (hl : l.length ≤ 9223372036854775807) :
    Calls Try.prog 17 #[.slice A l.length c] w fun r w' => r = .returned (.int .i64 (lastL l)) ∧ Below w.heap.size w w' := by
  have HR := Lib.hid (fun c => Right_any (c := c) h hl)
  cases hok : lineOk l with
  | false =>
    rw [lastL_no hok]
    rw [hok] at HR
    go_enter Try.func17, Try.ntmps17
    go_wp2_with fail
    refine (HR.out _).mono ?_
    rintro e w1 ⟨rfl, hb1⟩
    replace hb1 := Lib.hid hb1
    go_wp2_with fail
    go_ret
    exact ⟨rfl, hb1.out⟩
  | true =>
    rw [lastL_ok hok]
    rw [hok] at HR
    have HE := Lib.hid (fun c w1 (hb : Below w.heap.size w w1) => end_any (c := c) (h.next hb) (lineOk_ne hok) hl)
    obtain ⟨v1, hv1⟩ : ∃ v, (lastB l).1 = v := ⟨_, rfl⟩
    obtain ⟨v2, hv2⟩ : ∃ v, (lastB l).2 = v := ⟨_, rfl⟩
    rw [hv1, hv2] at HE
    rw [hv1]
    have hfd : ∀ w, (Instr.field 31 (.agg #[.int .i64 v1, .int .i64 v2]) 0).run Try.prog w = .ok (.int .i64 v1) w := fun w => by kernel_rfl
    clear hv1 hv2 h
    go_enter Try.func17, Try.ntmps17
    go_wp2_with fail
    refine (HR.out _).mono ?_
    rintro e w1 ⟨rfl, hb1⟩
    replace hb1 := Lib.hid hb1
    go_wp2_with fail
    refine (HE.out _ _ hb1.out).mono ?_
    rintro e w2 ⟨rfl, hb2⟩
    have HB2 := Lib.hid (below_next hb1.out hb2)
    clear hb2
    go_wp2_with fail
    go_ret
    exact ⟨rfl, HB2.out⟩
end Go.Proofs.Ytokdicaoonjimaa
