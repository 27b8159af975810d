/- Lineages: calls from later worlds on; contract of awake. -/
import Derived.Test.YtokdicaoonjimaaLineL
namespace Go.Proofs.Ytokdicaoonjimaa
open Go.RowKit

/-- What a call answers in each later world, and that it leaves a later one. -/
def LatCalls (P : Program) (V : World) (f : FuncId) (args : Array Value) (v : Value) : Prop := ∀ z : LatW V, Calls P f args z.wd fun e w' => e = .returned v ∧ ∃ z' : LatW V, w' = z'.wd
theorem LatCalls.of {P : Program} {V : World} {f : FuncId} {args : Array Value} {v : Value} (h : ∀ z : LatW V, Calls P f args z.wd fun e w' => e = .returned v ∧ Below z.wd.heap.size z.wd w') : LatCalls P V f args v := fun z => Calls.later_of (h z)
theorem LatCalls.at_ {P : Program} {V : World} {f : FuncId} {args : Array Value} {v : Value} (h : LatCalls P V f args v) (z : LatW V) : Calls P f args z.wd fun e w' => e = .returned v ∧ ∃ z' : LatW V, w' = z'.wd := h z
theorem LatW.start (V : World) : ∃ z : LatW V, z.wd = V := ⟨⟨V, Below.refl _ _⟩, rfl⟩
theorem LatW.drawn {V : World} (z : LatW V) : ∃ z' : LatW V, z.wd.drew = z'.wd := ⟨⟨z.wd.drew, z.bel.drew⟩, rfl⟩

theorem BrsAt.two_new (w : World) : BrsAt (w.alloc (.cells #[.int .i64 1, .int .i64 0, .int .i64 2, .int .i64 5] 31)) (w.heap.size + 1) (some ⟨w.heap.size, 0, none⟩) [(1, 0), (2, 5)] := by
  refine .inr ⟨w.heap.size, 0, rfl, by omega, fun i hi => ?_⟩
  have hr := heap_new w (.cells #[.int .i64 1, .int .i64 0, .int .i64 2, .int .i64 5] 31 (0, 0))
  match i, hi with
  | 0, _ => exact ⟨by rw [Lib.cell_of_heap hr]; rfl, by rw [Lib.cell_of_heap hr]; rfl⟩
  | 1, _ => exact ⟨by rw [Lib.cell_of_heap hr]; rfl, by rw [Lib.cell_of_heap hr]; rfl⟩
  | n + 2, h => simp at h; omega
theorem BrsAt.one_of {w : World} {B : Nat} {A : Option Addr} {x : Br} {l : List Br} (h : BrsAt w B A (x :: l)) : BrsAt w B A [x] := by
  rcases h with h | ⟨b, off, hA, hlt, hc⟩
  · cases h
  · refine .inr ⟨b, off, hA, hlt, fun i hi => ?_⟩
    obtain rfl : i = 0 := by simp at hi; exact hi
    exact hc 0 (by simp)

set_option maxHeartbeats 4000000 in
set_option maxRecDepth 100000 in
theorem awake11_any (w : World) : Calls Try.prog 11 #[] w fun e w' => e = .returned (.bool true) ∧ Below w.heap.size w w' := by
  obtain ⟨V1, hV1⟩ : ∃ V1, V1 = w.alloc (.cells #[.int .i64 1, .int .i64 0, .int .i64 2, .int .i64 5] 31 (0, 0)) := ⟨_, rfl⟩
  have hA1 : BrsAt V1 V1.heap.size (some ⟨w.heap.size, 0, none⟩) [(1, 0), (2, 5)] := by rw [hV1]; have := BrsAt.two_new w; exact this.more (by simp)
  have hB1 : Below w.heap.size w V1 := by rw [hV1]; exact below_one _ _
  have hs : w.heap.size + 1 = V1.heap.size := by rw [hV1]; simp
  obtain ⟨V, hV⟩ : ∃ V, V = V1.alloc (.cells #[.slice (some ⟨w.heap.size, 0, none⟩) 2 2, .int .i64 8] 36 (0, 0)) := ⟨_, rfl⟩
  have hB2 : Below V1.heap.size V1 V := by rw [hV]; exact below_one _ _
  have HA : Hid (∀ z : LatW V, BrsAt z.wd z.wd.heap.size (some ⟨w.heap.size, 0, none⟩) [(1, 0), (2, 5)]) := Lib.hid (fun z => hA1.lat hB2 z)
  have HX : Hid (PosBox V (w.heap.size + 1) (some ⟨w.heap.size, 0, none⟩) 2 2 8) := Lib.hid (by rw [hs, hV]; exact PosBox.of (heap_new _ _))
  have HBV := Lib.hid (below_next hB1 hB2)
  have HVV : Hid ((w.alloc (.cells #[.int .i64 1, .int .i64 0, .int .i64 2, .int .i64 5] 31)).alloc (.cells #[.slice (some ⟨w.heap.size, 0, none⟩) 2 2, .int .i64 8] 36) = V) := Lib.hid (by rw [hV, hV1])
  clear hA1 hB1 hB2 hV hV1 hs
  have HR : Hid (∀ c, LatCalls Try.prog V 16 #[.slice (some ⟨w.heap.size, 0, none⟩) 2 c] (.bool true)) := Lib.hid (fun c => LatCalls.of fun z => by
    have := Right_any (c := c) (HA.out z) (by simp)
    rw [show lineOk [(1, 0), (2, 5)] = true from by decide] at this
    exact this)
  have HE : Hid (∀ c, LatCalls Try.prog V 20 #[.agg #[.slice (some ⟨w.heap.size, 0, none⟩) 2 c, .int .i64 8], .int .i64 6] (.int .i64 2)) := Lib.hid (fun c => LatCalls.of fun z => by
    have := Epoch_any (c := c) (q := 8) 6 (HA.out z) (by simp)
    rw [show epochP [(1, 0), (2, 5)] 8 6 = 2 from by decide] at this
    exact this)
  have HC : Hid (∀ c c2, LatCalls Try.prog V 23 #[.agg #[.slice (some ⟨w.heap.size, 0, none⟩) 2 c, .int .i64 8], .agg #[.slice (some ⟨w.heap.size, 0, none⟩) 1 c2, .int .i64 9]] (.int .i64 5)) := Lib.hid (fun c c2 => LatCalls.of fun z => by
    have := Common_any (c1 := c) (c2 := c2) (p := 8) (q := 9) (HA.out z) (HA.out z).one_of (by simp) (by simp)
    rw [show commonB [(1, 0), (2, 5)] 8 [(1, 0)] 9 = 5 from by decide] at this
    exact this)
  have HN : Hid (LatCalls Try.prog V 26 #[.int .i64 2, .int .i64 0] (.int .i64 3)) := Lib.hid (LatCalls.of fun z => by
    have := Next_any 2 0 z.wd (by omega) (by omega) (by omega) (by omega)
    rw [show nextB 2 0 = 3 from by decide] at this
    exact this)
  go_enter Try.func11, Try.ntmps11
  go_wp2_with fail
  rw [HVV.out]
  have a0 := HX.out.c0
  have a1 := HX.out.c1
  generalize w.heap.size = H at a0 a1 HR HE HC ⊢
  refine wp_region_later (by kernel_rfl) (by kernel_rfl) ?_
  repeat (first | go_big_quiet_skip | quiet_step (first | (go_at_call 16; exact (HR.out _).at_ _) | (go_at_call 20; exact (HE.out _).at_ _) | (go_at_call 23; exact (HC.out _ _).at_ _) | (go_at_call 26; exact HN.out.at_ _)))
  refine wpQuiet_nil ?_
  intro w9 hw9
  obtain ⟨p9, hw9'⟩ := hw9
  subst hw9'
  go_wp2_with fail
  go_ret
  exact ⟨rfl, HBV.out.trans (p9.bel.mono HBV.out.size)⟩
end Go.Proofs.Ytokdicaoonjimaa
