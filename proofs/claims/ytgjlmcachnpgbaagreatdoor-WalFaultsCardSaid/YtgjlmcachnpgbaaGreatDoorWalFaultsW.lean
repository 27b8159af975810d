/- The walk of WalFaults. -/
import Derived.Test.YtgjlmcachnpgbaaGreatDoorWalNum
import Derived.Test.YtgjlmcachnpgbaaGreatDoorWalW
namespace Go.Proofs.YtgjlmcachnpgbaaGreatDoor
open Go.RowKit Go.ChangeShapes Go.WideShapes
set_option maxRecDepth 100000
theorem alloc_at6 (w : World) (o : Obj) : (w.alloc o).heap[w.heap.size]? = some o := Array.getElem?_push_size
theorem WalFaults_walk (call : ByteArray) (n : Nat) (hn : n < 256) {W : World} (hg : ErrCell W) : Calls Tryz.prog 8 #[.string call, .int .u8 (n : Int)] W fun e w' => e = .returned (.bool true) ∧ Below W.heap.size W w' := by
  go_enter Tryz.func8, Tryz.ntmps8
  go_wp2_with fail
  have hf : (W.alloc (.cells (faultV call (n : Int)) 76)).heap[W.heap.size]? = some (.cells (faultV call (n : Int)) 76 (0, 0)) := alloc_at6 _ _
  have hb1 : Below W.heap.size W (W.alloc (.cells (faultV call (n : Int)) 76)) := (Below.refl _ _).alloc (Nat.le_refl _) _
  unfold faultV at hf hb1
  have HF := Lib.hid hf
  have HB := Lib.hid hb1
  have HG := Lib.hid hg
  clear hf hb1 hg
  obtain ⟨w1, hw1⟩ : ∃ w1, w1 = W.alloc (.cells #[.string call, .iface 56 (.int .i64 (n : Int))] 76) := ⟨_, rfl⟩
  rw [← hw1] at HF HB ⊢
  clear hw1
  refine (Unwrap_any _ call n w1 HF.out).mono ?_
  rintro e w' ⟨rfl, rfl⟩
  dsimp only
  go_wp2_with fail
  refine (num_errno n (HG.out.below HB.out HG.out.pos)).mono ?_
  rintro e w2 ⟨rfl, hb2⟩
  have HB2 : Hid (Below W.heap.size W w2) := Lib.hid (HB.out.trans (hb2.mono HB.out.size))
  have HF2 : Hid (w2.heap[W.heap.size]? = some (.cells (faultV call (n : Int)) 76 (0, 0))) := Lib.hid ((hb2.block _ (heap_lt HF.out)).trans HF.out)
  clear hb2
  dsimp only
  go_wp2_with fail
  refine (num_fault _ call n (HG.out.below HB2.out HG.out.pos) HF2.out).mono ?_
  rintro e w3 ⟨rfl, hb3⟩
  have HB3 : Hid (Below W.heap.size W w3) := Lib.hid (HB2.out.trans (hb3.mono HB2.out.size))
  clear hb3
  dsimp only
  go_wp2_with fail
  refine (awake6_any w3).mono ?_
  rintro e w4 ⟨rfl, hb4⟩
  have HB4 : Hid (Below W.heap.size W w4) := Lib.hid (HB3.out.trans (hb4.mono HB3.out.size))
  clear hb4
  dsimp only
  go_wp2
  go_ret
  exact ⟨rfl, HB4.out⟩
end Go.Proofs.YtgjlmcachnpgbaaGreatDoor
