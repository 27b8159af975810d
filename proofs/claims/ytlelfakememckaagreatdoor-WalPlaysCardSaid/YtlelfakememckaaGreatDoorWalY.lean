/- Contract of Open where it is refused: no log fits, or the power is off. -/
import Derived.Test.YtlelfakememckaaGreatDoorWalO
namespace Go.Proofs.YtlelfakememckaaGreatDoor
open Go.RowKit

def openW : ByteArray := ⟨#[111, 112, 101, 110]⟩
/-- What a refused Open leaves: nothing but a fault in a new block. -/
def OpenNo (k : Int) (w : World) (e : Ending) (w' : World) : Prop :=
  ∃ b, e = .returned (.tuple #[.pointer none, .string ByteArray.empty, .slice none 0 0, .iface 103 (.pointer (some ⟨b, 0, none⟩))]) ∧ w'.heap[b]? = some (.cells (faultV openW k) 105 (0, 0)) ∧ Below w.heap.size w w'

set_option maxHeartbeats 1600000 in
set_option maxRecDepth 100000 in
theorem Open_nofit {w : World} {F : Nat → Prop} {a : Nat} {d : DSt} (h : IsDisk w F a d) (slot : Int) (hf : fitsE d.seen.length slot = false) :
    Calls Tryz.prog 7 #[.pointer (some ⟨a, 0, none⟩), .int .i64 slot] w (OpenNo 1 w) := by
  have hn4 := h.1.le
  have HD := Lib.hid h
  have HFit := Lib.hid hf
  clear h hf
  go_enter Tryz.func7, Tryz.ntmps7
  go_wp2_with fail
  refine (Size_any HD.out).mono ?_
  rintro e w' ⟨rfl, rfl⟩
  go_wp2_with fail
  refine (fits_any _ _ _ hn4).mono ?_
  rw [HFit.out]
  rintro e w' ⟨rfl, rfl⟩
  go_wp2_with fail
  refine (fault_no openW 1 (by decide) _).mono ?_
  rintro e w2 ⟨rfl, hw2⟩
  have HE : Hid (OpenNo 1 w (.returned (.tuple #[.pointer none, .string ByteArray.empty, .slice none 0 0, .iface 103 (.pointer (some ⟨w.heap.size, 0, none⟩))])) w2) := Lib.hid ⟨w.heap.size, rfl, by rw [hw2]; exact heap_alloc_new _ _, by rw [hw2]; exact (Below.refl _ _).alloc (Nat.le_refl _) _⟩
  clear hw2
  go_wp2_with fail
  (try simp only [Exit.inBlock, Exit.then])
  exact bodyPost_ret (v := .tuple #[.pointer none, .string ByteArray.empty, .slice none 0 0, .iface 103 (.pointer (some ⟨w.heap.size, 0, none⟩))]) (by simp [results, Tryz.results7, go_sem]; rfl) rfl HE.out

set_option maxHeartbeats 1600000 in
set_option maxRecDepth 100000 in
theorem Open_off {w : World} {F : Nat → Prop} {a : Nat} {d : DSt} (h : IsDisk w F a d) (slot : Int) (hf : fitsE d.seen.length slot = true) (hoff : d.off = true) :
    Calls Tryz.prog 7 #[.pointer (some ⟨a, 0, none⟩), .int .i64 slot] w (OpenNo 7 w) := by
  have hn4 := h.1.le
  have HD := Lib.hid h
  have HFit := Lib.hid hf
  have HOff := Lib.hid hoff
  clear h hf hoff
  go_enter Tryz.func7, Tryz.ntmps7
  go_wp2_with fail
  refine (Size_any HD.out).mono ?_
  rintro e w' ⟨rfl, rfl⟩
  go_wp2_with fail
  refine (fits_any _ _ _ hn4).mono ?_
  rw [HFit.out]
  rintro e w' ⟨rfl, rfl⟩
  go_wp2_with fail
  refine (readAll_cap HD.out).mono ?_
  rintro e w1 ⟨he, hb1⟩
  rw [if_pos HOff.out] at he
  subst he
  have HB1 := Lib.hid hb1
  clear hb1
  go_wp2_with fail
  refine (fault_no openW 7 (by decide) _).mono ?_
  rintro e w2 ⟨rfl, hw2⟩
  have HE : Hid (OpenNo 7 w (.returned (.tuple #[.pointer none, .string ByteArray.empty, .slice none 0 0, .iface 103 (.pointer (some ⟨w1.heap.size, 0, none⟩))])) w2) := Lib.hid ⟨w1.heap.size, rfl, by rw [hw2]; exact heap_alloc_new _ _, by rw [hw2]; exact HB1.out.alloc HB1.out.size _⟩
  clear hw2
  go_wp2_with fail
  (try simp only [Exit.inBlock, Exit.then])
  exact bodyPost_ret (v := .tuple #[.pointer none, .string ByteArray.empty, .slice none 0 0, .iface 103 (.pointer (some ⟨w1.heap.size, 0, none⟩))]) (by simp [results, Tryz.results7, go_sem]; rfl) rfl HE.out
end Go.Proofs.YtlelfakememckaaGreatDoor
