/- The walk of the law SumTable. -/
import Derived.Test.YtglkoeinbjfbiaaSumTab
import Derived.Test.YtglkoeinbjfbiaaSumLaws
import Derived.Deep.RegionHeld3
namespace Go.Proofs.Ytglkoeinbjfbiaa
open Go.RowKit

theorem crc_one (b : UInt8) : crcSum 4294967295 [b] = 4294967295 - crcSteps 8 b.toNat := by
  show 4294967295 - crcSteps 8 ((4294967295 - 4294967295) ^^^ b.toNat) = _
  rw [Nat.sub_self, Nat.zero_xor]

theorem crc_one_eq (b : UInt8) : bits BinOp.xor IntKind.u32 IntKind.u32.max ((crcSum 4294967295 [b] : Nat) : Int) = ((crcSteps 8 b.toNat : Nat) : Int) := by
  have h := crcSteps_lt 8 (byte_lt32 b)
  rw [compl32 _ (crcSum_lt _ _), crc_one]
  omega

set_option maxHeartbeats 4000000 in
set_option maxRecDepth 100000 in
theorem SumTable_walk (b : UInt8) (w : World) :
    Calls Try.prog 4 #[.int .u8 b.toNat] w fun e w' => e = .returned (.bool true) ∧ Below w.heap.size w w' := by
  have hz := (zero_of_info Try.infoTable).1
  have hn := b.toNat_lt
  go_enter Try.func4, Try.ntmps4
  go_wp2_with fail
  refine (Table_any _).mono ?_
  rintro e w1 ⟨rfl, hb1⟩
  have hst := run_storeCells_row (P := Try.prog) (w1.alloc (Obj.cells (Array.replicate 256 (Value.int IntKind.u32 0)) 27)) w1.heap.size 27 (Array.replicate 256 (Value.int IntKind.u32 0)) (tabCells 256) (heap_alloc_new _ _) (by rw [tabCells_size, Array.size_replicate]) (tabCells_one _)
  have HR := Lib.hid (setRow_heap (w1.alloc (Obj.cells (Array.replicate 256 (Value.int IntKind.u32 0)) 27)) w1.heap.size (Array.replicate 256 (Value.int IntKind.u32 0)) (tabCells 256) 27 (0, 0) (heap_alloc_new _ _))
  have HB : Hid (Below w.heap.size w ((w1.alloc (Obj.cells (Array.replicate 256 (Value.int IntKind.u32 0)) 27)).setRow w1.heap.size (tabCells 256))) := Lib.hid ((hb1.alloc hb1.size _).trans ⟨rfl, rfl, rfl, by simp [World.setRow], fun k hk => setRow_other _ _ _ _ (by have := hb1.size; omega)⟩)
  have HS : Hid (w1.heap.size < ((w1.alloc (Obj.cells (Array.replicate 256 (Value.int IntKind.u32 0)) 27)).setRow w1.heap.size (tabCells 256)).heap.size) := Lib.hid (by
    have h : ((w1.alloc (Obj.cells (Array.replicate 256 (Value.int IntKind.u32 0)) 27)).setRow w1.heap.size (tabCells 256)).heap.size = w1.heap.size + 1 := by
      rw [← alloc_size w1 (Obj.cells (Array.replicate 256 (Value.int IntKind.u32 0)) 27)]
      simp [World.setRow]
    omega)
  go_wp2
  clear hst hz
  generalize ((w1.alloc (Obj.cells (Array.replicate 256 (Value.int IntKind.u32 0)) 27)).setRow w1.heap.size (tabCells 256)) = w2 at *
  have hc := Lib.cell_of_heap HR.out b.toNat
  rw [tabCells_at hn, if_pos hn] at hc
  have hs : w1.heap.size < w2.heap.size := HS.out
  have hlt : ((b.toNat : Nat) : Int) < 256 := by omega
  have hcv : (convert 29 9 (.slice (some ⟨w2.heap.size, 0, none⟩) 1 1)).run Try.prog (w2.alloc (Obj.cells #[Value.int .u8 (b.toNat : Int)] 5)).drew = .ok (.string (str [b])) (w2.alloc (Obj.cells #[Value.int .u8 (b.toNat : Int)] 5)).drew := run_convert_bytes_back (P := Try.prog) (w2.alloc (Obj.cells #[Value.int .u8 (b.toNat : Int)] 5)).drew 29 9 5 ⟨w2.heap.size, 0, none⟩ 1 [b] Try.underlying29 Try.underlying5 Try.underlying9 (fun j hj => by
        rw [WideShapes.add_plain, Nat.zero_add, Lib.cell_of_heap (show (w2.alloc (Obj.cells #[Value.int .u8 (b.toNat : Int)] 5)).drew.heap[w2.heap.size]? = _ from heap_alloc_new _ _)]
        obtain rfl : j = 0 := by simpa using hj
        rfl)
  obtain ⟨q, hq⟩ : ∃ q : Nat, crcSteps 8 b.toNat = q := ⟨_, rfl⟩
  obtain ⟨r, Hr⟩ : ∃ r : Nat, Hid (crcSum 4294967295 [b] = r) := ⟨_, Lib.hid rfl⟩
  have heq := crc_one_eq b
  rw [Hr.out, hq] at heq
  replace heq := heq.symm
  rw [hq] at hc
  clear hq
  have HA : Hid (Below w2.heap.size w2 (w2.alloc (Obj.cells #[Value.int .u8 (b.toNat : Int)] 5)).drew) := Lib.hid ((Below.refl w2.heap.size w2).alloc (Nat.le_refl _) _).drew
  have HC3 := Lib.hid ((HA.out.cell (p := ⟨w1.heap.size, b.toNat, none⟩) hs).trans hc)
  have HS3 : Hid (w1.heap.size < (w2.alloc (Obj.cells #[Value.int .u8 (b.toNat : Int)] 5)).drew.heap.size) := Lib.hid (Nat.lt_of_lt_of_le hs HA.out.size)
  have HB3 := Lib.hid (HB.out.trans (HA.out.mono HB.out.size))
  have hc3 := HC3.out
  have hb1s : (str [b]).size ≤ 9223372036854775806 := by rw [str_size, List.length_singleton]; omega
  go_region_with (first
    | (go_at_call 11; refine (RefOn_any 4294967295 _ _ (by omega) hb1s).mono ?_; rintro e w4 ⟨rfl, rfl⟩; rw [str_list, Hr.out])
    | (go_at_call 13; refine (SumAwake_any _).mono ?_; rintro e w5 ⟨rfl, rfl⟩))
  all_goals
    go_wp2
    go_ret
    exact ⟨rfl, HB3.out⟩

theorem SumTable_walkI (n : Int) (w : World) (h : (Lit.int .u8 n).wf = true) :
    Calls Try.prog 4 #[.int .u8 n] w fun e w' => e = .returned (.bool true) ∧ Below w.heap.size w w' := by
  obtain ⟨b, rfl⟩ := byte_of h
  exact SumTable_walk b w
end Go.Proofs.Ytglkoeinbjfbiaa
