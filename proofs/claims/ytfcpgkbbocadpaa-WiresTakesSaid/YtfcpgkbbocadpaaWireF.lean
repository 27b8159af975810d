/- Contract of the document's Turned. -/
import Derived.Test.YtfcpgkbbocadpaaWireE
import Derived.Test.YtfcpgkbbocadpaaBytes
namespace Go.Proofs.Ytfcpgkbbocadpaa
open Go.RowKit

set_option maxHeartbeats 2000000 in
set_option maxRecDepth 100000 in
theorem DocTurned16_any (s : List UInt8) (k : Nat) (b : UInt8) (w : World) (h : k < s.length) (hs : s.length ≤ 140737488351232) :
    Calls Try.prog 17 #[.string (str s), .int .i64 (k : Int), .int .u8 (b.toNat : Int)] w fun e w' => e = .returned (.string (str (turnedW s k b))) ∧ Below w.heap.size w w' := by
  obtain ⟨T, hT⟩ : ∃ T, str s = T := ⟨_, rfl⟩
  have hsz : T.size = s.length := by rw [← hT, str_size]
  have hk : (k : Int) < (T.size : Int) := by omega
  have hk0 : (0 : Int) ≤ (k : Int) := by omega
  have hk1 : (k : Int) ≤ (T.size : Int) := by omega
  have hk2 : (k : Int) + 1 ≤ (T.size : Int) := by omega
  have hw : IntKind.i64.wrap ((k : Int) + 1) = (k : Int) + 1 := by rw [IntKind.wrap_i64]; omega
  have hkT : k < T.size := by omega
  obtain ⟨c, hc⟩ : ∃ c : UInt8, T[k] = c := ⟨_, rfl⟩
  have hcv : (convert 49 9 (.slice (some ⟨w.heap.size, 0, none⟩) 1 1)).run Try.prog (w.alloc (.cells #[.int .u8 (bits .xor .u8 ((T[k].toNat : Nat) : Int) ((b.toNat : Nat) : Int))] 5)).drew = .ok (.string (str [c ^^^ b])) (w.alloc (.cells #[.int .u8 (bits .xor .u8 ((T[k].toNat : Nat) : Int) ((b.toNat : Nat) : Int))] 5)).drew := by
    rw [u8_turn, hc]
    have hb : BytesIn (w.alloc (.cells #[.int .u8 (((c ^^^ b).toNat : Nat) : Int)] 5)).drew w.heap.size [c ^^^ b] := by
      intro j hj
      obtain rfl : j = 0 := by simp at hj; omega
      have h0 := heap_new w (.cells #[.int .u8 (((c ^^^ b).toNat : Nat) : Int)] 5 (0, 0))
      exact ⟨by rw [drew_cell, Lib.cell_of_heap h0]; rfl, by rw [drew_frozen, Lib.frozen_of_heap h0]⟩
    exact text_of_bytes hb 1
  have hTl : T.data.toList = s := by rw [← hT]; rfl
  have HR : Hid (T.extract 0 k ++ str [c ^^^ b] ++ T.extract (k + 1) T.size = str (turnedW s k b)) := Lib.hid (by
    have hl : k < T.data.toList.length := by rw [list_length]; exact hkT
    have hg : s.getD k 0 = c := by
      rw [List.getD_eq_getElem?_getD, List.getElem?_eq_getElem h, Option.getD_some, ← hc]
      subst hTl
      rfl
    rw [extract_take_str, extract_drop_str, str_cat, str_cat, hTl]
    unfold turnedW
    rw [hg, set_parts h])
  obtain ⟨X, hX⟩ : ∃ X, str [c ^^^ b] = X := ⟨_, rfl⟩
  have hX1 : X.size = 1 := by rw [← hX, str_size]; rfl
  rw [hX] at hcv HR
  have hz1 : ¬ 9223372036854775807 < min k T.size + X.size := by omega
  have hz2 : ¬ 9223372036854775807 < min k T.size + X.size + (T.size - (k + 1)) := by omega
  rw [hT]
  clear hTl hsz hT hc hX
  go_enter Try.func17, Try.ntmps17
  go_wp2_with fail
  go_region
  have HB : Hid (Below w.heap.size w (w.alloc (.cells #[.int .u8 (bits .xor .u8 ((T[k].toNat : Nat) : Int) ((b.toNat : Nat) : Int))] 5)).drew) := Lib.hid (below_one _ _).drew
  clear hcv hX1 hz1 hz2
  go_wp2
  go_ret
  exact ⟨congrArg (fun x => Ending.returned (.string x)) HR.out, HB.out⟩
end Go.Proofs.Ytfcpgkbbocadpaa
