/- Contracts of a slot header's sector, of cut and fault. -/
import Derived.Test.YtjeabnlmanfplaaGreatDoorWalC
namespace Go.Proofs.YtjeabnlmanfplaaGreatDoor
open Go.RowKit

theorem slotSector_any (gen len pos num : Int) (slot : Nat) (w : World) (h : 0 ≤ gen) (h2 : slot ≤ 4096) : Calls Tryz.prog 74 #[.agg #[.int .i64 gen, .int .i64 len, .int .i64 pos, .int .i64 num], .int .i64 slot] w fun e w' => e = .returned (.int .i64 (gen % 2 * (slot : Int))) ∧ Below w.heap.size w w' := by
  have hm1 : 0 ≤ gen % 2 := Int.emod_nonneg _ (by omega)
  have hm2 : gen % 2 < 2 := Int.emod_lt_of_pos _ (by omega)
  have ht : Int.tmod gen 2 = gen % 2 := Int.tmod_eq_emod_of_nonneg h
  have hp : gen % 2 * (slot : Int) = 0 ∨ gen % 2 * (slot : Int) = slot := by
    rcases (show gen % 2 = 0 ∨ gen % 2 = 1 by omega) with e | e <;> rw [e] <;> simp
  have hp1 : 0 ≤ gen % 2 * (slot : Int) := by omega
  have hp2 : gen % 2 * (slot : Int) ≤ 4096 := by omega
  go_enter Tryz.func74, Tryz.ntmps74
  go_wp2
  go_ret
  exact ⟨rfl, (Below.refl _ _).alloc (Nat.le_refl _) _⟩

/-- A text in pieces of 32 bytes, the last one may be shorter. -/
def piecesF : Nat → List UInt8 → List (List UInt8)
  | 0, _ => []
  | f + 1, l => if 32 < l.length then l.take 32 :: piecesF f (l.drop 32) else if l = [] then [] else [l]
def cutsOf (l : List UInt8) : List (List UInt8) := piecesF (l.length + 1) l
theorem piecesF_more : ∀ (f g : Nat) (l : List UInt8), l.length < f → l.length < g → piecesF f l = piecesF g l
  | 0, _, _, h, _ => by omega
  | _, 0, _, _, h => by omega
  | f + 1, g + 1, l, h1, h2 => by
    unfold piecesF
    split
    · next h => rw [piecesF_more f g (l.drop 32) (by rw [List.length_drop]; omega) (by rw [List.length_drop]; omega)]
    · rfl
theorem cuts_long {l : List UInt8} (h : 32 < l.length) : cutsOf l = l.take 32 :: cutsOf (l.drop 32) := by
  unfold cutsOf
  rw [piecesF, if_pos h, piecesF_more l.length ((l.drop 32).length + 1) (l.drop 32) (by rw [List.length_drop]; omega) (by omega)]
theorem cuts_none : cutsOf [] = [] := rfl
theorem cuts_last {l : List UInt8} (h : ¬ 32 < l.length) (h2 : l ≠ []) : cutsOf l = [l] := by
  unfold cutsOf; rw [piecesF, if_neg h, if_neg h2]

def StrsEnd (l : List (List UInt8)) (w : World) (e : Ending) (w' : World) : Prop := ∃ A c, e = .returned (.slice A l.length c) ∧ Lies w' w'.heap.size A (l.map secV) ∧ Below w.heap.size w w'
theorem strsEnd_of {l : List (List UInt8)} {w w' : World} {v : Value} (h : w'.ownsRow w.heap.size 9 1 v l.length (l.map secV)) (hb : Below w.heap.size w w') : StrsEnd l w (.returned v) w' := by
  obtain ⟨A, c, rfl, _, hl⟩ := own_lies h
  exact ⟨A, c, rfl, hl, hb⟩
theorem secV_snoc (l : List (List UInt8)) (x : List UInt8) : l.map secV ++ [.string (str x)] = (l ++ [x]).map secV := by rw [List.map_append]; rfl

theorem take_str (l : List UInt8) (k : Nat) : (str l).extract 0 k = str (l.take k) := by
  apply ByteArray.ext
  simp [str]
theorem drop_str (l : List UInt8) (k : Nat) : (str l).extract k l.length = str (l.drop k) := by
  apply ByteArray.ext
  simp [str]
  rw [List.take_of_length_le (by rw [List.length_drop]; exact Nat.le_refl _)]

set_option maxHeartbeats 800000 in
theorem cut_any (l : List UInt8) (w : World) (hl : l.length ≤ 1000000) : Calls Tryz.prog 89 #[.string (str l)] w (StrsEnd (cutsOf l) w) := by
  obtain ⟨i0, hi0, hz0, hz1, hz2⟩ := info_parts Tryz.infoStr5
  go_enter Tryz.func89, Tryz.ntmps89
  go_wp2
  go_loopw [0, 3] (fun s v wr => ∃ (r : List UInt8) (acc : List (List UInt8)), r.length + acc.length ≤ 1000000 ∧ s = .string (str r) ∧ Hid (cutsOf l = acc ++ cutsOf r) ∧ Hid (wr.ownsRow w.heap.size 9 1 v acc.length (acc.map secV) ∧ Below w.heap.size w wr)) (fun s _ _ => match s with | .string b => b.size | _ => 0)
  case atStart => exact ⟨l, [], by simpa using hl, rfl, Lib.hid rfl, Lib.hid ⟨World.ownsRow_nil _ _ _ _, Below.refl _ _⟩⟩
  case round =>
    obtain ⟨r, acc, hr, rfl, HG, HO⟩ := hrel
    have hsz : (str r).size = r.length := str_size r
    by_cases h32 : 32 < r.length
    · have HG2 : Hid (cutsOf l = (acc ++ [r.take 32]) ++ cutsOf (r.drop 32)) := Lib.hid (by rw [HG.out, cuts_long h32]; simp)
      have HT := Lib.hid (take_str r 32)
      have hD := drop_str r 32
      obtain ⟨S, hS⟩ : ∃ S, str r = S := ⟨_, rfl⟩
      rw [hS] at hsz HT hD ⊢
      have HD := Lib.hid hD
      have hS32 : (32 : Int) < (S.size : Int) := by rw [hsz]; omega
      have hSle : (32 : Int) ≤ (S.size : Int) := by omega
      have HSz := Lib.hid hsz
      clear hS hD HG hsz
      go_wp2_with (at_builtin; refine wpList_append_own_at _ rfl (.tmp 7) (.tmp 10) 27 rfl w.heap.size 9 i0 (.string ByteArray.empty) 1 16 Tryz.underlying27 hi0 hz0 hz1 hz2 rfl (by decide) _ acc.length (acc.map secV) rfl (HO.out.1.alloc _) ⟨wr.heap.size, 0, none⟩ 1 1 [.string (S.extract 0 32)] rfl rfl ?c1 ?c2 ?c3 ?c4 ?c5 ?_)
      case c1 => exact cell_one_new _ _ _
      case c2 => intro u hu; simp at hu; subst hu; rfl
      case c3 => unfold maxLen; omega
      case c4 => omega
      case c5 => have := HO.out.2.size; simp; omega
      intro v3 w3 hown3 hg3 _ _
      rw [HT.out, secV_snoc] at hown3
      have hbel2 : Below w.heap.size w (wr.alloc (.cells #[.string (S.extract 0 32)] 9)) := HO.out.2.alloc HO.out.2.size _
      have HO3 : Hid (w3.ownsRow w.heap.size 9 1 v3 (acc ++ [r.take 32]).length ((acc ++ [r.take 32]).map secV) ∧ Below w.heap.size w w3) := Lib.hid ⟨by rw [List.length_append]; exact hown3, hbel2.grown hg3 hbel2.size (fun g hg => (HO.out.1.lt g hg).1)⟩
      clear hg3 hown3 hbel2 HO
      go_wp2
      go_roundw
      case rel => exact ⟨r.drop 32, acc ++ [r.take 32], by rw [List.length_drop, List.length_append, List.length_singleton]; omega, by rw [HSz.out, HD.out], HG2, HO3⟩
      case measure => rw [HSz.out, HD.out]; show (str (r.drop 32)).size < S.size; rw [str_size, HSz.out, List.length_drop]; omega
    · by_cases hn : r = []
      · subst hn
        obtain ⟨S, hS⟩ : ∃ S, str [] = S := ⟨_, rfl⟩
        have hne : S.toList = [] := by rw [← hS, Lib.toList_data]; rfl
        have hs0 : S.size = 0 := by rw [← hS]; rfl
        have HE : Hid (cutsOf l = acc) := Lib.hid (by rw [HG.out, cuts_none, List.append_nil])
        rw [hS]
        clear hS hsz HG
        go_wp2
        go_ret
        rw [HE.out]
        exact strsEnd_of HO.out.1 HO.out.2
      · have HE : Hid (cutsOf l = acc ++ [r]) := Lib.hid (by rw [HG.out, cuts_last h32 hn])
        have hle : r.length ≤ 32 := by omega
        obtain ⟨S, hS⟩ : ∃ S, str r = S := ⟨_, rfl⟩
        have hne : (S.toList == []) = false := by
          rw [← hS, Lib.toList_data, str_list]
          cases r with
          | nil => exact absurd rfl hn
          | cons x r => rfl
        have hne2 : ¬ S.toList = [] := by simpa using hne
        have HS := Lib.hid hS
        rw [hS] at hsz ⊢
        have h32' : decide (32 < (S.size : Int)) = false := by rw [decide_eq_false_iff_not, hsz]; omega
        have hS32 : S.size ≤ 32 := by omega
        clear hS hn HG h32 hsz
        go_wp2_with (at_builtin; refine wpList_append_own_at _ rfl (.tmp 16) (.tmp 18) 27 rfl w.heap.size 9 i0 (.string ByteArray.empty) 1 16 Tryz.underlying27 hi0 hz0 hz1 hz2 rfl (by decide) _ acc.length (acc.map secV) rfl (HO.out.1.alloc _) ⟨wr.heap.size, 0, none⟩ 1 1 [.string S] rfl rfl ?c1 ?c2 ?c3 ?c4 ?c5 ?_)
        case c1 => exact cell_one_new _ _ _
        case c2 => intro u hu; simp at hu; subst hu; rfl
        case c3 => unfold maxLen; omega
        case c4 => omega
        case c5 => have := HO.out.2.size; simp; omega
        intro v3 w3 hown3 hg3 _ _
        rw [← HS.out, secV_snoc] at hown3
        have hbel2 : Below w.heap.size w (wr.alloc (.cells #[.string S] 9)) := HO.out.2.alloc HO.out.2.size _
        have HO3 : Hid (w3.ownsRow w.heap.size 9 1 v3 (acc ++ [r]).length ((acc ++ [r]).map secV) ∧ Below w.heap.size w w3) := Lib.hid ⟨by rw [List.length_append]; exact hown3, hbel2.grown hg3 hbel2.size (fun g hg => (HO.out.1.lt g hg).1)⟩
        clear hg3 hown3 hbel2 HO
        go_wp2
        go_ret
        rw [HE.out]
        exact strsEnd_of HO3.out.1 HO3.out.2

/-- An error as a value: nil, or a fault at block b that wraps the number. -/
def faultV (call : ByteArray) (e : Int) : Array Value := #[.string call, .iface 56 (.int .i64 e)]

theorem fault_ok (call : ByteArray) (w : World) : Calls Tryz.prog 46 #[.string call, .int .i64 0] w fun e w' => e = .returned .nilIface ∧ w = w' := by
  go_enter Tryz.func46, Tryz.ntmps46
  go_wp2
  go_ret
  exact ⟨rfl, rfl⟩
theorem fault_no (call : ByteArray) (k : Int) (hk : k ≠ 0) (w : World) : Calls Tryz.prog 46 #[.string call, .int .i64 k] w fun e w' => e = .returned (.iface 74 (.pointer (some ⟨w.heap.size, 0, none⟩))) ∧ w' = w.alloc (.cells (faultV call k) 76) := by
  have hk' : (k == 0) = false := by simpa using hk
  go_enter Tryz.func46, Tryz.ntmps46
  go_wp2
  go_ret
  exact ⟨rfl, rfl⟩
end Go.Proofs.YtjeabnlmanfplaaGreatDoor
