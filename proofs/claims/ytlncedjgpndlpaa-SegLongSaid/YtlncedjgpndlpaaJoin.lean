/- Contracts of octet.join and octet.List, of the document's answer for lists, and of the bound Small. -/
import Derived.Test.YtlncedjgpndlpaaItems
import Derived.Test.YtlncedjgpndlpaaShelf
namespace Go.Proofs.Ytlncedjgpndlpaa
open Go.RowKit

theorem builder_below {T e : TypeId} {B b : Nat} {p : Value} {bs : List Value} {w w' : World} (h : Lib.BuilderAt T e B b p bs w) (hb : Below w.heap.size w w') : Lib.BuilderAt T e B b p bs w' := by
  have hlt := h.lt
  obtain ⟨hB, v, hk, hown, hne⟩ := h
  exact ⟨hB, v, (hb.block b hlt).trans hk, own_below hown hb, hne⟩

theorem cells_cat (l m : List UInt8) : Lib.byteCells l ++ Lib.strCells (str m) = Lib.byteCells (l ++ m) := by rw [Lib.byteCells_append]; rfl

set_option maxHeartbeats 800000 in
theorem Small_any (A : Option Addr) (c n many bytes : Nat) (xs : List (List UInt8)) (w : World) (hl : xs.length = n) (hn : n ≤ maxLen) (hm : many ≤ 1073741824) (hby : bytes ≤ 1073741824) (hx : ∀ x ∈ xs, x.length ≤ maxLen) (h : Strs w w.heap.size A xs) :
    Calls Try.prog 13 #[.slice A n c, .int .i64 many, .int .i64 bytes] w fun e w' => e = .returned (.bool (small xs many bytes)) ∧ w = w' := by
  have HL := Lib.hid hl
  clear hl
  unfold maxLen at hn
  by_cases hbig : many < n
  · have HS : Hid (small xs many bytes = false) := Lib.hid (by unfold small; rw [HL.out]; simp; omega)
    go_enter Try.func13, Try.ntmps13
    go_wp2
    go_ret
    rw [HS.out]
    exact ⟨rfl, rfl⟩
  · go_enter Try.func13, Try.ntmps13
    go_wp2
    go_loop [7, 8] (fun z i => ∃ k t : Nat, k ≤ n ∧ i = .int .i64 k ∧ z = .int .i64 t ∧ t ≤ bytes ∧ Hid (t = total (xs.take k))) (fun _ i => n - (intOf i).toNat)
    case atStart => exact ⟨0, 0, by omega, rfl, rfl, by omega, Lib.hid (by simp [total])⟩
    case round =>
      obtain ⟨k, t, hk, rfl, rfl, htb, HT⟩ := hrel
      by_cases hlt : k < n
      · have hkl : k < xs.length := by rw [HL.out]; exact hlt
        obtain ⟨xb, xo, rfl, hxb, hc⟩ := h.at_ hkl
        have hxm := hx _ (List.getElem_mem hkl)
        have HT2 := Lib.hid (total_take hkl)
        have hle := total_take_le xs (k + 1)
        generalize xs[k] = x at hc hxm HT2
        have hi0 : (0 : Int) ≤ (k : Int) := by omega
        have hi1 : (k : Int) < (n : Int) := by omega
        unfold txt at hc
        unfold maxLen at hxm
        have hxs : (str x).size = x.length := str_size x
        by_cases hov : bytes < x.length
        · have HS : Hid (small xs many bytes = false) := Lib.hid (by have := HT2.out; unfold small; simp; omega)
          have hb : bytes < (str x).size := by omega
          clear hxs hkl hle hov hx
          go_wp2
          go_ret
          rw [HS.out]
          exact ⟨rfl, rfl⟩
        · have hb : (str x).size ≤ bytes := by omega
          by_cases hov2 : bytes < t + x.length
          · have HS : Hid (small xs many bytes = false) := Lib.hid (by have := HT2.out; have := HT.out; unfold small; simp; omega)
            have hb2 : bytes < t + (str x).size := by omega
            clear hxs hkl hle hov hov2 hx
            go_wp2
            go_ret
            rw [HS.out]
            exact ⟨rfl, rfl⟩
          · have hb2 : t + (str x).size ≤ bytes := by omega
            have HT3 : Hid (t + (str x).size = total (xs.take (k + 1))) := Lib.hid (by rw [HT2.out, HT.out, hxs])
            clear hxs hkl hle hov hov2 hx
            go_wp2
            go_round
            case rel => exact ⟨k + 1, t + (str x).size, by omega, by go_num, by go_num, hb2, HT3⟩
            case measure => simp [intOf]; omega
      · have HS : Hid (small xs many bytes = true) := Lib.hid (by
          have e : xs.take k = xs := List.take_of_length_le (by rw [HL.out]; omega)
          have := HT.out
          rw [e] at this
          have := HL.out
          unfold small; simp; omega)
        clear hx
        go_wp2
        go_ret
        rw [HS.out]
        exact ⟨rfl, rfl⟩

end Go.Proofs.Ytlncedjgpndlpaa
