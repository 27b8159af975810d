/- Contract of Sizes of the package vols. -/
import Derived.Test.YtphmemopabgaeaaVolU
namespace Go.Proofs.Ytphmemopabgaeaa
open Go.RowKit

theorem Try.infoIntV : (Try.prog.info? 3).map (fun i => (i.zero, i.size, i.bytes)) = some (some (.int .i64 0), 1, 8) := by kernel_rfl

/-- A list of numbers comes back. -/
def NumsEnd (l : List Int) (w : World) (e : Ending) (w' : World) : Prop :=
  ∃ A c, e = .returned (.slice A l.length c) ∧ Lies w' w'.heap.size A (l.map (Value.int .i64)) ∧ Below w.heap.size w w'
theorem sizesOf_length (vs : List Vl) : (sizesOf vs).length = vs.length * 2 := by
  unfold sizesOf
  induction vs with
  | nil => rfl
  | cons v r ih => simp only [List.flatMap_cons, List.length_append, List.length_cons, List.length_nil, ih]; omega
theorem sizesOf_snoc (vs : List Vl) (v : Vl) : sizesOf (vs ++ [v]) = sizesOf vs ++ [v.1, (v.2.length : Int)] := by simp [sizesOf]
theorem sizesOf_take {vs : List Vl} {k : Nat} (h : k < vs.length) : sizesOf (vs.take (k + 1)) = sizesOf (vs.take k) ++ [vs[k].1, (vs[k].2.length : Int)] := by
  rw [List.take_succ_eq_append_getElem h, sizesOf_snoc]

theorem cell_two_new (w : World) (x y : Value) (t : TypeId) : ∀ j u, [x, y][j]? = some u → (w.alloc (.cells #[x, y] t)).cell? ((⟨w.heap.size, 0, none⟩ : Addr).add j) = some u := by
  intro j u hu
  rw [WideShapes.add_plain, Nat.zero_add, Lib.cell_of_heap (heap_alloc_new _ _)]
  simpa using hu

set_option maxHeartbeats 1600000 in
theorem Sizes_any {w : World} {A : Option Addr} {c : Nat} {vs : List Vl} (h : VolsAt w w.heap.size A vs) (hf : VolsFit vs) :
    Calls Try.prog 27 #[.slice A vs.length c] w (NumsEnd (sizesV vs) w) := by
  have HV := Lib.hid h
  have HF := Lib.hid hf
  cases hr : rightB vs with
  | false =>
    have HE : Hid (∀ w1, Below w.heap.size w w1 → NumsEnd (sizesV vs) w (.returned (.slice none 0 0)) w1) := Lib.hid (fun w1 hb => by
      have e : sizesV vs = [] := by unfold sizesV; rw [hr]; rfl
      rw [e]
      exact ⟨none, 0, rfl, .inl rfl, hb⟩)
    have HR := Lib.hid hr
    clear h hf hr
    go_enter Try.func27, Try.ntmps27
    go_wp2_with (go_at_call 20; refine (Right_any HV.out HF.out).mono ?_; rw [HR.out]; rintro e w1 ⟨rfl, hb⟩; replace hb := Lib.hid hb)
    go_ret
    exact HE.out _ hb.out
  | true =>
    have HSz : Hid (sizesV vs = sizesOf vs) := Lib.hid (by unfold sizesV; rw [if_pos hr])
    have HR := Lib.hid hr
    obtain ⟨hs4, hs32⟩ := right_small hr
    obtain ⟨i0, hi0, hz0, hz1, hz2⟩ := info_parts Try.infoIntV
    obtain ⟨n, hn⟩ : ∃ n, vs.length = n := ⟨_, rfl⟩
    have HN := Lib.hid hn
    have HRt : Hid (∀ c, Calls Try.prog 20 #[.slice A n c] w fun e w' => e = .returned (.bool true) ∧ Below w.heap.size w w') := Lib.hid (fun c => by
      have := Right_any (c := c) HV.out HF.out
      rw [HR.out, HN.out] at this
      exact this)
    rw [hn] at hs4 ⊢
    clear h hf hr hn hs32
    go_enter Try.func27, Try.ntmps27
    go_wp2_with (go_at_call 20; refine (HRt.out _).mono ?_; rintro e w1 ⟨rfl, hb⟩; replace hb := Lib.hid hb)
    go_loopw [3, 11] (fun s i wr => ∃ k : Nat, k ≤ n ∧ i = .int .i64 k ∧ Hid (wr.ownsRow w.heap.size 3 1 s (k * 2) ((sizesOf (vs.take k)).map (Value.int .i64))) ∧ Hid (Below w.heap.size w wr)) (fun _ i _ => n - (intOf i).toNat)
    case atStart => exact ⟨0, Nat.zero_le _, rfl, Lib.hid (by simpa [sizesOf] using World.ownsRow_nil _ _ _ _), hb⟩
    case round =>
      clear hb HRt
      obtain ⟨k, hk, rfl, HO, HB⟩ := hrel
      by_cases hlt : k < n
      · have hkl : k < vs.length := by rw [HN.out]; exact hlt
        obtain ⟨b, off, a, c', hA, hbl, x1, x2, hly⟩ := HV.out.at_ HB.out hkl
        have hwz : w.heap.size ≤ wr.heap.size := HB.out.size
        have hbw : b < wr.heap.size := by omega
        subst hA
        have HT := Lib.hid (sizesOf_take hkl)
        obtain ⟨v, hv⟩ : ∃ v, vs[k] = v := ⟨_, rfl⟩
        rw [hv] at x1 x2 HT
        clear hv hkl hly
        obtain ⟨i1, bs⟩ := v
        simp only at x1 x2 HT
        obtain ⟨q, hq⟩ : ∃ q, bs.length = q := ⟨_, rfl⟩
        rw [hq] at x2 HT
        clear hq
        obtain ⟨A3, c3, hs3, hxx⟩ := own_lies HO.out
        clear hxx
        subst hs3
        go_wp2_with (at_builtin; refine wpList_append_own _ rfl (.tmp 15) (.tmp 21) 43 rfl w.heap.size 3 i0 (.int .i64 0) 1 8 Try.underlying43 hi0 hz0 hz1 hz2 rfl (by decide) (.slice A3 (k * 2) c3) (k * 2) _ rfl ((HO.out.alloc _).alloc _) ⟨wr.heap.size + 1, 0, none⟩ 2 2 [.int .i64 i1, .int .i64 q] rfl rfl ?c1 ?c2 ?c3 ?c4 ?c5 ?_)
        case c1 => have := cell_two_new (wr.alloc (.cells #[.int .i64 i1, .slice a q c'] 47)) (.int .i64 i1) (.int .i64 q) 3; simpa using this
        case c2 => intro u hu; simp only [List.mem_cons, List.not_mem_nil, or_false] at hu; rcases hu with rfl | rfl <;> rfl
        case c3 => unfold maxLen; omega
        case c4 => omega
        case c5 => simp; omega
        intro v3 w3 hown3 hg3 _
        have HB3 : Hid (Below w.heap.size w w3) := Lib.hid (((HB.out.alloc hwz _).alloc (by simp; omega) _).grown hg3 (by simp; omega) (fun g hg => (HO.out.lt g hg).1))
        have HO3 : Hid (w3.ownsRow w.heap.size 3 1 v3 ((k + 1) * 2) ((sizesOf (vs.take (k + 1))).map (Value.int .i64))) := Lib.hid (by
          rw [HT.out, List.map_append, show (k + 1) * 2 = k * 2 + 2 from by omega]
          exact hown3)
        clear hown3 hg3 HO HB
        go_wp2_with fail
        go_roundw
        case rel => exact ⟨k + 1, by omega, by go_num, HO3, HB3⟩
        case measure => simp [intOf]; omega
      · have HE : Hid (∀ s, wr.ownsRow w.heap.size 3 1 s (k * 2) ((sizesOf (vs.take k)).map (Value.int .i64)) → NumsEnd (sizesV vs) w (.returned s) wr) := Lib.hid (fun s hs => by
          obtain ⟨A3, c3, rfl, _, hl⟩ := own_lies hs
          rw [List.take_of_length_le (by rw [HN.out]; omega)] at hl
          refine ⟨A3, c3, ?_, by rw [HSz.out]; exact hl, HB.out⟩
          rw [HSz.out, sizesOf_length, HN.out, show k = n from by omega])
        have HE2 := Lib.hid (HE.out _ HO.out)
        clear HE
        go_wp2_with fail
        go_ret
        exact HE2.out
end Go.Proofs.Ytphmemopabgaeaa
