/- Bitmaps: contracts of All and of the document's Names and All. -/
import Derived.Test.YtpefhocjnkbklaaDirF
import Derived.Deep.RegionLaw
import Derived.Test.YtpefhocjnkbklaaDirI
namespace Go.Proofs.Ytpefhocjnkbklaa
open Go.RowKit

/-! ### The bits of volumes -/

def allBits (vs : List Vl) : List Bt := vs.map fun v => ⟨v.1, (2 : Int) ^ v.2.length - 1⟩
def allM (vs : List Vl) : List Bt := if rightB vs = true then allBits vs else []
theorem allBits_take {vs : List Vl} {k : Nat} (hk : k < vs.length) : allBits (vs.take (k + 1)) = allBits (vs.take k) ++ [⟨vs[k].1, (2 : Int) ^ vs[k].2.length - 1⟩] := by
  unfold allBits
  rw [List.take_succ_eq_append_getElem hk, List.map_append]; rfl

set_option maxHeartbeats 4000000 in
set_option maxRecDepth 100000 in
theorem All_any {w : World} {A : Option Addr} {c : Nat} {vs : List Vl} (h : VolsAt w w.heap.size A vs) (hf : VolsFit vs) :
    Calls Try.prog 24 #[.slice A vs.length c] w (BtsEnd1 (allM vs) w) := by
  have HV := Lib.hid h
  have HF := Lib.hid hf
  obtain ⟨i0, hi0, hz0, hz1, hz2⟩ := info_parts Try.infoBt
  clear h hf
  cases hr : rightB vs with
  | false =>
    rw [show allM vs = [] from by unfold allM; rw [hr]; rfl]
    have HR := Lib.hid hr
    clear hr
    go_enter Try.func24, Try.ntmps24
    go_wp2_with (go_at_call 42; refine (Right_any HV.out HF.out).mono ?_; rw [HR.out]; rintro e w1 ⟨rfl, hb⟩; replace hb := Lib.hid hb)
    go_ret
    exact ⟨none, 0, rfl, .inl rfl, hb.out⟩
  | true =>
    rw [show allM vs = allBits vs from by unfold allM; rw [hr]; rfl]
    have hgood := rightB_good hr
    have hl4 : vs.length ≤ 4 := ((rightB_iff vs).1 hr).1
    have HG : Hid (∀ v ∈ vs, 1 ≤ v.2.length ∧ v.2.length ≤ 32) := Lib.hid fun v hv => by
      clear hr hl4
      have : ∀ (l : List Vl) (last : Int), goodFrom last l = true → ∀ v ∈ l, 1 ≤ v.2.length ∧ v.2.length ≤ 32 := by
        intro l
        induction l with
        | nil => intro _ _ v hv; simp at hv
        | cons x r ih =>
          intro last h v hv
          obtain ⟨_, h2, h3⟩ := (goodFrom_cons _ _ _).1 h
          rcases List.mem_cons.1 hv with rfl | hv
          · exact ⟨((volOk_iff _).1 h2).1.2.2.1, ((volOk_iff _).1 h2).1.2.2.2⟩
          · exact ih _ h3 v hv
      exact this vs 0 hgood v hv
    obtain ⟨n, hn⟩ : ∃ n, vs.length = n := ⟨_, rfl⟩
    have HN := Lib.hid hn
    have HRt : Hid (∀ c, Calls Try.prog 42 #[.slice A n c] w fun e w' => e = .returned (.bool true) ∧ Below w.heap.size w w') := Lib.hid fun c => by
      rw [← hn]; refine (Right_any HV.out HF.out).mono ?_; rw [hr]; exact fun _ _ h => h
    rw [hn] at hl4
    clear hr hgood
    go_enter Try.func24, Try.ntmps24
    rw [hn]
    clear hn
    go_wp2_with (go_at_call 42; refine (HRt.out _).mono ?_; rintro e w1 ⟨rfl, hb⟩; replace hb := Lib.hid hb)
    go_loopg [3, 11] n (fun kx s3 s11 wr => ∃ (k : Nat), s11 = .int .i64 k ∧ k ≤ n ∧ n - k ≤ kx ∧ Hid (wr.ownsRow w1.heap.size 66 2 s3 k (btCells (allBits (vs.take k)))) ∧ Hid (Below w1.heap.size w1 wr))
    case atStart => exact ⟨0, rfl, Nat.zero_le _, by omega, Lib.hid (World.ownsRow_nil _ _ _ _), Lib.hid (Below.refl _ _)⟩
    case round =>
      obtain ⟨k, rfl, hk, hkx, HO, HB⟩ := hrel
      obtain ⟨A4, c4, h4, hxx⟩ := own_lies HO.out
      clear hxx
      subst h4
      by_cases hlt : k < n
      · have hltz : (k : Int) < (n : Int) := by omega
        have hkl : k < vs.length := by rw [HN.out]; exact hlt
        have HBW : Hid (Below w.heap.size w wr) := Lib.hid (below_next hb.out HB.out)
        obtain ⟨b, off, a, c', hA, hbl, x1, x2, hly⟩ := HV.out.at_ HBW.out hkl
        have HT := Lib.hid (allBits_take hkl)
        have hwz : w1.heap.size ≤ wr.heap.size := HB.out.size
        have hbw : b < wr.heap.size := Nat.lt_of_lt_of_le hbl HBW.out.size
        subst hA
        have hgk := HG.out _ (List.getElem_mem hkl)
        obtain ⟨x, hx⟩ : ∃ x, vs[k] = x := ⟨_, rfl⟩
        rw [hx] at x1 x2 HT hgk
        clear hly hx hkl
        obtain ⟨i1, bs⟩ := x
        simp only at x1 x2 HT hgk
        obtain ⟨m, hm⟩ : ∃ m, bs.length = m := ⟨_, rfl⟩
        rw [hm] at x2 HT hgk
        clear hm
        obtain ⟨P, hP⟩ : ∃ P, (2 : Int) ^ m = P := ⟨_, rfl⟩
        have HC : Hid (∀ w, Calls Try.prog 39 #[.int .i64 m] w fun e w' => e = .returned (.int .u64 P) ∧ w' = w) := Lib.hid fun w => by
          rw [← hP]
          exact (bit_any (m : Int) w (by omega) (by omega)).mono fun e w' h => ⟨by rw [h.1, Int.toNat_natCast], h.2.symm⟩
        have hpl : 1 ≤ P ∧ P ≤ 4294967296 := by
          have h1 : 2 ^ m ≤ 2 ^ 32 := Nat.pow_le_pow_right (by omega) hgk.2
          have h2 : 1 ≤ 2 ^ m := Nat.one_le_two_pow
          have h3 : ((2 ^ m : Nat) : Int) = (2 : Int) ^ m := by simp
          omega
        rw [hP] at HT
        obtain ⟨U, hU⟩ : ∃ U, P - 1 = U := ⟨_, rfl⟩
        have hw : IntKind.u64.wrap (P - 1) = U := by rw [IntKind.wrap_u64]; omega
        rw [hU] at HT
        clear hP hpl hU hgk
        have K3 : Hid ((wr.alloc (.cells #[.int .i64 i1, .slice a m c'] 77)).heap[wr.heap.size]? = some (.cells #[.int .i64 i1, .slice a m c'] 77 (0, 0))) := Lib.hid (heap_alloc_new _ _)
        have K4 : Hid (Below w1.heap.size w1 (wr.alloc (.cells #[.int .i64 i1, .slice a m c'] 77))) := Lib.hid (HB.out.alloc hwz _)
        have HO2 : Hid ((wr.alloc (.cells #[.int .i64 i1, .slice a m c'] 77)).ownsRow w1.heap.size 66 2 (.slice A4 k c4) k (btCells (allBits (vs.take k)))) := Lib.hid (HO.out.alloc _)
        go_wp2_with fail
        clear x1 x2 hbw hbl
        generalize wr.alloc (.cells #[.int .i64 i1, .slice a m c'] 77) = W1 at *
        generalize wr.heap.size = B at *
        have e1 : W1.cell? ⟨B, 0, none⟩ = some (.int .i64 i1) := by rw [Lib.cell_of_heap K3.out]; rfl
        have e2 : W1.cell? ⟨B, 1, none⟩ = some (.slice a m c') := by rw [Lib.cell_of_heap K3.out]; rfl
        have hsz : W1.drew.heap.size = W1.heap.size := rfl
        have HOd : Hid (W1.drew.ownsRow w1.heap.size 66 2 (.slice A4 k c4) k (btCells (allBits (vs.take k)))) := Lib.hid HO2.out
        have hwz2 : w1.heap.size ≤ W1.heap.size := K4.out.size
        go_region_law (first
          | (refine step_append_lies _ (by rfl) _ _ _ (by rfl) w1.heap.size 66 i0 (.agg #[.int .i64 0, .int .u64 0]) 2 16 Try.underlying22 hi0 hz0 hz1 hz2 rfl (by decide) (.slice A4 k c4) k _ (by rfl) (HOd.out.alloc _) ⟨W1.heap.size, 0, none⟩ 1 1 [.int .i64 i1, .int .u64 U] (by rfl) (by rfl) (cell_two_new _ _ _ _) (by simp [Value.oneCell']) (by omega) (by unfold maxLen; omega) (by omega) (by simp; omega) (W1.heap.size + 1) (by simp) ?_; intro g cap w6 hown hg hat hltg)
          | (go_simp; go_at_call 39; refine (HC.out _).mono ?_; rintro e w4 ⟨rfl, rfl⟩; dsimp only))
        all_goals
          have HO6 : Hid (w6.ownsRow w1.heap.size 66 2 (.slice (some ⟨g, 0, none⟩) (k + 1) cap) (k + 1) (btCells (allBits (vs.take (k + 1))))) := Lib.hid (by rw [HT.out, btCells_append]; exact hown)
          have HB6 : Hid (Below w1.heap.size w1 w6) := Lib.hid ((K4.out.drew.alloc hwz2 _).grown hg (by simp; omega) (fun q hq => (HO2.out.lt q hq).1))
          clear hown hg hat hltg e1 e2
          go_wp2_with fail
          go_roundg (n - (k + 1))
          case measure => omega
          case rel => exact ⟨k + 1, by go_num, by omega, Nat.le_refl _, HO6, HB6⟩
      · have hltz : ¬ (k : Int) < (n : Int) := by omega
        have HE : Hid (BtsEnd1 (allBits vs) w (.returned (.slice A4 k c4)) wr) := Lib.hid (by
          have hO := HO.out
          have e1 : vs.take k = vs := List.take_of_length_le (by rw [HN.out]; omega)
          rw [e1] at hO
          have e2 : k = (allBits vs).length := by unfold allBits; rw [List.length_map, HN.out]; omega
          rw [e2] at hO ⊢
          exact own_endB1 hO (below_next hb.out HB.out))
        go_wp2_with fail
        go_ret
        exact HE.out
end Go.Proofs.Ytpefhocjnkbklaa
