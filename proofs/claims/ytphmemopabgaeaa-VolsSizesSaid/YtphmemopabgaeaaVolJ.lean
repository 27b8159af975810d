/- Contract of Add of the package vols. -/
import Derived.Test.YtphmemopabgaeaaVolI
namespace Go.Proofs.Ytphmemopabgaeaa
open Go.RowKit

theorem mem_zip_take {α β : Type} {l : List α} {m : List β} {k : Nat} {p : α × β} (h : p ∈ (l.take k).zip (m.take k)) : p ∈ l.zip m := by
  induction l generalizing m k with
  | nil => simp at h
  | cons a l ih =>
    cases m with
    | nil => simp at h
    | cons b m =>
      cases k with
      | zero => simp at h
      | succ k =>
        simp only [List.take_succ_cons, List.zip_cons_cons, List.mem_cons] at h ⊢
        exact h.imp id ih
theorem mem_zip_drop {α β : Type} {l : List α} {m : List β} {k : Nat} {p : α × β} (h : p ∈ (l.drop k).zip (m.drop k)) : p ∈ l.zip m := by
  induction l generalizing m k with
  | nil => simp at h
  | cons a l ih =>
    cases m with
    | nil => simp at h
    | cons b m =>
      cases k with
      | zero => simpa using h
      | succ k =>
        simp only [List.drop_succ_cons] at h
        simp only [List.zip_cons_cons, List.mem_cons]
        exact Or.inr (ih h)
theorem mem_zip_at {α β : Type} {l : List α} {m : List β} {p : α × β} (h : p ∈ l.zip m) : ∃ i, ∃ (h1 : i < l.length) (h2 : i < m.length), p = (l[i], m[i]) := by
  obtain ⟨i, hi, rfl⟩ := List.getElem_of_mem h
  simp only [List.length_zip] at hi
  exact ⟨i, by omega, by omega, by simp⟩
theorem zip_mem_at {α β : Type} {l : List α} {m : List β} {i : Nat} (h1 : i < l.length) (h2 : i < m.length) : (l[i], m[i]) ∈ l.zip m := by
  have h : i < (l.zip m).length := by rw [List.length_zip]; omega
  have := List.getElem_mem h
  rwa [List.getElem_zip] at this
theorem VolsAt.of_zip {w : World} {B : Nat} {A : Option Addr} {vs : List Vl} {us : List Value} (hl : us.length = vs.length) (h : Lies w B A (volCells vs us)) (hu : ∀ p ∈ vs.zip us, IsTexts w B p.2 p.1.2) : VolsAt w B A vs :=
  VolsAt.of_rows hl h (fun _ h1 h2 => hu _ (zip_mem_at h1 h2))

theorem right_small {vs : List Vl} (h : rightB vs = true) : vs.length ≤ 4 ∧ ∀ v ∈ vs, v.2.length ≤ 32 := by
  refine ⟨((rightB_iff vs).1 h).1, fun v hv => ?_⟩
  have := (volOk_iff v).1 (goodFrom_ok (rightB_good h) v hv)
  omega
theorem right_fit {vs : List Vl} (h : rightB vs = true) : VolsFit vs := by
  obtain ⟨h1, h2⟩ := right_small h
  exact ⟨by omega, fun v hv => by have := h2 v hv; omega⟩

/-- What is left behind Insert. -/
theorem add_end {w w3 w4 w5 : World} {base at_ g0 n cap : Nat} {id : Int} {v : Value} {vs : List Vl} {us : List Value} {A : Option Addr} (hO : OwnV w3 base v vs us)
    (ho : w4.ownsRow w3.heap.size 9 1 (.slice (some ⟨g0, 0, none⟩) n n) n ((blankB n).map Value.string)) (hb : Below w3.heap.size w3 w4)
    (hl : Lies w5 w5.heap.size A ((volCells vs us).take (at_ * 2) ++ [.int .i64 id, .slice (some ⟨g0, 0, none⟩) n n] ++ (volCells vs us).drop (at_ * 2)))
    (hg : (w4.alloc (.cells #[.int .i64 id, .slice (some ⟨g0, 0, none⟩) n n] 47)).grownBy w5 v.ownBlock) (hat : at_ ≤ vs.length)
    (hbw : Below w.heap.size w w3) (hbase : w.heap.size ≤ base) :
    VolsEnd (vs.take at_ ++ (id, blankB n) :: vs.drop at_) 0 w (.returned (.tuple #[.slice A (vs.length + 1) cap, .int .i64 0])) w5 := by
  have hlen : (vs.take at_ ++ (id, blankB n) :: vs.drop at_).length = vs.length + 1 := by simp; omega
  refine ⟨A, cap, by rw [hlen], ?_, ?_⟩
  · have htk : (us.take at_).length = (vs.take at_).length := by rw [List.length_take, List.length_take, hO.len]
    refine VolsAt.of_zip (us := us.take at_ ++ (.slice (some ⟨g0, 0, none⟩) n n) :: us.drop at_) (by simp [hO.len]) ?_ (fun p hp => ?_)
    · rw [volCells_append htk, volCells, ← volCells_take hO.len, ← volCells_drop hO.len]
      simpa using hl
    · have hkeep : ∀ p ∈ vs.zip us, IsTexts w5 w5.heap.size p.2 p.1.2 := fun p hp => by
        obtain ⟨i, h1, h2, rfl⟩ := mem_zip_at hp
        have h3 := (own_kept (hO.each i h1 h2) hb).alloc (.cells #[.int .i64 id, .slice (some ⟨g0, 0, none⟩) n n] 47)
        refine own_texts (h3.kept hg ?_)
        cases hq : us[i].ownBlock with
        | none => exact Or.inl rfl
        | some k => exact Or.inr (fun e => hO.gap i h2 k hq e.symm)
      rw [List.zip_append (by rw [List.length_take, List.length_take, hO.len]), List.zip_cons_cons] at hp
      rcases List.mem_append.1 hp with hp | hp
      · exact hkeep p (mem_zip_take hp)
      · rcases List.mem_cons.1 hp with rfl | hp
        · have h3 := ho.alloc (.cells #[.int .i64 id, .slice (some ⟨g0, 0, none⟩) n n] 47)
          have h4 := h3.kept hg (Or.inr (fun e => by
            have h5 := (ho.lt g0 rfl).1
            have h6 := (hO.row.lt g0 e.symm).2
            omega))
          have h5 : (blankB n).length = n := blankB_length n
          refine own_texts (base := w3.heap.size) ?_
          show World.ownsRow _ _ _ _ _ (blankB n).length _
          rw [h5]
          exact h4
        · exact hkeep p (mem_zip_drop hp)
  · have h1 : Below w.heap.size w (w4.alloc (.cells #[.int .i64 id, .slice (some ⟨g0, 0, none⟩) n n] 47)) := (hbw.trans (hb.mono hbw.size)).alloc (by have := hbw.size; have := hb.size; omega) _
    exact h1.grown hg h1.size (fun k hk => by have := (hO.row.lt k hk).1; omega)

theorem OwnV.oneCells {w : World} {base : Nat} {v : Value} {vs : List Vl} {us : List Value} (h : OwnV w base v vs us) : ∀ u ∈ volCells vs us, u.oneCell' = true :=
  volCells_one (fun u hu => by
    obtain ⟨i, hi, rfl⟩ := List.getElem_of_mem hu
    exact (own_texts (h.each i (by rw [← h.len]; exact hi) hi)).one)

/-- slices.Insert, as Add calls it. -/
theorem insert_add {w w3 w4 : World} {base at_ g0 n : Nat} {id : Int} {v : Value} {vs : List Vl} {us : List Value} (hO : OwnV w3 base v vs us)
    (ho : w4.ownsRow w3.heap.size 9 1 (.slice (some ⟨g0, 0, none⟩) n n) n ((blankB n).map Value.string)) (hb : Below w3.heap.size w3 w4) (hat : at_ ≤ vs.length) (hn : vs.length ≤ 1000)
    (hbw : Below w.heap.size w w3) (hbase : w.heap.size ≤ base) :
    Calls Try.prog 33 #[v, .int .i64 at_, .slice (some ⟨w4.heap.size, 0, none⟩) 1 1] (w4.alloc (.cells #[.int .i64 id, .slice (some ⟨g0, 0, none⟩) n n] 47))
      (fun e w5 => ∃ A cap, e = .returned (.slice A (vs.length + 1) cap) ∧ VolsEnd (vs.take at_ ++ (id, blankB n) :: vs.drop at_) 0 w (.returned (.tuple #[.slice A (vs.length + 1) cap, .int .i64 0])) w5) := by
  refine (Insert_any (xs := volCells vs us) (news := [.int .i64 id, .slice (some ⟨g0, 0, none⟩) n n]) (n := vs.length) (own_base ((own_kept hO.row hb).alloc _) (Nat.zero_le _)) hn hat (fun e => ?_) (heap_alloc_new _ _) rfl (fun u hu => ?_) hO.oneCells).mono ?_
  · have := (hO.row.lt _ e).2
    have := hb.size
    omega
  · simp only [List.mem_cons, List.not_mem_nil, or_false] at hu
    rcases hu with rfl | rfl <;> rfl
  · rintro e w5 ⟨A5, cap5, rfl, hl5, hg5⟩
    exact ⟨A5, cap5, rfl, add_end hO ho hb hl5 hg5 hat hbw hbase⟩

theorem addE_arg {vs : List Vl} {id n : Int} (h : ¬ (rightB vs = true ∧ shapeB id n = true)) : addE vs id n = 1 ∧ addV vs id n = [] := by
  have e : addE vs id n = 1 := by unfold addE; rw [if_neg h]
  exact ⟨e, by unfold addV; rw [e]; rfl⟩
theorem addE_there {vs : List Vl} {id n : Int} (h : rightB vs = true ∧ shapeB id n = true) (h2 : hasAt vs id = true) : addE vs id n = 9 ∧ addV vs id n = [] := by
  have e : addE vs id n = 9 := by unfold addE; rw [if_pos h, if_pos h2]
  exact ⟨e, by unfold addV; rw [e]; rfl⟩
theorem addE_full {vs : List Vl} {id n : Int} (h : rightB vs = true ∧ shapeB id n = true) (h2 : hasAt vs id = false) (h3 : vs.length = 4) : addE vs id n = 6 ∧ addV vs id n = [] := by
  have e : addE vs id n = 6 := by unfold addE; rw [if_pos h, if_neg (by simp [h2]), if_pos h3]
  exact ⟨e, by unfold addV; rw [e]; rfl⟩
theorem addE_ok {vs : List Vl} {id n : Int} (h : rightB vs = true ∧ shapeB id n = true) (h2 : hasAt vs id = false) (h3 : vs.length ≠ 4) : addE vs id n = 0 ∧ addV vs id n = vs.take (findAt vs id) ++ (id, blankB n.toNat) :: vs.drop (findAt vs id) := by
  have e : addE vs id n = 0 := by unfold addE; rw [if_pos h, if_neg (by simp [h2]), if_neg h3]
  exact ⟨e, by unfold addV; rw [if_pos e]⟩

set_option maxHeartbeats 4000000 in
set_option maxRecDepth 100000 in
theorem Add_any {w : World} {A : Option Addr} {c : Nat} {vs : List Vl} (h : VolsAt w w.heap.size A vs) (hf : VolsFit vs) (id n : Int) :
    Calls Try.prog 13 #[.slice A vs.length c, .int .i64 id, .int .i64 n] w (VolsEnd (addV vs id n) (addE vs id n) w) := by
  have HV := Lib.hid h
  have HF := Lib.hid hf
  have hl := hf.1
  cases hr : rightB vs with
  | false =>
    rw [(addE_arg (fun hh => by rw [hr] at hh; exact absurd hh.1 (by simp))).1, (addE_arg (fun hh => by rw [hr] at hh; exact absurd hh.1 (by simp))).2]
    have HR := Lib.hid hr
    clear h hf hr
    go_enter Try.func13, Try.ntmps13
    go_wp2_with (go_at_call 20; refine (Right_any HV.out HF.out).mono ?_; rw [HR.out]; rintro e w1 ⟨rfl, hb⟩; replace hb := Lib.hid hb)
    go_ret2
    exact VolsEnd.none_ _ hb.out
  | true =>
    have HR := Lib.hid hr
    obtain ⟨hs4, hs32⟩ := right_small hr
    cases hs : shapeB id n with
    | false =>
      rw [(addE_arg (fun hh => by rw [hs] at hh; exact absurd hh.2 (by simp))).1, (addE_arg (fun hh => by rw [hs] at hh; exact absurd hh.2 (by simp))).2]
      have HS := Lib.hid hs
      clear h hf hr hs
      go_enter Try.func13, Try.ntmps13
      go_wp2_with (first
        | (go_at_call 20; refine (Right_any HV.out HF.out).mono ?_; rw [HR.out]; rintro e w1 ⟨rfl, hb⟩; replace hb := Lib.hid hb)
        | (go_at_call 31; refine (isShape_any _ _ _).mono ?_; rw [HS.out]; rintro e w' ⟨rfl, rfl⟩))
      go_ret2
      exact VolsEnd.none_ _ hb.out
    | true =>
      have HS := Lib.hid hs
      cases hh : hasAt vs id with
      | true =>
        rw [(addE_there ⟨hr, hs⟩ hh).1, (addE_there ⟨hr, hs⟩ hh).2]
        have HH := Lib.hid hh
        clear h hf hr hs hh
        go_enter Try.func13, Try.ntmps13
        go_wp2_with (first
          | (go_at_call 20; refine (Right_any HV.out HF.out).mono ?_; rw [HR.out]; rintro e w1 ⟨rfl, hb⟩; replace hb := Lib.hid hb)
          | (go_at_call 31; refine (isShape_any _ _ _).mono ?_; rw [HS.out]; rintro e w' ⟨rfl, rfl⟩)
          | (go_at_call 32; refine (find_any (HV.out.next hb.out) hl _).mono ?_; rw [HH.out]; rintro e w2 ⟨rfl, hb2⟩; have HB2 := Lib.hid (below_next hb.out hb2); clear hb2))
        go_ret2
        exact VolsEnd.none_ _ HB2.out
      | false =>
        have HH := Lib.hid hh
        by_cases h4 : vs.length = 4
        · rw [(addE_full ⟨hr, hs⟩ hh h4).1, (addE_full ⟨hr, hs⟩ hh h4).2]
          have h4' : ((vs.length : Int) == 4) = true := by simp [h4]
          clear h hf hr hs hh h4
          go_enter Try.func13, Try.ntmps13
          go_wp2_with (first
            | (go_at_call 20; refine (Right_any HV.out HF.out).mono ?_; rw [HR.out]; rintro e w1 ⟨rfl, hb⟩; replace hb := Lib.hid hb)
            | (go_at_call 31; refine (isShape_any _ _ _).mono ?_; rw [HS.out]; rintro e w' ⟨rfl, rfl⟩)
            | (go_at_call 32; refine (find_any (HV.out.next hb.out) hl _).mono ?_; rw [HH.out]; rintro e w2 ⟨rfl, hb2⟩; have HB2 := Lib.hid (below_next hb.out hb2); clear hb2))
          go_ret2
          exact VolsEnd.none_ _ HB2.out
        · rw [(addE_ok ⟨hr, hs⟩ hh h4).1, (addE_ok ⟨hr, hs⟩ hh h4).2]
          have h4' : ((vs.length : Int) == 4) = false := by rw [beq_eq_false_iff_ne]; omega
          have hn := ((shapeB_iff id n).1 hs).2.2
          obtain ⟨m, rfl⟩ := Int.eq_ofNat_of_zero_le (show 0 ≤ n by omega)
          rw [Int.toNat_natCast]
          have hat := findAt_le vs id
          have HC : Hid (∀ w2 c, Below w.heap.size w w2 → Calls Try.prog 34 #[.slice A vs.length c] w2 (CloneEnd vs w2)) := Lib.hid (fun w2 c hb => clone_any (h.next hb) (by omega) (fun v hv => by have := hs32 v hv; omega))
          clear h hf hr hs hh h4 hs32
          obtain ⟨k, hk⟩ : ∃ k, findAt vs id = k := ⟨_, rfl⟩
          have HK := Lib.hid hk
          rw [hk] at hat ⊢
          clear hk
          go_enter Try.func13, Try.ntmps13
          go_wp2_with (first
            | (go_at_call 20; refine (Right_any HV.out HF.out).mono ?_; rw [HR.out]; rintro e w1 ⟨rfl, hb⟩; replace hb := Lib.hid hb)
            | (go_at_call 31; refine (isShape_any _ _ _).mono ?_; rw [HS.out]; rintro e w' ⟨rfl, rfl⟩)
            | (go_at_call 32; refine (find_any (HV.out.next hb.out) hl _).mono ?_; rw [HH.out, HK.out]; rintro e w2 ⟨rfl, hb2⟩; have HB2 := Lib.hid (below_next hb.out hb2); clear hb2)
            | (go_at_call 34; refine (HC.out _ _ HB2.out).mono ?_; rintro e w3 ⟨v, us, rfl, hO, hb3⟩; have HO := Lib.hid hO; have HB3 := Lib.hid (below_next HB2.out hb3); clear hO hb3)
            | (go_at_call 35; refine (blank_any _ _ _ (by omega)).mono ?_; rintro e w4 ⟨g0, rfl, ho4, hb4, hg4⟩; have HO4 := Lib.hid ho4; have HB4 := Lib.hid hb4; clear ho4 hb4)
            | (go_at_call 33; refine (insert_add (w := w) HO.out HO4.out HB4.out hat (by omega) HB3.out HB2.out.size).mono ?_; rintro e w5 ⟨A5, cap5, rfl, hE⟩; have HE := Lib.hid hE; clear hE))
          go_ret2
          exact HE.out
end Go.Proofs.Ytphmemopabgaeaa
