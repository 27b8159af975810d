/- Contracts of Drop and Resize of the package vols. -/
import Derived.Test.YtphmemopabgaeaaVolS
namespace Go.Proofs.Ytphmemopabgaeaa
open Go.RowKit

theorem drop_end {w w3 w5 : World} {base at_ cap : Nat} {v : Value} {vs : List Vl} {us : List Value} {A : Option Addr} (hO : OwnV w3 base v vs us)
    (hl : Lies w5 w5.heap.size A ((volCells vs us).take (at_ * 2) ++ (volCells vs us).drop ((at_ + 1) * 2)))
    (hg : w3.grownBy w5 v.ownBlock) (hat : at_ < vs.length) (hbw : Below w.heap.size w w3) (hbase : w.heap.size ≤ base) :
    VolsEnd (vs.take at_ ++ vs.drop (at_ + 1)) 0 w (.returned (.tuple #[.slice A (vs.length - 1) cap, .int .i64 0])) w5 := by
  have hlen : (vs.take at_ ++ vs.drop (at_ + 1)).length = vs.length - 1 := by simp; omega
  refine ⟨A, cap, by rw [hlen], ?_, ?_⟩
  · have htk : (us.take at_).length = (vs.take at_).length := by rw [List.length_take, List.length_take, hO.len]
    refine VolsAt.of_zip (us := us.take at_ ++ us.drop (at_ + 1)) (by simp [hO.len]) ?_ (fun p hp => ?_)
    · rw [volCells_append htk, ← volCells_take hO.len, ← volCells_drop hO.len]
      exact hl
    · have hkeep : ∀ p ∈ vs.zip us, IsTexts w5 w5.heap.size p.2 p.1.2 := fun p hp => by
        obtain ⟨i, h1, h2, rfl⟩ := mem_zip_at hp
        refine own_texts ((hO.each i h1 h2).kept hg ?_)
        cases hq : us[i].ownBlock with
        | none => exact Or.inl rfl
        | some k => exact Or.inr (fun e => hO.gap i h2 k hq e.symm)
      rw [List.zip_append (by rw [List.length_take, List.length_take, hO.len])] at hp
      rcases List.mem_append.1 hp with hp | hp
      · exact hkeep p (mem_zip_take hp)
      · exact hkeep p (mem_zip_drop hp)
  · exact hbw.grown hg hbw.size (fun k hk => by have := (hO.row.lt k hk).1; omega)

theorem delete_drop {w w3 : World} {base at_ : Nat} {v : Value} {vs : List Vl} {us : List Value} (hO : OwnV w3 base v vs us) (hat : at_ < vs.length) (hn : vs.length ≤ 1000) (hbw : Below w.heap.size w w3) (hbase : w.heap.size ≤ base) :
    Calls Try.prog 37 #[v, .int .i64 at_, .int .i64 ((at_ : Int) + 1)] w3
      (fun e w5 => ∃ A cap, e = .returned (.slice A (vs.length - 1) cap) ∧ VolsEnd (vs.take at_ ++ vs.drop (at_ + 1)) 0 w (.returned (.tuple #[.slice A (vs.length - 1) cap, .int .i64 0])) w5) := by
  refine (Delete_any (xs := volCells vs us) (own_base hO.row (Nat.zero_le _)) hn hat hO.oneCells).mono ?_
  rintro e w5 ⟨A5, cap5, rfl, hl5, hg5⟩
  exact ⟨A5, cap5, rfl, drop_end hO hl5 hg5 hat hbw hbase⟩

theorem dropE_arg {vs : List Vl} {id : Int} (h : rightB vs = false) : dropE vs id = 1 ∧ dropV vs id = [] := by
  have e : dropE vs id = 1 := by unfold dropE; rw [if_neg (by simp [h])]
  exact ⟨e, by unfold dropV; rw [e]; rfl⟩
theorem dropE_none {vs : List Vl} {id : Int} (h : rightB vs = true) (h2 : hasAt vs id = false) : dropE vs id = 8 ∧ dropV vs id = [] := by
  have e : dropE vs id = 8 := by unfold dropE; rw [if_pos h, if_neg (by simp [h2])]
  exact ⟨e, by unfold dropV; rw [e]; rfl⟩
theorem dropE_ok {vs : List Vl} {id : Int} (h : rightB vs = true) (h2 : hasAt vs id = true) : dropE vs id = 0 ∧ dropV vs id = vs.take (findAt vs id) ++ vs.drop (findAt vs id + 1) := by
  have e : dropE vs id = 0 := by unfold dropE; rw [if_pos h, if_pos h2]
  exact ⟨e, by unfold dropV; rw [if_pos e]⟩

set_option maxHeartbeats 4000000 in
set_option maxRecDepth 100000 in
theorem Drop_any {w : World} {A : Option Addr} {c : Nat} {vs : List Vl} (h : VolsAt w w.heap.size A vs) (hf : VolsFit vs) (id : Int) :
    Calls Try.prog 15 #[.slice A vs.length c, .int .i64 id] w (VolsEnd (dropV vs id) (dropE vs id) w) := by
  have HV := Lib.hid h
  have HF := Lib.hid hf
  have hl := hf.1
  cases hr : rightB vs with
  | false =>
    rw [(dropE_arg hr).1, (dropE_arg hr).2]
    have HR := Lib.hid hr
    clear h hf hr
    go_enter Try.func15, Try.ntmps15
    go_wp2_with (go_at_call 20; refine (Right_any HV.out HF.out).mono ?_; rw [HR.out]; rintro e w1 ⟨rfl, hb⟩; replace hb := Lib.hid hb)
    go_ret2
    exact VolsEnd.none_ _ hb.out
  | true =>
    have HR := Lib.hid hr
    obtain ⟨hs4, hs32⟩ := right_small hr
    cases hh : hasAt vs id with
    | false =>
      rw [(dropE_none hr hh).1, (dropE_none hr hh).2]
      have HH := Lib.hid hh
      clear h hf hr hh
      go_enter Try.func15, Try.ntmps15
      go_wp2_with (first
        | (go_at_call 20; refine (Right_any HV.out HF.out).mono ?_; rw [HR.out]; rintro e w1 ⟨rfl, hb⟩; replace hb := Lib.hid hb)
        | (go_at_call 32; refine (find_any (HV.out.next hb.out) hl _).mono ?_; rw [HH.out]; rintro e w2 ⟨rfl, hb2⟩; have HB2 := Lib.hid (below_next hb.out hb2); clear hb2))
      go_ret2
      exact VolsEnd.none_ _ HB2.out
    | true =>
      rw [(dropE_ok hr hh).1, (dropE_ok hr hh).2]
      have hat := hasAt_lt hh
      have HH := Lib.hid hh
      have HC : Hid (∀ w2 c, Below w.heap.size w w2 → Calls Try.prog 34 #[.slice A vs.length c] w2 (CloneEnd vs w2)) := Lib.hid (fun w2 c hb => clone_any (h.next hb) (by omega) (fun v hv => by have := hs32 v hv; omega))
      clear h hf hr hh hs32
      obtain ⟨k, hk⟩ : ∃ k, findAt vs id = k := ⟨_, rfl⟩
      have HK := Lib.hid hk
      rw [hk] at hat ⊢
      clear hk
      go_enter Try.func15, Try.ntmps15
      go_wp2_with (first
        | (go_at_call 20; refine (Right_any HV.out HF.out).mono ?_; rw [HR.out]; rintro e w1 ⟨rfl, hb⟩; replace hb := Lib.hid hb)
        | (go_at_call 32; refine (find_any (HV.out.next hb.out) hl _).mono ?_; rw [HH.out, HK.out]; rintro e w2 ⟨rfl, hb2⟩; have HB2 := Lib.hid (below_next hb.out hb2); clear hb2)
        | (go_at_call 34; refine (HC.out _ _ HB2.out).mono ?_; rintro e w3 ⟨v, us, rfl, hO, hb3⟩; have HO := Lib.hid hO; have HB3 := Lib.hid (below_next HB2.out hb3); clear hO hb3)
        | (go_at_call 37; refine (delete_drop (w := w) HO.out hat (by omega) HB3.out HB2.out.size).mono ?_; rintro e w5 ⟨A5, cap5, rfl, hE⟩; have HE := Lib.hid hE; clear hE))
      go_ret2
      exact HE.out

theorem resE_arg {vs : List Vl} {id n : Int} (h : ¬ (rightB vs = true ∧ sizeB n = true)) : resE vs id n = 1 ∧ resV vs id n = [] := by
  have e : resE vs id n = 1 := by unfold resE; rw [if_neg h]
  exact ⟨e, by unfold resV; rw [e]; rfl⟩
theorem resE_none {vs : List Vl} {id n : Int} (h : rightB vs = true ∧ sizeB n = true) (h2 : hasAt vs id = false) : resE vs id n = 8 ∧ resV vs id n = [] := by
  have e : resE vs id n = 8 := by unfold resE; rw [if_pos h, if_neg (by simp [h2])]
  exact ⟨e, by unfold resV; rw [e]; rfl⟩
theorem resE_ok {vs : List Vl} {id n : Int} (h : rightB vs = true ∧ sizeB n = true) (h2 : hasAt vs id = true) : resE vs id n = 0 ∧ resV vs id n = vs.set (findAt vs id) (id, resized (vs.getD (findAt vs id) (0, [])).2 n.toNat) := by
  have e : resE vs id n = 0 := by unfold resE; rw [if_pos h, if_pos h2]
  exact ⟨e, by unfold resV; rw [if_pos e]⟩

/-- The world behind 'out[at] = blank(id, n)'. -/
def resW (w4 : World) (g k g0 m : Nat) (id : Int) : World := (w4.setCell ⟨g, k * 2, none⟩ (.int .i64 id)).setCell ⟨g, k * 2 + 1, none⟩ (.slice (some ⟨g0, 0, none⟩) m m)
/-- What is copied. -/
def resC (bs : List ByteArray) (m : Nat) : List Value := (bs.take m).map Value.string
theorem resC_length (bs : List ByteArray) (m : Nat) : (resC bs m).length = min m bs.length := by simp [resC]
theorem resC_one (bs : List ByteArray) (m : Nat) : ∀ u ∈ resC bs m, u.oneCell' = true := by
  intro u hu
  obtain ⟨s, _, rfl⟩ := List.mem_map.1 hu
  rfl

theorem resized_length (bs : List ByteArray) (m : Nat) : (resized bs m).length = m := by
  unfold resized
  rw [List.length_append, List.length_take, blankB_length]
  omega

section
variable {w w2 w3 w4 : World} {g cap k g0 m : Nat} {id : Int} {vs : List Vl} {us : List Value} {A : Option Addr}

theorem resW_row (hO : OwnV w3 w2.heap.size (.slice (some ⟨g, 0, none⟩) vs.length cap) vs us) (hb4 : Below w3.heap.size w3 w4) (X : List ByteArray) :
    (resW w4 g k g0 m id).ownsRow w2.heap.size 47 2 (.slice (some ⟨g, 0, none⟩) vs.length cap) vs.length (volCells (vs.set k (id, X)) (us.set k (.slice (some ⟨g0, 0, none⟩) m m))) ∧ w4.grownBy (resW w4 g k g0 m id) (some g) := by
  have h4 := own_kept hO.row hb4
  have h5 := h4.stored (k * 2) (.int .i64 id)
  rw [volCells_id hO.len k (id, X)] at h5
  have h6 := h5.1.stored (k * 2 + 1) (.slice (some ⟨g0, 0, none⟩) m m)
  rw [volCells_set (by simp [hO.len])] at h6
  exact ⟨h6.1, h5.2.trans h6.2⟩

/-- The run of the copy. -/
theorem res_copy (ho4 : w4.ownsRow w3.heap.size 9 1 (.slice (some ⟨g0, 0, none⟩) m m) m ((blankB m).map Value.string)) (hg0 : g0 ≠ g) {a : Option Addr} {bs : List ByteArray} (hbs : 1 ≤ bs.length)
    (hl : Lies (resW w4 g k g0 m id) w.heap.size a (bs.map Value.string)) :
    ∃ ad, a = some ad ∧ ∀ ty c', (Builtin.copy_ #[45, 45] ty #[.slice (some ⟨g0, 0, none⟩) m m, .slice (some ad) bs.length c']).run Try.prog (resW w4 g k g0 m id).drew = .ok (goInt (Nat.min bs.length m)) ((resW w4 g k g0 m id).drew.setCells g0 0 (resC bs m)) := by
  obtain ⟨b2, off2, rfl, _, hc⟩ := hl.at_ (by intro e; simp at e; subst e; simp at hbs)
  have hblk : (resW w4 g k g0 m id).heap[g0]? = w4.heap[g0]? := by
    unfold resW
    rw [Below.heap_setCell _ _ _ _ hg0, Below.heap_setCell _ _ _ _ hg0]
  refine ⟨_, rfl, fun ty c' => ?_⟩
  refine run_copy_k (resW w4 g k g0 m id).drew 1 _ _ ty 9 g0 0 m m ⟨b2, off2, none⟩ bs.length c' (resC bs m) Try.underlying45 (by kernel_rfl) ?_ ?_ ?_ ?_ (resC_one _ _)
  · rw [resC_length, Nat.mul_one, Nat.min_comm]
  · intro j u hu
    rw [WideShapes.add_plain]
    obtain ⟨hj1, hj2⟩ := List.getElem?_eq_some_iff.1 hu
    rw [resC_length] at hj1
    show (resW w4 g k g0 m id).cell? _ = _
    rw [hc j (by simp; omega)]
    rw [← hj2]
    simp [resC]
  · intro j hj
    rw [resC_length] at hj
    show ((resW w4 g k g0 m id).cell? _).isSome = true
    rw [World.cell?_of_block hblk, Nat.zero_add, ho4.cellAt j (by omega)]
    simp [blankB]
    omega
  · intro j hj
    show (resW w4 g k g0 m id).frozen? _ = false
    rw [World.frozen?_of_block hblk, ho4.frozenAt]

theorem res_end (hO : OwnV w3 w2.heap.size (.slice (some ⟨g, 0, none⟩) vs.length cap) vs us) (hb4 : Below w3.heap.size w3 w4)
    (ho4 : w4.ownsRow w3.heap.size 9 1 (.slice (some ⟨g0, 0, none⟩) m m) m ((blankB m).map Value.string)) (hk : k < vs.length) (hbw : Below w.heap.size w w3) (hbase : w.heap.size ≤ w2.heap.size) :
    VolsEnd (vs.set k (id, resized vs[k].2 m)) 0 w (.returned (.tuple #[.slice (some ⟨g, 0, none⟩) vs.length cap, .int .i64 0])) ((resW w4 g k g0 m id).drew.setCells g0 0 (resC vs[k].2 m)) := by
  obtain ⟨hrow, hgr⟩ := resW_row (k := k) (g0 := g0) (m := m) (id := id) hO hb4 (resized vs[k].2 m)
  have hgw := (hO.row.lt g rfl)
  have hg0w := (ho4.lt g0 rfl)
  have hne : g ≠ g0 := by omega
  have hgr2 : (resW w4 g k g0 m id).grownBy ((resW w4 g k g0 m id).drew.setCells g0 0 (resC vs[k].2 m)) (some g0) := grown_setCells (grown_drew (grown_refl _ _)) _ _
  have hrow2 := hrow.kept hgr2 (Or.inr (by simp only [Value.ownBlock, ne_eq, Option.some.injEq]; exact hne))
  have hblk : (resW w4 g k g0 m id).heap[g0]? = w4.heap[g0]? := by
    unfold resW
    rw [Below.heap_setCell _ _ _ _ (Ne.symm hne), Below.heap_setCell _ _ _ _ (Ne.symm hne)]
  have hz : ((resW w4 g k g0 m id).drew.setCells g0 0 (resC vs[k].2 m)).heap.size = w4.heap.size := by
    rw [size_setCells]; show (resW w4 g k g0 m id).heap.size = _; unfold resW; simp
  have hlen : (vs.set k (id, resized vs[k].2 m)).length = vs.length := by simp
  refine ⟨_, cap, by rw [hlen], ?_, ?_⟩
  · obtain ⟨A', c', hv, _, hl⟩ := own_lies hrow2
    simp only [Value.slice.injEq] at hv
    obtain ⟨rfl, _, _⟩ := hv
    refine VolsAt.of_rows (us := us.set k (.slice (some ⟨g0, 0, none⟩) m m)) (by simp [hO.len]) hl (fun i h1 h2 => ?_)
    have h1' : i < vs.length := by simpa using h1
    have h2' : i < us.length := by simpa using h2
    by_cases e : k = i
    · subst e
      rw [List.getElem_set_self, List.getElem_set_self]
      refine ⟨some ⟨g0, 0, none⟩, m, by rw [resized_length], .inr ⟨g0, 0, rfl, by rw [hz]; omega, fun j hj => ?_⟩⟩
      have hj' : j < m := by rw [List.length_map, resized_length] at hj; exact hj
      have hs : ∀ t, t < (resC vs[k].2 m).length → ((resW w4 g k g0 m id).drew.cell? ⟨g0, 0 + t, none⟩).isSome = true := fun t ht => by
        rw [resC_length] at ht
        show ((resW w4 g k g0 m id).cell? _).isSome = true
        rw [World.cell?_of_block hblk, Nat.zero_add, ho4.cellAt t (by omega)]
        simp [blankB]
        omega
      by_cases c1 : j < vs[k].2.length
      · have hj2 : j < (resC vs[k].2 m).length := by rw [resC_length]; omega
        rw [World.cell?_setCells_in g0 (resC vs[k].2 m) 0 _ hs j hj2]
        simp only [resC, resized, List.getElem_map]
        rw [List.getElem_append_left (by rw [List.length_take]; omega)]
      · rw [World.cell?_setCells_out g0 (resC vs[k].2 m) 0 _ _ (fun _ _ => Or.inr (by show 0 + (resC vs[k].2 m).length ≤ 0 + j; rw [resC_length]; omega))]
        show (resW w4 g k g0 m id).cell? _ = _
        rw [World.cell?_of_block hblk, Nat.zero_add, ho4.cellAt j (by omega)]
        simp only [resized, List.getElem_map]
        rw [List.getElem_append_right (by rw [List.length_take]; omega)]
        simp [blankB, hj']
    · rw [List.getElem_set_ne e, List.getElem_set_ne e]
      have h3 := (own_kept (hO.each i h1' h2') hb4).kept hgr (by
        cases hq : us[i].ownBlock with
        | none => exact Or.inl rfl
        | some b => exact Or.inr (fun e => by cases e; exact hO.gap i h2' g hq rfl))
      have h4 := h3.kept hgr2 (by
        cases hq : us[i].ownBlock with
        | none => exact Or.inl rfl
        | some b => exact Or.inr (fun e => by cases e; have := ((hO.each i h1' h2').lt g0 hq).2; omega))
      exact own_texts h4
  · have h1 : Below w.heap.size w w4 := hbw.trans (hb4.mono hbw.size)
    have h2 : Below w.heap.size w (resW w4 g k g0 m id) := h1.grown hgr h1.size (fun q hq => by cases hq; omega)
    exact h2.grown hgr2 h2.size (fun q hq => by cases hq; have := hbw.size; omega)
end

set_option maxHeartbeats 4000000 in
set_option maxRecDepth 100000 in
theorem Resize_any {w : World} {A : Option Addr} {c : Nat} {vs : List Vl} (h : VolsAt w w.heap.size A vs) (hf : VolsFit vs) (id n : Int) :
    Calls Try.prog 17 #[.slice A vs.length c, .int .i64 id, .int .i64 n] w (VolsEnd (resV vs id n) (resE vs id n) w) := by
  have HV := Lib.hid h
  have HF := Lib.hid hf
  have hl := hf.1
  cases hr : rightB vs with
  | false =>
    rw [(resE_arg (fun hh => by rw [hr] at hh; exact absurd hh.1 (by simp))).1, (resE_arg (fun hh => by rw [hr] at hh; exact absurd hh.1 (by simp))).2]
    have HR := Lib.hid hr
    clear h hf hr
    go_enter Try.func17, Try.ntmps17
    go_wp2_with (go_at_call 20; refine (Right_any HV.out HF.out).mono ?_; rw [HR.out]; rintro e w1 ⟨rfl, hb⟩; replace hb := Lib.hid hb)
    go_ret2
    exact VolsEnd.none_ _ hb.out
  | true =>
    have HR := Lib.hid hr
    obtain ⟨hs4, hs32⟩ := right_small hr
    cases hs : sizeB n with
    | false =>
      rw [(resE_arg (fun hh => by rw [hs] at hh; exact absurd hh.2 (by simp))).1, (resE_arg (fun hh => by rw [hs] at hh; exact absurd hh.2 (by simp))).2]
      have HS := Lib.hid hs
      clear h hf hr hs
      go_enter Try.func17, Try.ntmps17
      go_wp2_with (first
        | (go_at_call 20; refine (Right_any HV.out HF.out).mono ?_; rw [HR.out]; rintro e w1 ⟨rfl, hb⟩; replace hb := Lib.hid hb)
        | (go_at_call 38; refine (isSize_any _ _).mono ?_; rw [HS.out]; rintro e w' ⟨rfl, rfl⟩))
      go_ret2
      exact VolsEnd.none_ _ hb.out
    | true =>
      have HS := Lib.hid hs
      cases hh : hasAt vs id with
      | false =>
        rw [(resE_none ⟨hr, hs⟩ hh).1, (resE_none ⟨hr, hs⟩ hh).2]
        have HH := Lib.hid hh
        clear h hf hr hs hh
        go_enter Try.func17, Try.ntmps17
        go_wp2_with (first
          | (go_at_call 20; refine (Right_any HV.out HF.out).mono ?_; rw [HR.out]; rintro e w1 ⟨rfl, hb⟩; replace hb := Lib.hid hb)
          | (go_at_call 38; refine (isSize_any _ _).mono ?_; rw [HS.out]; rintro e w' ⟨rfl, rfl⟩)
          | (go_at_call 32; refine (find_any (HV.out.next hb.out) hl _).mono ?_; rw [HH.out]; rintro e w2 ⟨rfl, hb2⟩; have HB2 := Lib.hid (below_next hb.out hb2); clear hb2))
        go_ret2
        exact VolsEnd.none_ _ HB2.out
      | true =>
        rw [(resE_ok ⟨hr, hs⟩ hh).1, (resE_ok ⟨hr, hs⟩ hh).2]
        have hn : 1 ≤ n ∧ n ≤ 32 := by simpa [sizeB] using hs
        obtain ⟨m, rfl⟩ := Int.eq_ofNat_of_zero_le (show 0 ≤ n by omega)
        rw [Int.toNat_natCast]
        have hat := hasAt_lt hh
        have HH := Lib.hid hh
        have HC : Hid (∀ w2 c, Below w.heap.size w w2 → Calls Try.prog 34 #[.slice A vs.length c] w2 (CloneEnd vs w2)) := Lib.hid (fun w2 c hb => clone_any (h.next hb) (by omega) (fun v hv => by have := hs32 v hv; omega))
        clear h hf hr hs hh hs32
        obtain ⟨k, hk⟩ : ∃ k, findAt vs id = k := ⟨_, rfl⟩
        have HK := Lib.hid hk
        rw [hk] at hat ⊢
        clear hk
        go_enter Try.func17, Try.ntmps17
        go_wp2_with (first
          | (go_at_call 20; refine (Right_any HV.out HF.out).mono ?_; rw [HR.out]; rintro e w1 ⟨rfl, hb⟩; replace hb := Lib.hid hb)
          | (go_at_call 38; refine (isSize_any _ _).mono ?_; rw [HS.out]; rintro e w' ⟨rfl, rfl⟩)
          | (go_at_call 32; refine (find_any (HV.out.next hb.out) hl _).mono ?_; rw [HH.out, HK.out]; rintro e w2 ⟨rfl, hb2⟩; have HB2 := Lib.hid (below_next hb.out hb2); clear hb2)
          | (go_at_call 34; refine (HC.out _ _ HB2.out).mono ?_; rintro e w3 ⟨v, us, rfl, hO, hb3⟩; have HO := Lib.hid hO; have HB3 := Lib.hid (below_next HB2.out hb3); clear hO hb3; obtain ⟨g, cap, hv, hg1, hg2⟩ := HO.out.row.form (by omega); subst hv)
          | (go_at_call 35; refine (blank_any _ _ _ (by omega)).mono ?_; rintro e w4 ⟨g0, rfl, ho4, hb4, hg4⟩; have HO4 := Lib.hid ho4; have HB4 := Lib.hid hb4; have hrow4 := own_kept HO.out.row hb4; have hc0 := hrow4.cellAt (k * 2) (by omega); have hc1 := hrow4.cellAt (k * 2 + 1) (by omega); have hf0 := hrow4.frozenAt (k * 2); have hf1 := hrow4.frozenAt (k * 2 + 1); rw [volCells_fst HO.out.len hat] at hc0; rw [volCells_snd HO.out.len hat, List.getElem?_eq_getElem (by rw [HO.out.len]; exact hat)] at hc1; clear ho4 hb4 hrow4))
        have hBW : Below w.heap.size w (resW w4 g k g0 m id) := by
          have h1 : Below w.heap.size w w4 := HB3.out.trans (HB4.out.mono HB3.out.size)
          have h2 := (HO.out.row.lt g rfl).1
          have h3 := HB2.out.size
          exact h1.grown (resW_row HO.out HB4.out []).2 h1.size (fun q hq => by cases hq; omega)
        have hcg : (resW w4 g k g0 m id).cell? ⟨g, k * 2 + 1, none⟩ = some (.slice (some ⟨g0, 0, none⟩) m m) := by
          have h1 := (resW_row (k := k) (g0 := g0) (m := m) (id := id) HO.out HB4.out []).1
          rw [h1.cellAt _ (by omega), volCells_snd (by simp [HO.out.len]) (by simpa using hat)]
          simp [HO.out.len, hat]
        have hb1 : 1 ≤ vs[k].2.length := by have := (volOk_iff _).1 (goodFrom_ok (rightB_good HR.out) _ (List.getElem_mem hat)); omega
        have hne : g0 ≠ g := by have := (HO4.out.lt g0 rfl).1; omega
        obtain ⟨b, off, a, c', hA, hbl, x1, x2, hly⟩ := HV.out.at_ hBW hat
        obtain ⟨ad, ha, hcp⟩ := res_copy HO4.out hne hb1 hly
        have HE : Hid (VolsEnd (vs.set k (id, resized (vs.getD k (0, [])).2 m)) 0 w (.returned (.tuple #[.slice (some ⟨g, 0, none⟩) vs.length cap, .int .i64 0])) ((resW w4 g k g0 m id).drew.setCells g0 0 (resC vs[k].2 m))) := Lib.hid (by
          have := res_end (k := k) (id := id) HO.out HB4.out HO4.out hat HB3.out HB2.out.size
          rwa [show vs.getD k (0, []) = vs[k] from by rw [List.getD_eq_getElem?_getD, List.getElem?_eq_getElem hat]; rfl])
        obtain ⟨C, hC⟩ : ∃ C, resC vs[k].2 m = C := ⟨_, rfl⟩
        rw [hC] at hcp HE
        obtain ⟨p, hp⟩ : ∃ p, vs[k].2.length = p := ⟨_, rfl⟩
        rw [hp] at hcp x2
        subst ha
        subst hA
        have hk0 : (0 : Int) ≤ (k : Int) := Int.natCast_nonneg _
        have hk8 : (k : Int) < (vs.length : Int) := by omega
        change Code.wp _ _ _ _ (resW w4 g k g0 m id)
        clear hC hp hly x1 hb1 hc0 hc1 hf0 hf1 HO4 HB4 HO HB3 HC hBW hl hg1 hg2 hg4 hne
        generalize resW w4 g k g0 m id = W at *
        have mixed : Try.prog.follows Departure.mixedOrders = true := by kernel_rfl
        go_region_law_o (refine step_copy_run rfl _ _ 45 45 rfl _ _ (by simp [Act.eval]) (by simp [Act.eval]) (hcp _ _) ?_)
        all_goals
          go_wp2_with fail
          go_ret2
          exact HE.out
end Go.Proofs.Ytphmemopabgaeaa
