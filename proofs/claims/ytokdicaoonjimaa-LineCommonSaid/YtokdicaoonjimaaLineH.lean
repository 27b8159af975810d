/- Lineages: contracts of slices.Clone of branches and of Grow. -/
import Derived.Test.YtokdicaoonjimaaLineG
namespace Go.Proofs.Ytokdicaoonjimaa
open Go.RowKit

theorem Try.infoBr : (Try.prog.info? 31).map (fun i => (i.zero, i.size, i.bytes)) = some (some (.agg #[.int .i64 0, .int .i64 0]), 2, 16) := by kernel_rfl
/-- A row of the call's own comes back. -/
def OwnEnd (t : TypeId) (size n : Nat) (cs : List Value) (w : World) (e : Ending) (w' : World) : Prop :=
  ∃ v, e = .returned v ∧ w'.ownsRow w.heap.size t size v n cs ∧ Below w.heap.size w w'

set_option maxHeartbeats 800000 in
theorem CloneB_any {w : World} {A : Option Addr} {n c : Nat} {cs : List Value} (h : Lies w w.heap.size A cs) (hl : cs.length = n * 2) (hn : n ≤ 1000) (h1 : ∀ u ∈ cs, u.oneCell' = true) :
    Calls Try.prog 29 #[.slice A n c] w (OwnEnd 31 2 n cs w) := by
  obtain ⟨i0, hi0, hz0, hz1, hz2⟩ := info_parts Try.infoBr
  have hnil := run_eql_slice_nil (P := Try.prog) w 22 31 A n c Try.underlying22
  have HL := Lib.hid h
  have HLen := Lib.hid hl
  cases A with
  | none =>
    have h0 : cs = [] := by
      rcases h with h | ⟨b, off, hA, _⟩
      · exact h
      · cases hA
    have h00 : n = 0 := by rw [h0] at hl; simp at hl; omega
    have HE : Hid (OwnEnd 31 2 n cs w (.returned (.slice none 0 0)) w) := Lib.hid ⟨_, rfl, by rw [h0, h00]; exact World.ownsRow_nil _ _ _ _, Below.refl _ _⟩
    clear h hl h0 h00 hi0 hz0 hz1 hz2
    go_enter Try.func29, Try.ntmps29
    go_wp2
    go_ret
    exact HE.out
  | some x =>
    have HC : Hid (∀ j u, cs[j]? = some u → (w.alloc (.cells #[] 31)).cell? (x.add j) = some u) := Lib.hid (fun j u hj => by
      rcases h with h | ⟨b, off, hA, hb, hc⟩
      · rw [h] at hj; simp at hj
      · cases hA
        obtain ⟨hj1, hj2⟩ := List.getElem?_eq_some_iff.1 hj
        rw [WideShapes.add_plain, ((Below.refl w.heap.size w).alloc (Nat.le_refl _) _).cell (p := ⟨b, off + j, none⟩) hb, hc j hj1, hj2])
    clear h hl
    go_enter Try.func29, Try.ntmps29
    go_wp2_with (at_builtin; refine wpList_append_own _ rfl (.tmp 5) (.tmp 6) 22 rfl w.heap.size 31 i0 (.agg #[.int .i64 0, .int .i64 0]) 2 16 Try.underlying22 hi0 hz0 hz1 hz2 rfl (by decide) (.slice (some ⟨w.heap.size, 0, none⟩) 0 0) 0 [] rfl (World.ownsRow_made w #[] 0 (Nat.le_refl _) (Nat.zero_le _) rfl) x n c cs rfl HLen.out HC.out h1 ?c4 ?c5 ?c6 ?_)
    case c4 => unfold maxLen; omega
    case c5 => omega
    case c6 => simp
    intro v' w2 hown hg _
    have HE : Hid (OwnEnd 31 2 n cs w (.returned v') w2) := by
      refine Lib.hid ⟨_, rfl, by simpa using hown, ?_⟩
      refine ((Below.refl w.heap.size w).alloc (Nat.le_refl _) _).grown hg (by simp) (fun k hk => ?_)
      simp only [Value.ownBlock, Option.some.injEq] at hk
      omega
    clear hown hg
    go_wp2
    go_ret
    exact HE.out

theorem growE_eq (l : List Br) (ep at_ : Int) : growE l ep at_ = if (lineOk l && brOk (lastB l).1 (lastB l).2 (ep, at_)) = true then (if l.length ≤ 63 then 0 else 6) else 1 := by
  unfold growE brOk
  have e : (decide (ep ≤ 1099511627776 ∧ at_ ≤ 1099511627776 ∧ (lastB l).1 < ep ∧ (lastB l).2 ≤ at_)) = decide ((lastB l).1 < ep ∧ ep ≤ 1099511627776 ∧ (lastB l).2 ≤ at_ ∧ at_ ≤ 1099511627776) := by
    rw [Bool.eq_iff_iff, decide_eq_true_iff, decide_eq_true_iff]
    exact ⟨fun h => ⟨h.2.2.1, h.1, h.2.2.2, h.2.1⟩, fun h => ⟨h.2.1, h.2.2.2, h.1, h.2.2.1⟩⟩
  rw [e]
theorem grow_a {l : List Br} {ep at_ : Int} (h : lineOk l = false) : growE l ep at_ = 1 ∧ growL l ep at_ = [] := by
  have e : growE l ep at_ = 1 := by rw [growE_eq, h]; simp
  exact ⟨e, by unfold growL; rw [if_neg (by omega)]⟩
theorem grow_b {l : List Br} {ep at_ : Int} (h : brOk (lastB l).1 (lastB l).2 (ep, at_) = false) : growE l ep at_ = 1 ∧ growL l ep at_ = [] := by
  have e : growE l ep at_ = 1 := by rw [growE_eq, h]; simp
  exact ⟨e, by unfold growL; rw [if_neg (by omega)]⟩
theorem grow_f {l : List Br} {ep at_ : Int} (h1 : lineOk l = true) (h : brOk (lastB l).1 (lastB l).2 (ep, at_) = true) (hl : ¬ l.length ≤ 63) : growE l ep at_ = 6 ∧ growL l ep at_ = [] := by
  have e : growE l ep at_ = 6 := by rw [growE_eq, h1, h]; simp; omega
  exact ⟨e, by unfold growL; rw [if_neg (by omega)]⟩
theorem grow_y {l : List Br} {ep at_ : Int} (h1 : lineOk l = true) (h : brOk (lastB l).1 (lastB l).2 (ep, at_) = true) (hl : l.length ≤ 63) : growE l ep at_ = 0 ∧ growL l ep at_ = l ++ [(ep, at_)] := by
  have e : growE l ep at_ = 0 := by rw [growE_eq, h1, h]; simp; omega
  exact ⟨e, by unfold growL; rw [if_pos e]⟩

theorem grow_end {w V w7 : World} {base g cap : Nat} {l : List Br} {ep at_ : Int} (hV : Below w.heap.size w V) (h7 : Below V.heap.size V w7) (ho : w7.ownsRow base 31 2 (.slice (some ⟨g, 0, none⟩) (l.length + 1) cap) (l.length + 1) (brCells l ++ [.int .i64 ep, .int .i64 at_])) (hb : brCells (l ++ [(ep, at_)]) = brCells l ++ brCells [(ep, at_)]) :
    BrsEnd (l ++ [(ep, at_)]) (.int .i64 0) w (.returned (.tuple #[.slice (some ⟨g, 0, none⟩) (l.length + 1) cap, .int .i64 0])) w7 := by
  obtain ⟨A9, c9, h9, _, hl9⟩ := own_lies ho
  simp only [Value.slice.injEq] at h9
  obtain ⟨rfl, _, rfl⟩ := h9
  refine ⟨some ⟨g, 0, none⟩, cap, by simp, BrsAt.of_lies ?_, hV.trans (h7.mono hV.size)⟩
  rw [hb]; exact hl9

set_option maxHeartbeats 8000000 in
set_option maxRecDepth 100000 in
theorem Grow_any {w : World} {A : Option Addr} {c : Nat} {l : List Br} (ep at_ : Int) (h : BrsAt w w.heap.size A l) (hl : l.length ≤ 9223372036854775807) :
    Calls Try.prog 12 #[.slice A l.length c, .int .i64 ep, .int .i64 at_] w (BrsEnd (growL l ep at_) (.int .i64 (growE l ep at_)) w) := by
  obtain ⟨V, hV⟩ : ∃ V, V = w.alloc (.cells #[.int .i64 ep, .int .i64 at_] 31 (0, 0)) := ⟨_, rfl⟩
  have HBV : Hid (Below w.heap.size w V) := Lib.hid (by rw [hV]; exact below_one _ _)
  have HT : Hid (TwoAtB V w.heap.size ep at_) := Lib.hid (by rw [hV]; exact TwoAtB.new _ _ _)
  have HV := Lib.hid hV
  have HR := Lib.hid (fun (z : LatW V) c => Right_any (c := c) (h.lat HBV.out z) hl)
  have HA := Lib.hid (fun (z : LatW V) => h.lat HBV.out z)
  clear hV
  cases ok : lineOk l with
  | false =>
    rw [(grow_a ok).1, (grow_a ok).2]
    rw [ok] at HR
    clear HA h
    go_enter Try.func12, Try.ntmps12
    go_wp2_with fail
    rw [← HV.out]
    have c0 : ∀ z : LatW V, z.wd.cell? ⟨w.heap.size, 0, none⟩ = some (.int .i64 ep) := fun z => (HT.out.below z.bel).c0
    have c1 : ∀ z : LatW V, z.wd.cell? ⟨w.heap.size, 1, none⟩ = some (.int .i64 at_) := fun z => (HT.out.below z.bel).c1
    generalize w.heap.size = H at c0 c1 ⊢
    refine wp_region_later (by kernel_rfl) (by kernel_rfl) ?_
    repeat (first | go_big_quiet_skip | quiet_step (first | (go_at_call 16; exact Calls.later_of (HR.out _ _))))
    refine wpQuiet_nil ?_
    intro w9 hw9
    obtain ⟨p9, hw9'⟩ := hw9
    subst hw9'
    go_wp2_with fail
    go_ret2
    exact BrsEnd.none_ _ (HBV.out.trans (p9.bel.mono HBV.out.size))
  | true =>
  rw [ok] at HR
  have HE := Lib.hid (fun (z : LatW V) c => end_any (c := c) (h.lat HBV.out z) (lineOk_ne ok) hl)
  have HG1 := Lib.hid (@grow_b l ep at_)
  have HG2 := Lib.hid (@grow_f l ep at_ ok)
  have HG3 := Lib.hid (@grow_y l ep at_ ok)
  obtain ⟨v1, hv1⟩ : ∃ v, (lastB l).1 = v := ⟨_, rfl⟩
  obtain ⟨v2, hv2⟩ : ∃ v, (lastB l).2 = v := ⟨_, rfl⟩
  rw [hv1, hv2] at HE HG1 HG2 HG3
  have HF := Lib.hid (fun w => follows_any v1 v2 ep at_ w)
  clear hv1 hv2
  cases ok2 : brOk v1 v2 (ep, at_) with
  | false =>
    rw [(HG1.out ok2).1, (HG1.out ok2).2]
    rw [ok2] at HF
    clear HG1 HG2 HG3 HA h
    go_enter Try.func12, Try.ntmps12
    go_wp2_with fail
    rw [← HV.out]
    have c0 : ∀ z : LatW V, z.wd.cell? ⟨w.heap.size, 0, none⟩ = some (.int .i64 ep) := fun z => (HT.out.below z.bel).c0
    have c1 : ∀ z : LatW V, z.wd.cell? ⟨w.heap.size, 1, none⟩ = some (.int .i64 at_) := fun z => (HT.out.below z.bel).c1
    generalize w.heap.size = H at c0 c1 ⊢
    refine wp_region_later (by kernel_rfl) (by kernel_rfl) ?_
    repeat (first | go_big_quiet_skip | quiet_step (first | (go_at_call 16; exact Calls.later_of (HR.out _ _)) | (go_at_call 28; exact Calls.later_of (HE.out _ _)) | (go_at_call 27; exact Calls.later_of (HF.out _))))
    refine wpQuiet_nil ?_
    intro w9 hw9
    obtain ⟨p9, hw9'⟩ := hw9
    subst hw9'
    go_wp2_with fail
    go_ret2
    exact BrsEnd.none_ _ (HBV.out.trans (p9.bel.mono HBV.out.size))
  | true =>
    rw [ok2] at HF
    have hn64 := ((lineOk_iff l).1 ok).1
    by_cases hlen : l.length ≤ 63
    · rw [(HG3.out ok2 hlen).1, (HG3.out ok2 hlen).2]
      have HC := Lib.hid (fun (z : LatW V) c => CloneB_any (c := c) (HA.out z).lies (brCells_length l) (by omega) (brCells_one l))
      have HB := Lib.hid (brCells_append l [(ep, at_)])
      obtain ⟨i0, hi0, hz0, hz1, hz2⟩ := info_parts Try.infoBr
      have hne : ((l.length : Int) == 64) = false := by rw [beq_eq_false_iff_ne]; omega
      clear HG1 HG2 HG3 ok ok2 h
      go_enter Try.func12, Try.ntmps12
      go_wp2_with fail
      rw [← HV.out]
      have c0 : ∀ z : LatW V, z.wd.cell? ⟨w.heap.size, 0, none⟩ = some (.int .i64 ep) := fun z => (HT.out.below z.bel).c0
      have c1 : ∀ z : LatW V, z.wd.cell? ⟨w.heap.size, 1, none⟩ = some (.int .i64 at_) := fun z => (HT.out.below z.bel).c1
      generalize w.heap.size = H at c0 c1 ⊢
      refine wp_region_later (by kernel_rfl) (by kernel_rfl) ?_
      repeat (first | go_big_quiet_skip | quiet_step (first | (go_at_call 16; exact Calls.later_of (HR.out _ _)) | (go_at_call 28; exact Calls.later_of (HE.out _ _)) | (go_at_call 27; exact Calls.later_of (HF.out _))))
      refine wpQuiet_nil ?_
      intro w9 hw9
      obtain ⟨p9, hw9'⟩ := hw9
      subst hw9'
      have HBw := Lib.hid (HBV.out.trans (p9.bel.mono HBV.out.size))
      go_wp2_with fail
      refine wp_region_held_drew (S := fun w' => ∃ z : LatW V, z.wd = w') (by kernel_rfl) ⟨⟨p9.wd.drew, p9.bel.drew⟩, rfl⟩ (fun hHeld => ?_)
      obtain ⟨pd, hpd⟩ : ∃ pd : LatW V, pd.wd = p9.wd.drew := ⟨⟨p9.wd.drew, p9.bel.drew⟩, rfl⟩
      rw [← hpd] at hHeld ⊢
      clear hpd
      refine wpAnyH_take (i := 0) (oi := ⟨some 25, .move (.tmp 0), 22, "line.go:41", #[], none⟩) (v := .slice A l.length c) rfl (by kernel_rfl) (by kernel_rfl) (by kernel_rfl) (fun _ _ _ h => h) (Or.inl ⟨by rfl, fun w _ => by go_simp⟩) hHeld ?_
      try simp only [Act.put, List.setIfInBounds_toArray, List.set_cons_zero, List.set_cons_succ]
      refine wpAnyH_take (i := 2) (oi := ⟨some 27, .load 31 (.tmp 8), 31, "line.go:41", #[], none⟩) (v := .agg #[.int .i64 ep, .int .i64 at_]) rfl (by kernel_rfl) (by kernel_rfl) (by kernel_rfl) (fun _ _ _ h => h) (Or.inl ⟨by rfl, fun w hS => by obtain ⟨z, rfl⟩ := hS; go_simp⟩) hHeld ?_
      try simp only [Act.put, List.setIfInBounds_toArray, List.set_cons_zero, List.set_cons_succ]
      refine wpAnyH_ready (rs := [1, 3]) (by kernel_rfl) (by simp) ?_
      refine AllReadyH.cons (o := ⟨some 26, .call { callee := .value (.func 29), args := #[.tmp 25], argTypes := #[22] }, 22, "line.go:41", #[⟨0, .data⟩], none⟩) rfl (fun K hK => ?_) (AllReadyH.cons (o := ⟨some 28, .buildSlice 22 1 #[(0, .tmp 27)], 22, "line.go:41", #[⟨2, .data⟩], none⟩) rfl (fun K hK => ?_) AllReadyH.nil)
      · rw [if_pos (by rfl)]
        go_simp
        refine (HC.out pd _).mono ?_
        rintro e w5 ⟨v5, rfl, ho5, hb5⟩
        go_wp2_with fail
        have HB5 := Lib.hid (pd.bel.trans (hb5.mono pd.bel.size))
        refine hK.out _ _ ⟨⟨w5, HB5.out⟩, rfl⟩ (fun hHeld2 => ?_)
        clear hK K
        try simp only [Act.put, List.setIfInBounds_toArray, List.set_cons_zero, List.set_cons_succ]
        refine wpAnyH_ready (rs := [3]) (by kernel_rfl) (by simp) ?_
        refine AllReadyH.cons (o := ⟨some 28, .buildSlice 22 1 #[(0, .tmp 27)], 22, "line.go:41", #[⟨2, .data⟩], none⟩) rfl (fun K hK => ?_) AllReadyH.nil
        rw [if_pos (by rfl)]
        go_simp
        have HO := ho5.alloc (.cells #[.int .i64 ep, .int .i64 at_] 31)
        have hnew : ∀ j u, ([.int .i64 ep, .int .i64 at_] : List Value)[j]? = some u → (w5.alloc (.cells #[.int .i64 ep, .int .i64 at_] 31)).cell? ((⟨w5.heap.size, 0, none⟩ : Addr).add j) = some u := World.news_of_block (cs := #[.int .i64 ep, .int .i64 at_]) (t := 31) (fr := (0, 0)) (heap_new w5 _)
        have HB6 := Lib.hid (HB5.out.alloc HB5.out.size (.cells #[.int .i64 ep, .int .i64 at_] 31))
        have hbs : pd.wd.heap.size ≤ (w5.alloc (.cells #[.int .i64 ep, .int .i64 at_] 31)).heap.size := by have := hb5.size; simp; omega
        refine hK.out _ _ ⟨⟨_, HB6.out⟩, rfl⟩ (fun hHeld3 => ?_)
        clear hK K
        try simp only [Act.put, List.setIfInBounds_toArray, List.set_cons_zero, List.set_cons_succ]
        generalize w5.alloc (.cells #[.int .i64 ep, .int .i64 at_] 31) = W at *
        generalize w5.heap.size = q at *
        refine wpAnyH_ready (rs := [4]) (by kernel_rfl) (by simp) ?_
        refine AllReadyH.cons (o := ⟨some 29, .call { callee := .builtin .append, args := #[.tmp 26, .tmp 28], argTypes := #[22, 22] }, 22, "line.go:41", #[⟨1, .data⟩, ⟨3, .data⟩, ⟨1, .chain⟩], none⟩) rfl (fun K hK => ?_) AllReadyH.nil
        refine step_append_lies _ (by rfl) _ _ _ (by rfl) pd.wd.heap.size 31 i0 (.agg #[.int .i64 0, .int .i64 0]) 2 16 Try.underlying22 hi0 hz0 hz1 hz2 rfl (by decide) v5 l.length (brCells l) (by rfl) HO ⟨q, 0, none⟩ 1 1 [.int .i64 ep, .int .i64 at_] (by rfl) (by rfl) hnew (by simp [Value.oneCell']) (by omega) (by unfold maxLen; omega) (by omega) hbs W.heap.size rfl ?_
        intro g cap w7 hown hg hat hlt
        have HB7 : Below V.heap.size V w7 := HB6.out.grown hg HB6.out.size (fun k hk => by have := (HO.lt k hk).1; have := pd.bel.size; omega)
        refine hK.out _ _ ⟨⟨w7, HB7⟩, rfl⟩ (fun hHeld4 => ?_)
        clear hK K
        try simp only [Act.put, List.setIfInBounds_toArray, List.set_cons_zero, List.set_cons_succ]
        refine wpAnyH_take (i := 5) (oi := ⟨some 6, .assign (.tmp 29), 22, "line.go:41", #[⟨4, .data⟩, ⟨4, .chain⟩, ⟨0, .phase⟩, ⟨1, .phase⟩, ⟨2, .phase⟩, ⟨3, .phase⟩, ⟨4, .phase⟩], none⟩) (v := .slice (some ⟨g, 0, none⟩) (l.length + 1) cap) rfl (by kernel_rfl) (by kernel_rfl) (by kernel_rfl) (fun _ _ _ h => h) (Or.inl ⟨by rfl, fun w _ => by go_simp⟩) hHeld4 ?_
        try simp only [Act.put, List.setIfInBounds_toArray, List.set_cons_zero, List.set_cons_succ]
        refine wpAnyH_take (i := 6) (oi := ⟨some 7, .assign (.const (.int .i64 0)), 24, "line.go:41", #[⟨5, .chain⟩, ⟨0, .phase⟩, ⟨1, .phase⟩, ⟨2, .phase⟩, ⟨3, .phase⟩, ⟨4, .phase⟩, ⟨5, .phase⟩], none⟩) (v := .int .i64 0) rfl (by kernel_rfl) (by kernel_rfl) (by kernel_rfl) (fun _ _ _ h => h) (Or.inl ⟨by rfl, fun w _ => by go_simp⟩) hHeld4 ?_
        try simp only [Act.put, List.setIfInBounds_toArray, List.set_cons_zero, List.set_cons_succ]
        refine wpAnyH_done (by kernel_rfl) ?_ _
        have HQ := Lib.hid (grow_end HBV.out HB7 hown HB.out)
        clear hown hg hat hlt
        go_wp2_with fail
        go_ret2
        exact HQ.out
      · rw [if_pos (by rfl)]
        go_simp
        have hnew0 := heap_new pd.wd (.cells #[.int .i64 ep, .int .i64 at_] 31)
        have HB5 := Lib.hid (pd.bel.alloc pd.bel.size (.cells #[.int .i64 ep, .int .i64 at_] 31))
        have hbs : pd.wd.heap.size < (pd.wd.alloc (.cells #[.int .i64 ep, .int .i64 at_] 31)).heap.size := by simp
        refine hK.out _ _ ⟨⟨_, HB5.out⟩, rfl⟩ (fun hHeld2 => ?_)
        clear hK K
        try simp only [Act.put, List.setIfInBounds_toArray, List.set_cons_zero, List.set_cons_succ]
        obtain ⟨z5, hz5⟩ : ∃ z5 : LatW V, z5.wd = pd.wd.alloc (.cells #[.int .i64 ep, .int .i64 at_] 31) := ⟨⟨_, HB5.out⟩, rfl⟩
        rw [← hz5] at hnew0 hbs hHeld2 ⊢
        clear hz5 HB5
        generalize pd.wd.heap.size = q at *
        refine wpAnyH_ready (rs := [1]) (by kernel_rfl) (by simp) ?_
        refine AllReadyH.cons (o := ⟨some 26, .call { callee := .value (.func 29), args := #[.tmp 25], argTypes := #[22] }, 22, "line.go:41", #[⟨0, .data⟩], none⟩) rfl (fun K hK => ?_) AllReadyH.nil
        rw [if_pos (by rfl)]
        go_simp
        refine (HC.out z5 _).mono ?_
        rintro e W ⟨v5, rfl, HO, hb5⟩
        go_wp2_with fail
        have HB6 := Lib.hid (z5.bel.trans (hb5.mono z5.bel.size))
        have hnew : ∀ j u, ([.int .i64 ep, .int .i64 at_] : List Value)[j]? = some u → W.cell? ((⟨q, 0, none⟩ : Addr).add j) = some u := World.news_of_block (cs := #[.int .i64 ep, .int .i64 at_]) (t := 31) (fr := (0, 0)) ((hb5.block q hbs).trans hnew0)
        have hbW : z5.wd.heap.size ≤ W.heap.size := hb5.size
        refine hK.out _ _ ⟨⟨_, HB6.out⟩, rfl⟩ (fun hHeld3 => ?_)
        clear hK K
        try simp only [Act.put, List.setIfInBounds_toArray, List.set_cons_zero, List.set_cons_succ]
        refine wpAnyH_ready (rs := [4]) (by kernel_rfl) (by simp) ?_
        refine AllReadyH.cons (o := ⟨some 29, .call { callee := .builtin .append, args := #[.tmp 26, .tmp 28], argTypes := #[22, 22] }, 22, "line.go:41", #[⟨1, .data⟩, ⟨3, .data⟩, ⟨1, .chain⟩], none⟩) rfl (fun K hK => ?_) AllReadyH.nil
        refine step_append_lies _ (by rfl) _ _ _ (by rfl) z5.wd.heap.size 31 i0 (.agg #[.int .i64 0, .int .i64 0]) 2 16 Try.underlying22 hi0 hz0 hz1 hz2 rfl (by decide) v5 l.length (brCells l) (by rfl) HO ⟨q, 0, none⟩ 1 1 [.int .i64 ep, .int .i64 at_] (by rfl) (by rfl) hnew (by simp [Value.oneCell']) (by omega) (by unfold maxLen; omega) (by omega) hbW W.heap.size rfl ?_
        intro g cap w7 hown hg hat hlt
        have HB7 : Below V.heap.size V w7 := HB6.out.grown hg HB6.out.size (fun k hk => by have := (HO.lt k hk).1; have := z5.bel.size; omega)
        refine hK.out _ _ ⟨⟨w7, HB7⟩, rfl⟩ (fun hHeld4 => ?_)
        clear hK K
        try simp only [Act.put, List.setIfInBounds_toArray, List.set_cons_zero, List.set_cons_succ]
        refine wpAnyH_take (i := 5) (oi := ⟨some 6, .assign (.tmp 29), 22, "line.go:41", #[⟨4, .data⟩, ⟨4, .chain⟩, ⟨0, .phase⟩, ⟨1, .phase⟩, ⟨2, .phase⟩, ⟨3, .phase⟩, ⟨4, .phase⟩], none⟩) (v := .slice (some ⟨g, 0, none⟩) (l.length + 1) cap) rfl (by kernel_rfl) (by kernel_rfl) (by kernel_rfl) (fun _ _ _ h => h) (Or.inl ⟨by rfl, fun w _ => by go_simp⟩) hHeld4 ?_
        try simp only [Act.put, List.setIfInBounds_toArray, List.set_cons_zero, List.set_cons_succ]
        refine wpAnyH_take (i := 6) (oi := ⟨some 7, .assign (.const (.int .i64 0)), 24, "line.go:41", #[⟨5, .chain⟩, ⟨0, .phase⟩, ⟨1, .phase⟩, ⟨2, .phase⟩, ⟨3, .phase⟩, ⟨4, .phase⟩, ⟨5, .phase⟩], none⟩) (v := .int .i64 0) rfl (by kernel_rfl) (by kernel_rfl) (by kernel_rfl) (fun _ _ _ h => h) (Or.inl ⟨by rfl, fun w _ => by go_simp⟩) hHeld4 ?_
        try simp only [Act.put, List.setIfInBounds_toArray, List.set_cons_zero, List.set_cons_succ]
        refine wpAnyH_done (by kernel_rfl) ?_ _
        have HQ := Lib.hid (grow_end HBV.out HB7 hown HB.out)
        clear hown hg hat hlt
        go_wp2_with fail
        go_ret2
        exact HQ.out
    · rw [(HG2.out ok2 hlen).1, (HG2.out ok2 hlen).2]
      have hne : l.length = 64 := by omega
      rw [hne] at hl HR HE
      rw [hne]
      clear HG1 HG2 HG3 HA h hne
      go_enter Try.func12, Try.ntmps12
      go_wp2_with fail
      rw [← HV.out]
      have c0 : ∀ z : LatW V, z.wd.cell? ⟨w.heap.size, 0, none⟩ = some (.int .i64 ep) := fun z => (HT.out.below z.bel).c0
      have c1 : ∀ z : LatW V, z.wd.cell? ⟨w.heap.size, 1, none⟩ = some (.int .i64 at_) := fun z => (HT.out.below z.bel).c1
      generalize w.heap.size = H at c0 c1 ⊢
      refine wp_region_later (by kernel_rfl) (by kernel_rfl) ?_
      repeat (first | go_big_quiet_skip | quiet_step (first | (go_at_call 16; exact Calls.later_of (HR.out _ _)) | (go_at_call 28; exact Calls.later_of (HE.out _ _)) | (go_at_call 27; exact Calls.later_of (HF.out _))))
      refine wpQuiet_nil ?_
      intro w9 hw9
      obtain ⟨p9, hw9'⟩ := hw9
      subst hw9'
      go_wp2_with fail
      go_ret2
      exact BrsEnd.none_ _ (HBV.out.trans (p9.bel.mono HBV.out.size))
end Go.Proofs.Ytokdicaoonjimaa
