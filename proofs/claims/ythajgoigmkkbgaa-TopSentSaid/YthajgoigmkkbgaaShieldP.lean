/- The shield, plain: the parts of what differs, copied over volumes one behind the other (for TopShielded). -/
import Derived.Test.YthajgoigmkkbgaaSnapR
namespace Go.Proofs.Ythajgoigmkkbgaa
open Go.Shelf Go.RowKit Go.Lib Go.Sort

/-- What was written ahead of the copy: the other volumes and the writes that made them. -/
structure OthSt (vs other : List Vl) (all : List Wr) : Prop where
  right : rightB vs = true
  ok : checkE vs all = 0
  is_ : applyV vs all = other
theorem OthSt.start {vs : List Vl} (h : rightB vs = true) : OthSt vs vs [] := by
  have h0 : checkE vs [] = 0 := by rw [checkE_right h]; rfl
  exact ⟨h, h0, by rw [applyV_ok h0]; rfl⟩
theorem OthSt.more {vs other : List Vl} {all ws : List Wr} (h : OthSt vs other all) (hw : checkE other ws = 0) : OthSt vs (applyV other ws) (all ++ ws) := by
  have e : applyV vs all = all.foldl put1 vs := applyV_ok h.ok
  have hi := h.is_
  obtain ⟨hr, hc, hr2⟩ := right_apply h.ok
  have ho : other = all.foldl put1 vs := by rw [← hi, e]
  obtain ⟨_, hc2, _⟩ := right_apply hw
  have hall : checkE vs (all ++ ws) = 0 := by
    rw [checkE_right hr, chk_append, if_pos hc, ← chk_shapes (shapes_foldl all vs), ← ho]; exact hc2
  refine ⟨hr, hall, ?_⟩
  rw [applyV_ok hall, List.foldl_append, ← ho, applyV_ok hw]
theorem OthSt.oright {vs other : List Vl} {all : List Wr} (h : OthSt vs other all) : rightB other = true := by
  have := (right_apply h.ok).2.2
  rw [← applyV_ok h.ok, h.is_] at this; exact this
theorem OthSt.shape {vs other : List Vl} {all : List Wr} (h : OthSt vs other all) : shapes other = shapes vs := by
  have := shapes_foldl all vs
  rw [← applyV_ok h.ok, h.is_] at this; exact this

/-- The parts, and what they make of the volumes. -/
theorem OthSt.parts {vs other : List Vl} {all more : List Wr} (h : OthSt vs other all) (hm : ∀ x ∈ more, gotE other x.vol x.block = 0) :
    pickEr other (marksW (all ++ more)) = 0 ∧ pickV other (marksW (all ++ more)) = pickL other (marksW (all ++ more)) ∧ checkE vs (pickL other (marksW (all ++ more))) = 0 ∧ applyV vs (pickL other (marksW (all ++ more))) = other := by
  have hr := h.right
  have hro := h.oright
  have hsh := h.shape
  obtain ⟨_, hc, _⟩ := right_apply h.ok
  have hmk : ∀ m ∈ marksW (all ++ more), gotE other m.1 m.2 = 0 := fun m hm' => by
    obtain ⟨x, hx, rfl⟩ := List.mem_map.1 hm'
    rcases List.mem_append.1 (foldW_mem hx) with h1 | h1
    · show gotE other x.vol x.block = 0
      rw [gotE_shapes hsh]; exact (chk_mem hc h1).1
    · exact hm x h1
  have he : pickEr other (marksW (all ++ more)) = 0 := by unfold pickEr; rw [if_pos hro]; exact pickE_of hmk
  obtain ⟨c1, c2⟩ := put_back (vs := other) (ot := vs) (l := pickL other (marksW (all ++ more))) (rightB_good hro) (rightB_good hr) hsh.symm
    (fun x hx => by
      obtain ⟨m, hm2, rfl⟩ := List.mem_map.1 hx
      exact ⟨hmk m hm2, rfl⟩)
    (fun vol block hn => by
      rw [pick_last] at hn
      have hn' : lastF (all ++ more) vol block = none := by
        cases hq : lastF (all ++ more) vol block with
        | none => rfl
        | some d => rw [hq] at hn; cases hn
      rw [lastF_append] at hn'
      have hna : lastF all vol block = none := by
        cases hq : lastF more vol block with
        | none => rw [hq] at hn'; exact hn'
        | some d => rw [hq] at hn'; cases hn'
      rw [← h.is_, applyV_ok h.ok, got_foldl (rightB_good hr) hc, lastD_eq, hna]; rfl)
  have hc1 : checkE vs (pickL other (marksW (all ++ more))) = 0 := by rw [checkE_right hr]; exact c1
  exact ⟨he, by unfold pickV; rw [if_pos he], hc1, by rw [applyV_ok hc1]; exact c2⟩
theorem pick_more {other : List Vl} {ms : List Mk} (h : pickEr other ms = 0) : ∀ x ∈ pickV other ms, gotE other x.vol x.block = 0 := by
  intro x hx
  unfold pickV at hx
  rw [if_pos h] at hx
  obtain ⟨m, hm, rfl⟩ := List.mem_map.1 hx
  unfold pickEr at h
  split at h
  · clear hx
    induction ms with
    | nil => cases hm
    | cons a r ih =>
      unfold pickE at h
      split at h
      · rcases List.mem_cons.1 hm with rfl | hm
        · assumption
        · exact ih hm h
      · rename_i hne; exact absurd h hne
  · omega

/-- The copy under way: k of the parts are copied. -/
structure CopSt (vs other : List Vl) (ps : List Wr) (k : Nat) (now : List Vl) (kept : List Wr) : Prop where
  right : rightB vs = true
  ok : checkE vs ps = 0
  end_ : applyV vs ps = other
  now_ : now = applyV vs (ps.take k)
  keep : keepB kept now = true
  back : applyV now kept = vs
  room : kept.length ≤ 128
theorem take_ok {vs : List Vl} {ps : List Wr} (hr : rightB vs = true) (h : checkE vs ps = 0) (k : Nat) : checkE vs (ps.take k) = 0 := by
  rw [checkE_right hr] at h ⊢
  exact chk_of (fun x hx => chk_mem h (List.mem_of_mem_take hx))
theorem drop_ok {vs : List Vl} {ps : List Wr} (hr : rightB vs = true) (h : checkE vs ps = 0) (k n : Nat) : chk vs ((ps.drop k).take n) = 0 := by
  rw [checkE_right hr] at h
  exact chk_of (fun x hx => chk_mem h (List.mem_of_mem_drop (List.mem_of_mem_take hx)))
theorem CopSt.start {vs other : List Vl} {ps : List Wr} (hr : rightB vs = true) (h : checkE vs ps = 0) (he : applyV vs ps = other) : CopSt vs other ps 0 vs [] := by
  have h0 : checkE vs [] = 0 := by rw [checkE_right hr]; rfl
  have e0 : applyV vs [] = vs := by rw [applyV_ok h0]; rfl
  exact ⟨hr, h, he, e0.symm, keep_nil hr, e0, by simp⟩
theorem CopSt.nright {vs other : List Vl} {ps : List Wr} {k : Nat} {now : List Vl} {kept : List Wr} (h : CopSt vs other ps k now kept) : rightB now = true := by
  have h1 := take_ok h.right h.ok k
  rw [h.now_, applyV_ok h1]; exact (right_apply h1).2.2
theorem sum_room {vs : List Vl} (h : rightB vs = true) : (vs.map (fun v => v.2.length)).sum ≤ 128 := by
  obtain ⟨h1, h2⟩ := (rightB_iff vs).1 h
  have key : ∀ l : List Vl, (∀ v ∈ l, v.2.length ≤ 32) → (l.map (fun v => v.2.length)).sum ≤ l.length * 32 := by
    intro l
    induction l with
    | nil => intro _; simp
    | cons x r ih =>
      intro hx
      have g1 := hx x (by simp)
      have g2 := ih (fun u hu => hx u (List.mem_cons_of_mem _ hu))
      rw [List.map_cons, List.sum_cons, List.length_cons]; omega
  have := key vs (fun v hv => ((volOk_iff v).1 (goodFrom_ok h2 v hv)).1.2.2.2)
  omega
theorem CopSt.step {vs other : List Vl} {ps : List Wr} {k : Nat} {now : List Vl} {kept : List Wr} (h : CopSt vs other ps k now kept) (n : Nat) :
    checkE now ((ps.drop k).take n) = 0 ∧ noteE kept ((ps.drop k).take n) now 128 = 0 ∧ noteR kept ((ps.drop k).take n) now 128 = noteN kept ((ps.drop k).take n) now ∧ CopSt vs other ps (k + n) (applyV now ((ps.drop k).take n)) (noteN kept ((ps.drop k).take n) now) := by
  have hrn := h.nright
  have h1 := take_ok h.right h.ok k
  have hsh : shapes now = shapes vs := by rw [h.now_, applyV_ok h1]; exact shapes_foldl _ _
  have hc : checkE now ((ps.drop k).take n) = 0 := by rw [checkE_right hrn, chk_shapes hsh]; exact drop_ok h.right h.ok k n
  have hroom := note_room h.keep hc
  have hs := sum_room hrn
  obtain ⟨f1, f2⟩ := note_fine (most := 128) h.keep hc (by omega)
  obtain ⟨g1, g2, g3⟩ := note_stays h.keep hc
  refine ⟨hc, f1, f2, h.right, h.ok, h.end_, ?_, g2, by rw [g3]; exact h.back, by omega⟩
  have h2 := take_ok h.right h.ok (k + n)
  rw [applyV_ok h2, applyV_ok hc, h.now_, applyV_ok h1, ← List.foldl_append, List.take_add]
theorem CopSt.tells {vs other : List Vl} {ps : List Wr} {k : Nat} {now : List Vl} {kept : List Wr} (h : CopSt vs other ps k now kept) : backE kept now = 0 ∧ backV kept now = vs := by
  obtain ⟨h1, h2⟩ := back_yes h.keep
  exact ⟨h2, by rw [h1]; exact h.back⟩
theorem CopSt.done {vs other : List Vl} {ps : List Wr} {k : Nat} {now : List Vl} {kept : List Wr} (h : CopSt vs other ps k now kept) (hk : ps.length ≤ k) : now = other := by
  rw [h.now_, List.take_of_length_le hk]; exact h.end_
end Go.Proofs.Ythajgoigmkkbgaa
