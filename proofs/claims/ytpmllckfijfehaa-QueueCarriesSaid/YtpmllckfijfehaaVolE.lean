/- Rows of volumes that a call owns; contracts of slices.Clone (volumes, texts) and of clone. -/
import Derived.Test.YtpmllckfijfehaaVolC
namespace Go.Proofs.Ytpmllckfijfehaa
open Go.RowKit

/-! ### The cells of a row of volumes -/

def volCells : List Vl → List Value → List Value
  | v :: vs, u :: us => .int .i64 v.1 :: u :: volCells vs us
  | _, _ => []
theorem volCells_length {vs : List Vl} {us : List Value} (h : us.length = vs.length) : (volCells vs us).length = vs.length * 2 := by
  induction vs generalizing us with
  | nil => simp [volCells]
  | cons v vs ih =>
    cases us with
    | nil => simp at h
    | cons u us => have := ih (us := us) (by simpa using h); simp [volCells, this]; omega
theorem volCells_fst {vs : List Vl} {us : List Value} (h : us.length = vs.length) {k : Nat} (hk : k < vs.length) : (volCells vs us)[k * 2]? = some (.int .i64 vs[k].1) := by
  induction vs generalizing us k with
  | nil => simp at hk
  | cons v vs ih =>
    cases us with
    | nil => simp at h
    | cons u us =>
      cases k with
      | zero => rfl
      | succ k => rw [show (k + 1) * 2 = k * 2 + 1 + 1 from by omega]; simpa [volCells] using ih (us := us) (by simpa using h) (by simpa using hk)
theorem volCells_snd {vs : List Vl} {us : List Value} (h : us.length = vs.length) {k : Nat} (hk : k < vs.length) : (volCells vs us)[k * 2 + 1]? = us[k]? := by
  induction vs generalizing us k with
  | nil => simp at hk
  | cons v vs ih =>
    cases us with
    | nil => simp at h
    | cons u us =>
      cases k with
      | zero => rfl
      | succ k => rw [show (k + 1) * 2 + 1 = k * 2 + 1 + 1 + 1 from by omega]; simpa [volCells] using ih (us := us) (by simpa using h) (by simpa using hk)
theorem volCells_set {vs : List Vl} {us : List Value} (h : us.length = vs.length) (k : Nat) (x : Value) : (volCells vs us).set (k * 2 + 1) x = volCells vs (us.set k x) := by
  induction vs generalizing us k with
  | nil => simp [volCells]
  | cons v vs ih =>
    cases us with
    | nil => simp at h
    | cons u us =>
      cases k with
      | zero => rfl
      | succ k => rw [show (k + 1) * 2 + 1 = k * 2 + 1 + 1 + 1 from by omega]; simp [volCells, ih (us := us) (by simpa using h) k]
theorem volCells_id {vs : List Vl} {us : List Value} (h : us.length = vs.length) (k : Nat) (v : Vl) : (volCells vs us).set (k * 2) (.int .i64 v.1) = volCells (vs.set k v) us := by
  induction vs generalizing us k with
  | nil => simp [volCells]
  | cons u vs ih =>
    cases us with
    | nil => simp at h
    | cons x us =>
      cases k with
      | zero => rfl
      | succ k => rw [show (k + 1) * 2 = k * 2 + 1 + 1 from by omega]; simp [volCells, ih (us := us) (by simpa using h) k]
theorem volCells_append {vs vs' : List Vl} {us us' : List Value} (h : us.length = vs.length) : volCells (vs ++ vs') (us ++ us') = volCells vs us ++ volCells vs' us' := by
  induction vs generalizing us with
  | nil => cases us with
    | nil => rfl
    | cons u us => simp at h
  | cons v vs ih =>
    cases us with
    | nil => simp at h
    | cons u us => simp [volCells, ih (us := us) (by simpa using h)]
theorem volCells_take {vs : List Vl} {us : List Value} (h : us.length = vs.length) (k : Nat) : (volCells vs us).take (k * 2) = volCells (vs.take k) (us.take k) := by
  induction vs generalizing us k with
  | nil => simp [volCells]
  | cons v vs ih =>
    cases us with
    | nil => simp at h
    | cons u us =>
      cases k with
      | zero => simp [volCells]
      | succ k => rw [show (k + 1) * 2 = k * 2 + 1 + 1 from by omega]; simp [volCells, ih (us := us) (by simpa using h) k]
theorem volCells_drop {vs : List Vl} {us : List Value} (h : us.length = vs.length) (k : Nat) : (volCells vs us).drop (k * 2) = volCells (vs.drop k) (us.drop k) := by
  induction vs generalizing us k with
  | nil => cases us with
    | nil => simp [volCells]
    | cons u us => simp at h
  | cons v vs ih =>
    cases us with
    | nil => simp at h
    | cons u us =>
      cases k with
      | zero => simp [volCells]
      | succ k => rw [show (k + 1) * 2 = k * 2 + 1 + 1 from by omega]; simp [volCells, ih (us := us) (by simpa using h) k]

/-- u is a slice of the texts bs, below block B. -/
def IsTexts (w : World) (B : Nat) (u : Value) (bs : List ByteArray) : Prop := ∃ a c, u = .slice a bs.length c ∧ Lies w B a (bs.map Value.string)
theorem IsTexts.below {w w' : World} {B : Nat} {u : Value} {bs : List ByteArray} (h : IsTexts w B u bs) (hb : Below B w w') : IsTexts w' B u bs := by
  obtain ⟨a, c, h1, h2⟩ := h; exact ⟨a, c, h1, h2.below hb⟩
theorem IsTexts.more {w : World} {B B' : Nat} {u : Value} {bs : List ByteArray} (h : IsTexts w B u bs) (hB : B ≤ B') : IsTexts w B' u bs := by
  obtain ⟨a, c, h1, h2⟩ := h; exact ⟨a, c, h1, h2.more hB⟩
theorem IsTexts.one {w : World} {B : Nat} {u : Value} {bs : List ByteArray} (h : IsTexts w B u bs) : u.oneCell' = true := by
  obtain ⟨a, c, rfl, _⟩ := h; rfl

theorem volCells_one {vs : List Vl} {us : List Value} (h : ∀ u ∈ us, u.oneCell' = true) : ∀ u ∈ volCells vs us, u.oneCell' = true := by
  induction vs generalizing us with
  | nil => intro u hu; simp [volCells] at hu
  | cons v vs ih =>
    cases us with
    | nil => intro u hu; simp [volCells] at hu
    | cons x us =>
      intro u hu
      simp only [volCells, List.mem_cons] at hu
      rcases hu with rfl | rfl | hu
      · rfl
      · exact h _ List.mem_cons_self
      · exact ih (fun y hy => h y (List.mem_cons_of_mem _ hy)) u hu

/-- Volumes, taken apart: the row, and the slice of each one's blocks. -/
theorem VolsAt.rows {w : World} {B : Nat} {A : Option Addr} {vs : List Vl} (h : VolsAt w B A vs) :
    ∃ us : List Value, us.length = vs.length ∧ Lies w B A (volCells vs us) ∧ ∀ i (h1 : i < vs.length) (h2 : i < us.length), IsTexts w B us[i] vs[i].2 := by
  rcases h with rfl | ⟨b, off, hA, hlt, hc⟩
  · exact ⟨[], rfl, .inl rfl, fun i h1 => by simp at h1⟩
  · have : ∀ n, n ≤ vs.length → ∃ us : List Value, us.length = n ∧ ∀ i (h1 : i < vs.length) (h2 : i < us.length), w.cell? ⟨b, off + i * 2 + 1, none⟩ = some us[i] ∧ IsTexts w B us[i] vs[i].2 := by
      intro n
      induction n with
      | zero => intro _; exact ⟨[], rfl, fun i _ h2 => by simp at h2⟩
      | succ n ih =>
        intro hn
        obtain ⟨us, hl, hu⟩ := ih (by omega)
        obtain ⟨a, c, _, h2, h3⟩ := hc n (by omega)
        refine ⟨us ++ [.slice a vs[n].2.length c], by simp [hl], fun i h1 h2' => ?_⟩
        by_cases e : i < us.length
        · rw [List.getElem_append_left e]; exact hu i h1 e
        · have e2 : i = us.length := by simp at h2'; omega
          subst e2
          rw [List.getElem_append_right (Nat.le_refl _)]
          simp only [Nat.sub_self, List.getElem_singleton]
          subst hl
          exact ⟨h2, a, c, rfl, h3⟩
    obtain ⟨us, hl, hu⟩ := this vs.length (Nat.le_refl _)
    refine ⟨us, hl, .inr ⟨b, off, hA, hlt, fun i hi => ?_⟩, fun i h1 h2 => (hu i h1 h2).2⟩
    rw [volCells_length hl] at hi
    have hk : i / 2 < vs.length := by omega
    have e : (volCells vs us)[i]? = some (volCells vs us)[i] := List.getElem?_eq_getElem _
    rcases Nat.mod_two_eq_zero_or_one i with h0 | h0
    · have ei : i = i / 2 * 2 := by omega
      have h1 := volCells_fst hl hk
      rw [← ei, e] at h1
      obtain ⟨a, c, h2, _, _⟩ := hc (i / 2) hk
      rw [h1, show off + i = off + i / 2 * 2 from by omega]
      exact h2
    · have ei : i = i / 2 * 2 + 1 := by omega
      have h1 := volCells_snd hl hk
      rw [← ei, e, List.getElem?_eq_getElem (by omega)] at h1
      rw [h1, show off + i = off + i / 2 * 2 + 1 from by omega]
      exact (hu (i / 2) hk (by omega)).1

theorem VolsAt.of_rows {w : World} {B : Nat} {A : Option Addr} {vs : List Vl} {us : List Value} (hl : us.length = vs.length) (h : Lies w B A (volCells vs us)) (hu : ∀ i (h1 : i < vs.length) (h2 : i < us.length), IsTexts w B us[i] vs[i].2) : VolsAt w B A vs := by
  rcases h with h | ⟨b, off, hA, hlt, hc⟩
  · have := volCells_length hl
    rw [h] at this
    exact .inl (List.eq_nil_of_length_eq_zero (by simp at this; omega))
  · refine .inr ⟨b, off, hA, hlt, fun i hi => ?_⟩
    obtain ⟨a, c, h1, h2⟩ := hu i hi (by omega)
    have hlen := volCells_length hl
    refine ⟨a, c, ?_, ?_, h2⟩
    · rw [hc (i * 2) (by omega)]
      have := volCells_fst hl hi
      rw [List.getElem?_eq_getElem (by omega)] at this
      exact this
    · rw [Nat.add_assoc, hc (i * 2 + 1) (by omega)]
      have := volCells_snd hl hi
      rw [List.getElem?_eq_getElem (by omega), List.getElem?_eq_getElem (by omega)] at this
      rw [this, h1]

/-! ### slices.Clone -/

theorem Try.infoVol : (Try.prog.info? 70).map (fun i => (i.zero, i.size, i.bytes)) = some (some (.agg #[.int .i64 0, .slice none 0 0]), 2, 32) := by kernel_rfl
theorem Try.infoStrV : (Try.prog.info? 9).map (fun i => (i.zero, i.size, i.bytes)) = some (some (.string ByteArray.empty), 1, 16) := by kernel_rfl

/-- A row of the call's own comes back. -/
def OwnEnd (t : TypeId) (size n : Nat) (cs : List Value) (w : World) (e : Ending) (w' : World) : Prop :=
  ∃ v, e = .returned v ∧ w'.ownsRow w.heap.size t size v n cs ∧ Below w.heap.size w w'

set_option maxHeartbeats 800000 in
theorem CloneV_any {w : World} {A : Option Addr} {n c : Nat} {cs : List Value} (h : Lies w w.heap.size A cs) (hl : cs.length = n * 2) (hn : n ≤ 1000) (h1 : ∀ u ∈ cs, u.oneCell' = true) :
    Calls Try.prog 58 #[.slice A n c] w (OwnEnd 70 2 n cs w) := by
  obtain ⟨i0, hi0, hz0, hz1, hz2⟩ := info_parts Try.infoVol
  have hnil := run_eql_slice_nil (P := Try.prog) w 48 70 A n c Try.underlying48
  have HL := Lib.hid h
  have HLen := Lib.hid hl
  cases A with
  | none =>
    have h0 : cs = [] := by
      rcases h with h | ⟨b, off, hA, _⟩
      · exact h
      · cases hA
    have h00 : n = 0 := by rw [h0] at hl; simp at hl; omega
    have HE : Hid (OwnEnd 70 2 n cs w (.returned (.slice none 0 0)) w) := Lib.hid ⟨_, rfl, by rw [h0, h00]; exact World.ownsRow_nil _ _ _ _, Below.refl _ _⟩
    clear h hl h0 h00 hi0 hz0 hz1 hz2
    go_enter Try.func58, Try.ntmps58
    go_wp2
    go_ret
    exact HE.out
  | some x =>
    have HC : Hid (∀ j u, cs[j]? = some u → (w.alloc (.cells #[] 70)).cell? (x.add j) = some u) := Lib.hid (fun j u hj => by
      rcases h with h | ⟨b, off, hA, hb, hc⟩
      · rw [h] at hj; simp at hj
      · cases hA
        obtain ⟨hj1, hj2⟩ := List.getElem?_eq_some_iff.1 hj
        rw [WideShapes.add_plain, ((Below.refl w.heap.size w).alloc (Nat.le_refl _) _).cell (p := ⟨b, off + j, none⟩) hb, hc j hj1, hj2])
    clear h hl
    go_enter Try.func58, Try.ntmps58
    go_wp2_with (at_builtin; refine wpList_append_own _ rfl (.tmp 5) (.tmp 6) 48 rfl w.heap.size 70 i0 (.agg #[.int .i64 0, .slice none 0 0]) 2 32 Try.underlying48 hi0 hz0 hz1 hz2 rfl (by decide) (.slice (some ⟨w.heap.size, 0, none⟩) 0 0) 0 [] rfl (World.ownsRow_made w #[] 0 (Nat.le_refl _) (Nat.zero_le _) rfl) x n c cs rfl HLen.out HC.out h1 ?c4 ?c5 ?c6 ?_)
    case c4 => unfold maxLen; omega
    case c5 => omega
    case c6 => simp
    intro v' w2 hown hg _
    have HE : Hid (OwnEnd 70 2 n cs w (.returned v') w2) := by
      refine Lib.hid ⟨_, rfl, by simpa using hown, ?_⟩
      refine ((Below.refl w.heap.size w).alloc (Nat.le_refl _) _).grown hg (by simp) (fun k hk => ?_)
      simp only [Value.ownBlock, Option.some.injEq] at hk
      omega
    clear hown hg
    go_wp2
    go_ret
    exact HE.out

set_option maxHeartbeats 800000 in
theorem CloneS_any {w : World} {A : Option Addr} {n c : Nat} {cs : List Value} (h : Lies w w.heap.size A cs) (hl : cs.length = n * 1) (hn : n ≤ 1000) (h1 : ∀ u ∈ cs, u.oneCell' = true) :
    Calls Try.prog 59 #[.slice A n c] w (OwnEnd 9 1 n cs w) := by
  obtain ⟨i0, hi0, hz0, hz1, hz2⟩ := info_parts Try.infoStrV
  have hnil := run_eql_slice_nil (P := Try.prog) w 68 9 A n c Try.underlying68
  have HL := Lib.hid h
  have HLen := Lib.hid hl
  cases A with
  | none =>
    have h0 : cs = [] := by
      rcases h with h | ⟨b, off, hA, _⟩
      · exact h
      · cases hA
    have h00 : n = 0 := by rw [h0] at hl; simp at hl; omega
    have HE : Hid (OwnEnd 9 1 n cs w (.returned (.slice none 0 0)) w) := Lib.hid ⟨_, rfl, by rw [h0, h00]; exact World.ownsRow_nil _ _ _ _, Below.refl _ _⟩
    clear h hl h0 h00 hi0 hz0 hz1 hz2
    go_enter Try.func59, Try.ntmps59
    go_wp2
    go_ret
    exact HE.out
  | some x =>
    have HC : Hid (∀ j u, cs[j]? = some u → (w.alloc (.cells #[] 9)).cell? (x.add j) = some u) := Lib.hid (fun j u hj => by
      rcases h with h | ⟨b, off, hA, hb, hc⟩
      · rw [h] at hj; simp at hj
      · cases hA
        obtain ⟨hj1, hj2⟩ := List.getElem?_eq_some_iff.1 hj
        rw [WideShapes.add_plain, ((Below.refl w.heap.size w).alloc (Nat.le_refl _) _).cell (p := ⟨b, off + j, none⟩) hb, hc j hj1, hj2])
    clear h hl
    go_enter Try.func59, Try.ntmps59
    go_wp2_with (at_builtin; refine wpList_append_own _ rfl (.tmp 5) (.tmp 6) 68 rfl w.heap.size 9 i0 (.string ByteArray.empty) 1 16 Try.underlying68 hi0 hz0 hz1 hz2 rfl (by decide) (.slice (some ⟨w.heap.size, 0, none⟩) 0 0) 0 [] rfl (World.ownsRow_made w #[] 0 (Nat.le_refl _) (Nat.zero_le _) rfl) x n c cs rfl HLen.out HC.out h1 ?c4 ?c5 ?c6 ?_)
    case c4 => unfold maxLen; omega
    case c5 => omega
    case c6 => simp
    intro v' w2 hown hg _
    have HE : Hid (OwnEnd 9 1 n cs w (.returned v') w2) := by
      refine Lib.hid ⟨_, rfl, by simpa using hown, ?_⟩
      refine ((Below.refl w.heap.size w).alloc (Nat.le_refl _) _).grown hg (by simp) (fun k hk => ?_)
      simp only [Value.ownBlock, Option.some.injEq] at hk
      omega
    clear hown hg
    go_wp2
    go_ret
    exact HE.out
end Go.Proofs.Ytpmllckfijfehaa
