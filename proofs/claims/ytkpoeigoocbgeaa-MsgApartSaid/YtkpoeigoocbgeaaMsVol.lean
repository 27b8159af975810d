/- Volumes and writes for messages: of stage 7's and stage 8's texts what the contracts of the document's Blank, Fold and Equal need (slice.py). -/
import Derived.Test.YtkpoeigoocbgeaaRows
import Derived.Test.YtkpoeigoocbgeaaPlain
import Derived.Test.YtkpoeigoocbgeaaMem
import Derived.Test.YtkpoeigoocbgeaaVolP
import Derived.WalkKit
import Derived.WalkSpells
import Derived.WalkLawsBesides
import Derived.Lib.Hide
import Derived.PlainAid
import Derived.Deep.OwnRows
import Derived.Deep.MidRow
import Derived.Deep.AppendLies
import Derived.Deep.RegionHeld3
import Derived.Deep.QuietTactic
import Derived.BigQuiet
import Derived.Lib.LazyBuf
import Derived.Laws.IdiomCopy
import Derived.Laws.Externs
import Derived.Laws.NewBlocks
import Derived.Lib.Walk
import Derived.Lib.SliceRun
import Derived.Lib.JoinLaws
import Derived.Lib.AppendZerosOnto
import Derived.Lib.Overlaps
import Derived.Shelf.RegionOpenPlain
import Derived.StillTailTactics
import Derived.Deep.RegionLaw
import Derived.Deep.LoopGhost
import Derived.Sort.LotA
import Derived.Shelf.SlSortCmp.KitK
import Derived.Sort.WalkB2
import Derived.Sort.WalkB12
import Derived.Deep.Cut
import Derived.Shelf.SlSortCmp.InsertionK
import Derived.Shelf.Spec.SlicesGrow
namespace Go.Proofs.Ytkpoeigoocbgeaa
open Go.RowKit
/-- One volume lies at two cells of block b, its blocks below block B. -/
def VolCells (w : World) (B b o : Nat) (v : Vl) : Prop :=
  ∃ a c, w.cell? ⟨b, o, none⟩ = some (.int .i64 v.1) ∧ w.cell? ⟨b, o + 1, none⟩ = some (.slice a v.2.length c) ∧ Lies w B a (v.2.map Value.string)

/-- The volumes vs lie where a slice's address says, below block B. -/
def VolsAt (w : World) (B : Nat) (A : Option Addr) (vs : List Vl) : Prop :=
  vs = [] ∨ ∃ b off, A = some ⟨b, off, none⟩ ∧ b < B ∧ ∀ i, (h : i < vs.length) → VolCells w B b (off + i * 2) vs[i]

/-- No list is longer than a slice can be. -/
def VolsFit (vs : List Vl) : Prop := vs.length ≤ 9223372036854775807 ∧ ∀ v ∈ vs, v.2.length ≤ 9223372036854775807

theorem VolCells.below {w w' : World} {B b o : Nat} {v : Vl} (h : VolCells w B b o v) (hb : Below B w w') (hlt : b < B) : VolCells w' B b o v := by
  obtain ⟨a, c, h1, h2, h3⟩ := h
  exact ⟨a, c, (hb.cell (p := ⟨b, o, none⟩) hlt).trans h1, (hb.cell (p := ⟨b, o + 1, none⟩) hlt).trans h2, h3.below hb⟩

theorem VolCells.more {w : World} {B B' b o : Nat} {v : Vl} (h : VolCells w B b o v) (hB : B ≤ B') : VolCells w B' b o v := by
  obtain ⟨a, c, h1, h2, h3⟩ := h
  exact ⟨a, c, h1, h2, h3.more hB⟩

theorem VolsAt.below {w w' : World} {B : Nat} {A : Option Addr} {vs : List Vl} (h : VolsAt w B A vs) (hb : Below B w w') : VolsAt w' B A vs := by
  rcases h with h | ⟨b, off, hA, hlt, hc⟩
  · exact .inl h
  · exact .inr ⟨b, off, hA, hlt, fun i hi => (hc i hi).below hb hlt⟩

theorem VolsAt.more {w : World} {B B' : Nat} {A : Option Addr} {vs : List Vl} (h : VolsAt w B A vs) (hB : B ≤ B') : VolsAt w B' A vs := by
  rcases h with h | ⟨b, off, hA, hlt, hc⟩
  · exact .inl h
  · exact .inr ⟨b, off, hA, by omega, fun i hi => (hc i hi).more hB⟩

theorem VolsAt.next {w w' : World} {A : Option Addr} {vs : List Vl} (h : VolsAt w w.heap.size A vs) (hb : Below w.heap.size w w') : VolsAt w' w'.heap.size A vs := (h.below hb).more hb.size

theorem VolsAt.nil (w : World) (B : Nat) (A : Option Addr) : VolsAt w B A [] := .inl rfl

/-- One volume, in a later world. -/
theorem VolsAt.at_ {w w' : World} {B : Nat} {A : Option Addr} {vs : List Vl} (h : VolsAt w B A vs) (hb : Below B w w') {i : Nat} (hi : i < vs.length) :
    ∃ b off a c, A = some ⟨b, off, none⟩ ∧ b < B ∧ w'.cell? ⟨b, off + i * 2, none⟩ = some (.int .i64 vs[i].1) ∧ w'.cell? ⟨b, off + i * 2 + 1, none⟩ = some (.slice a vs[i].2.length c) ∧ Lies w' B a (vs[i].2.map Value.string) := by
  rcases h with rfl | ⟨b, off, hA, hlt, hc⟩
  · simp at hi
  · obtain ⟨a, c, h1, h2, h3⟩ := (hc i hi).below hb hlt
    exact ⟨b, off, a, c, hA, hlt, h1, h2, h3⟩

/-- One text of a row of texts, in a later world. -/
theorem Lies.text {w w' : World} {B : Nat} {a : Option Addr} {bs : List ByteArray} (h : Lies w B a (bs.map Value.string)) (hb : Below B w w') {k : Nat} (hk : k < bs.length) :
    ∃ b off, a = some ⟨b, off, none⟩ ∧ b < B ∧ w'.cell? ⟨b, off + k, none⟩ = some (.string bs[k]) := by
  obtain ⟨b, off, hA, hlt, hc⟩ := h.at_ (by intro e; simp at e; subst e; simp at hk)
  refine ⟨b, off, hA, hlt, ?_⟩
  rw [hb.cell (p := ⟨b, off + k, none⟩) hlt, hc k (by simpa using hk)]
  simp

def WrCells (w : World) (b o : Nat) (x : Wr) : Prop :=
  w.cell? ⟨b, o, none⟩ = some (.int .i64 x.vol) ∧ w.cell? ⟨b, o + 1, none⟩ = some (.int .i64 x.block) ∧ w.cell? ⟨b, o + 2, none⟩ = some (.string x.data)

def WrsAt (w : World) (B : Nat) (A : Option Addr) (ws : List Wr) : Prop :=
  ws = [] ∨ ∃ b off, A = some ⟨b, off, none⟩ ∧ b < B ∧ ∀ i, (h : i < ws.length) → WrCells w b (off + i * 3) ws[i]

theorem WrsAt.at_ {w w' : World} {B : Nat} {A : Option Addr} {ws : List Wr} (h : WrsAt w B A ws) (hb : Below B w w') {i : Nat} (hi : i < ws.length) :
    ∃ b off, A = some ⟨b, off, none⟩ ∧ b < B ∧ w'.cell? ⟨b, off + i * 3, none⟩ = some (.int .i64 ws[i].vol) ∧ w'.cell? ⟨b, off + i * 3 + 1, none⟩ = some (.int .i64 ws[i].block) ∧ w'.cell? ⟨b, off + i * 3 + 2, none⟩ = some (.string ws[i].data) := by
  rcases h with rfl | ⟨b, off, hA, hlt, hc⟩
  · simp at hi
  · obtain ⟨h1, h2, h3⟩ := hc i hi
    exact ⟨b, off, hA, hlt, (hb.cell (p := ⟨b, off + i * 3, none⟩) hlt).trans h1, (hb.cell (p := ⟨b, off + i * 3 + 1, none⟩) hlt).trans h2, (hb.cell (p := ⟨b, off + i * 3 + 2, none⟩) hlt).trans h3⟩

theorem WrsAt.below {w w' : World} {B : Nat} {A : Option Addr} {ws : List Wr} (h : WrsAt w B A ws) (hb : Below B w w') : WrsAt w' B A ws := by
  rcases h with h | ⟨b, off, hA, hlt, hc⟩
  · exact .inl h
  · exact .inr ⟨b, off, hA, hlt, fun i hi => ⟨(hb.cell (p := ⟨b, off + i * 3, none⟩) hlt).trans (hc i hi).1, (hb.cell (p := ⟨b, off + i * 3 + 1, none⟩) hlt).trans (hc i hi).2.1, (hb.cell (p := ⟨b, off + i * 3 + 2, none⟩) hlt).trans (hc i hi).2.2⟩⟩

theorem WrsAt.more {w : World} {B B' : Nat} {A : Option Addr} {ws : List Wr} (h : WrsAt w B A ws) (hB : B ≤ B') : WrsAt w B' A ws := by
  rcases h with h | ⟨b, off, hA, hlt, hc⟩
  · exact .inl h
  · exact .inr ⟨b, off, hA, by omega, hc⟩

theorem WrsAt.next {w w' : World} {A : Option Addr} {ws : List Wr} (h : WrsAt w w.heap.size A ws) (hb : Below w.heap.size w w') : WrsAt w' w'.heap.size A ws := (h.below hb).more hb.size

theorem below_q {B : Nat} {w w' : World} (h : Below B w w') (n : Nat) : Below B w (w'.drewN n) := ⟨h.os, h.tape, h.output, h.size, h.block⟩

theorem drop_at {α : Type} {l : List α} {k : Nat} (h : k < l.length) : l.drop k = l[k] :: l.drop (k + 1) := List.drop_eq_getElem_cons h

/-- What the loop of Right keeps: the answer is that of what is left. -/
def lastOf (vs : List Vl) (k : Nat) : Int := if k = 0 then 0 else (vs.getD (k - 1) (0, [])).1

def goodN (vs : List Vl) (k : Nat) : Prop := goodFrom 0 vs = goodFrom (lastOf vs k) (vs.drop k)

theorem lastOf_succ {vs : List Vl} {k : Nat} (hk : k < vs.length) : lastOf vs (k + 1) = vs[k].1 := by
  unfold lastOf
  rw [if_neg (by omega), Nat.add_sub_cancel, List.getD_eq_getElem?_getD, List.getElem?_eq_getElem hk]
  rfl

theorem goodN_step {vs : List Vl} {k : Nat} (h : goodN vs k) (hk : k < vs.length) : goodFrom 0 vs = (decide (lastOf vs k < vs[k].1) && (volOk vs[k] && goodFrom (lastOf vs (k + 1)) (vs.drop (k + 1)))) := by
  rw [lastOf_succ hk]
  have := h
  unfold goodN at this
  rw [this, drop_at hk, goodFrom]

theorem goodN_end {vs : List Vl} {k : Nat} (h : goodN vs k) (hk : k = vs.length) : goodFrom 0 vs = true := by
  have := h
  unfold goodN at this
  rw [this, hk, List.drop_length]
  rfl

theorem rightB_of {vs : List Vl} {b : Bool} (h : vs.length ≤ 4) (hg : goodFrom 0 vs = b) : rightB vs = b := by simp [rightB, h, hg]

def volCells : List Vl → List Value → List Value
  | v :: vs, u :: us => .int .i64 v.1 :: u :: volCells vs us
  | _, _ => []

theorem volCells_length {vs : List Vl} {us : List Value} (h : us.length = vs.length) : (volCells vs us).length = vs.length * 2 := by
  induction vs generalizing us with
  | nil => simp [volCells]
  | cons v vs ih =>
    cases us with
    | nil => simp at h
    | cons u us => have := ih (us := us) (by simpa using h); simp [volCells, this]; omega

theorem volCells_fst {vs : List Vl} {us : List Value} (h : us.length = vs.length) {k : Nat} (hk : k < vs.length) : (volCells vs us)[k * 2]? = some (.int .i64 vs[k].1) := by
  induction vs generalizing us k with
  | nil => simp at hk
  | cons v vs ih =>
    cases us with
    | nil => simp at h
    | cons u us =>
      cases k with
      | zero => rfl
      | succ k => rw [show (k + 1) * 2 = k * 2 + 1 + 1 from by omega]; simpa [volCells] using ih (us := us) (by simpa using h) (by simpa using hk)

theorem volCells_snd {vs : List Vl} {us : List Value} (h : us.length = vs.length) {k : Nat} (hk : k < vs.length) : (volCells vs us)[k * 2 + 1]? = us[k]? := by
  induction vs generalizing us k with
  | nil => simp at hk
  | cons v vs ih =>
    cases us with
    | nil => simp at h
    | cons u us =>
      cases k with
      | zero => rfl
      | succ k => rw [show (k + 1) * 2 + 1 = k * 2 + 1 + 1 + 1 from by omega]; simpa [volCells] using ih (us := us) (by simpa using h) (by simpa using hk)

theorem volCells_append {vs vs' : List Vl} {us us' : List Value} (h : us.length = vs.length) : volCells (vs ++ vs') (us ++ us') = volCells vs us ++ volCells vs' us' := by
  induction vs generalizing us with
  | nil => cases us with
    | nil => rfl
    | cons u us => simp at h
  | cons v vs ih =>
    cases us with
    | nil => simp at h
    | cons u us => simp [volCells, ih (us := us) (by simpa using h)]

/-- u is a slice of the texts bs, below block B. -/
def IsTexts (w : World) (B : Nat) (u : Value) (bs : List ByteArray) : Prop := ∃ a c, u = .slice a bs.length c ∧ Lies w B a (bs.map Value.string)

theorem IsTexts.below {w w' : World} {B : Nat} {u : Value} {bs : List ByteArray} (h : IsTexts w B u bs) (hb : Below B w w') : IsTexts w' B u bs := by
  obtain ⟨a, c, h1, h2⟩ := h; exact ⟨a, c, h1, h2.below hb⟩

theorem IsTexts.more {w : World} {B B' : Nat} {u : Value} {bs : List ByteArray} (h : IsTexts w B u bs) (hB : B ≤ B') : IsTexts w B' u bs := by
  obtain ⟨a, c, h1, h2⟩ := h; exact ⟨a, c, h1, h2.more hB⟩

theorem IsTexts.one {w : World} {B : Nat} {u : Value} {bs : List ByteArray} (h : IsTexts w B u bs) : u.oneCell' = true := by
  obtain ⟨a, c, rfl, _⟩ := h; rfl

/-- Volumes, taken apart: the row, and the slice of each one's blocks. -/
theorem VolsAt.rows {w : World} {B : Nat} {A : Option Addr} {vs : List Vl} (h : VolsAt w B A vs) :
    ∃ us : List Value, us.length = vs.length ∧ Lies w B A (volCells vs us) ∧ ∀ i (h1 : i < vs.length) (h2 : i < us.length), IsTexts w B us[i] vs[i].2 := by
  rcases h with rfl | ⟨b, off, hA, hlt, hc⟩
  · exact ⟨[], rfl, .inl rfl, fun i h1 => by simp at h1⟩
  · have : ∀ n, n ≤ vs.length → ∃ us : List Value, us.length = n ∧ ∀ i (h1 : i < vs.length) (h2 : i < us.length), w.cell? ⟨b, off + i * 2 + 1, none⟩ = some us[i] ∧ IsTexts w B us[i] vs[i].2 := by
      intro n
      induction n with
      | zero => intro _; exact ⟨[], rfl, fun i _ h2 => by simp at h2⟩
      | succ n ih =>
        intro hn
        obtain ⟨us, hl, hu⟩ := ih (by omega)
        obtain ⟨a, c, _, h2, h3⟩ := hc n (by omega)
        refine ⟨us ++ [.slice a vs[n].2.length c], by simp [hl], fun i h1 h2' => ?_⟩
        by_cases e : i < us.length
        · rw [List.getElem_append_left e]; exact hu i h1 e
        · have e2 : i = us.length := by simp at h2'; omega
          subst e2
          rw [List.getElem_append_right (Nat.le_refl _)]
          simp only [Nat.sub_self, List.getElem_singleton]
          subst hl
          exact ⟨h2, a, c, rfl, h3⟩
    obtain ⟨us, hl, hu⟩ := this vs.length (Nat.le_refl _)
    refine ⟨us, hl, .inr ⟨b, off, hA, hlt, fun i hi => ?_⟩, fun i h1 h2 => (hu i h1 h2).2⟩
    rw [volCells_length hl] at hi
    have hk : i / 2 < vs.length := by omega
    have e : (volCells vs us)[i]? = some (volCells vs us)[i] := List.getElem?_eq_getElem _
    rcases Nat.mod_two_eq_zero_or_one i with h0 | h0
    · have ei : i = i / 2 * 2 := by omega
      have h1 := volCells_fst hl hk
      rw [← ei, e] at h1
      obtain ⟨a, c, h2, _, _⟩ := hc (i / 2) hk
      rw [h1, show off + i = off + i / 2 * 2 from by omega]
      exact h2
    · have ei : i = i / 2 * 2 + 1 := by omega
      have h1 := volCells_snd hl hk
      rw [← ei, e, List.getElem?_eq_getElem (by omega)] at h1
      rw [h1, show off + i = off + i / 2 * 2 + 1 from by omega]
      exact (hu (i / 2) hk (by omega)).1

theorem VolsAt.of_rows {w : World} {B : Nat} {A : Option Addr} {vs : List Vl} {us : List Value} (hl : us.length = vs.length) (h : Lies w B A (volCells vs us)) (hu : ∀ i (h1 : i < vs.length) (h2 : i < us.length), IsTexts w B us[i] vs[i].2) : VolsAt w B A vs := by
  rcases h with h | ⟨b, off, hA, hlt, hc⟩
  · have := volCells_length hl
    rw [h] at this
    exact .inl (List.eq_nil_of_length_eq_zero (by simp at this; omega))
  · refine .inr ⟨b, off, hA, hlt, fun i hi => ?_⟩
    obtain ⟨a, c, h1, h2⟩ := hu i hi (by omega)
    have hlen := volCells_length hl
    refine ⟨a, c, ?_, ?_, h2⟩
    · rw [hc (i * 2) (by omega)]
      have := volCells_fst hl hi
      rw [List.getElem?_eq_getElem (by omega)] at this
      exact this
    · rw [Nat.add_assoc, hc (i * 2 + 1) (by omega)]
      have := volCells_snd hl hi
      rw [List.getElem?_eq_getElem (by omega), List.getElem?_eq_getElem (by omega)] at this
      rw [this, h1]

theorem Try.infoVol : (Try.prog.info? 127).map (fun i => (i.zero, i.size, i.bytes)) = some (some (.agg #[.int .i64 0, .slice none 0 0]), 2, 32) := by kernel_rfl

theorem Try.infoStrV : (Try.prog.info? 9).map (fun i => (i.zero, i.size, i.bytes)) = some (some (.string ByteArray.empty), 1, 16) := by kernel_rfl

theorem own_texts {w : World} {base : Nat} {u : Value} {bs : List ByteArray} (h : w.ownsRow base 9 1 u bs.length (bs.map Value.string)) : IsTexts w w.heap.size u bs := by
  obtain ⟨A, c, rfl, _, hl⟩ := own_lies h
  exact ⟨A, c, rfl, hl⟩

theorem own_base {w : World} {base base' : Nat} {t : TypeId} {size : Nat} {v : Value} {n : Nat} {xs : List Value} (h : w.ownsRow base t size v n xs) (hb : base' ≤ base) : w.ownsRow base' t size v n xs := by
  refine ⟨h.1, h.2.imp id ?_⟩
  rintro ⟨g, cap, cur, h1, h2, h3⟩
  exact ⟨g, cap, cur, h1, by omega, h3⟩

theorem blankB_length (n : Nat) : (blankB n).length = n := by simp [blankB]

theorem zip_mem_at {α β : Type} {l : List α} {m : List β} {i : Nat} (h1 : i < l.length) (h2 : i < m.length) : (l[i], m[i]) ∈ l.zip m := by
  have h : i < (l.zip m).length := by rw [List.length_zip]; omega
  have := List.getElem_mem h
  rwa [List.getElem_zip] at this

theorem VolsAt.of_zip {w : World} {B : Nat} {A : Option Addr} {vs : List Vl} {us : List Value} (hl : us.length = vs.length) (h : Lies w B A (volCells vs us)) (hu : ∀ p ∈ vs.zip us, IsTexts w B p.2 p.1.2) : VolsAt w B A vs :=
  VolsAt.of_rows hl h (fun _ h1 h2 => hu _ (zip_mem_at h1 h2))

/-- What Right asks of one volume, piece by piece. -/
def badB (vs : List Vl) (k : Nat) (v : Vl) : Prop := ¬ (lastOf vs k < v.1) ∨ ¬ (shapeB v.1 v.2.length = true)

theorem good_bad {vs : List Vl} {k : Nat} (h : goodN vs k) (hk : k < vs.length) (hb : badB vs k vs[k]) : goodFrom 0 vs = false := by
  rw [goodN_step h hk]
  unfold volOk
  rcases hb with hb | hb
  · simp [hb]
  · simp [hb]

theorem good_long {vs : List Vl} {k : Nat} (h : goodN vs k) (hk : k < vs.length) (hb : vs[k].2.all shortB = false) : goodFrom 0 vs = false := by
  rw [goodN_step h hk]
  unfold volOk
  simp [hb]

theorem good_next {vs : List Vl} {k : Nat} (h : goodN vs k) (hk : k < vs.length) (h1 : lastOf vs k < vs[k].1) (h2 : shapeB vs[k].1 vs[k].2.length = true) (h3 : vs[k].2.all shortB = true) : goodN vs (k + 1) := by
  have := goodN_step h hk
  unfold volOk at this
  rw [h2, h3, decide_eq_true h1] at this
  show _ = _
  simpa using this

set_option maxHeartbeats 4000000 in
set_option maxRecDepth 100000 in
theorem RefRight_any {w : World} {A : Option Addr} {c : Nat} {vs : List Vl} (h : VolsAt w w.heap.size A vs) (hf : VolsFit vs) :
    Calls Try.prog 79 #[.slice A vs.length c] w fun e w' => e = .returned (.bool (rightB vs)) ∧ Below w.heap.size w w' := by
  have hl := hf.1
  by_cases h4 : vs.length ≤ 4
  · have HV := Lib.hid h
    have HR : Hid (∀ b, goodFrom 0 vs = b → rightB vs = b) := Lib.hid (fun b hb => rightB_of h4 hb)
    obtain ⟨n, hn⟩ : ∃ n, vs.length = n := ⟨_, rfl⟩
    have HN := Lib.hid hn
    rw [hn] at hl h4 ⊢
    have h4' : decide (4 < (n : Int)) = false := by rw [decide_eq_false_iff_not]; omega
    clear h hf hn
    go_enter Try.func79, Try.ntmps79
    go_wp2
    go_loopw [3] (fun i wr => ∃ k : Nat, k ≤ n ∧ i = .int .i64 k ∧ Hid (goodN vs k) ∧ Hid (Below w.heap.size w wr)) (fun i _ => n - (intOf i).toNat)
    case atStart => exact ⟨0, Nat.zero_le _, rfl, Lib.hid rfl, Lib.hid (Below.refl _ _)⟩
    case round =>
      obtain ⟨k, hk, rfl, HG, HB⟩ := hrel
      by_cases hlt : k < n
      · have hkl : k < vs.length := by rw [HN.out]; exact hlt
        obtain ⟨b, off, a, c', hA, hbl, c1, c2, hly⟩ := HV.out.at_ HB.out hkl
        have HLY := Lib.hid hly
        subst hA
        have HBad : Hid (badB vs k vs[k] → rightB vs = false) := Lib.hid (fun hb => HR.out false (good_bad HG.out hkl hb))
        have HLong : Hid (vs[k].2.all shortB = false → rightB vs = false) := Lib.hid (fun hb => HR.out false (good_long HG.out hkl hb))
        have HNext := Lib.hid (fun h1 h2 h3 => good_next HG.out hkl h1 h2 h3)
        have hprev : k = 0 ∧ lastOf vs k = 0 ∨ ∃ i0, 0 < k ∧ lastOf vs k = i0 ∧ wr.cell? ⟨b, off + (k - 1) * 2, none⟩ = some (.int .i64 i0) := by
          by_cases h0 : k = 0
          · subst h0; exact .inl ⟨rfl, rfl⟩
          · obtain ⟨b', off', a', c'', hA', _, d1, _, _⟩ := HV.out.at_ HB.out (i := k - 1) (by omega)
            cases hA'
            refine .inr ⟨_, by omega, ?_, d1⟩
            have := lastOf_succ (vs := vs) (k := k - 1) (by omega)
            rw [show k - 1 + 1 = k from by omega] at this
            exact this
        obtain ⟨v, hv⟩ : ∃ v, vs[k] = v := ⟨_, rfl⟩
        rw [hv] at c1 c2 HBad HLong HNext HLY
        clear hv hkl hly
        obtain ⟨i1, bs⟩ := v
        simp only at c1 c2 HBad HLong HNext HLY
        unfold badB at HBad
        simp only at HBad
        obtain ⟨last, hlast⟩ : ∃ last, lastOf vs k = last := ⟨_, rfl⟩
        rw [hlast] at hprev HBad HNext
        clear hlast
        have hSh := Lib.hid (shapeB_iff i1 bs.length)
        obtain ⟨m, hm⟩ : ∃ m, bs.length = m := ⟨_, rfl⟩
        have HM := Lib.hid hm
        rw [hm] at c2 HBad HNext hSh
        clear hm
        by_cases g1 : 1 ≤ i1
        · by_cases g2 : i1 ≤ 255
          · have e1 : decide (i1 < 1) = false := by rw [decide_eq_false_iff_not]; omega
            have e2 : decide (255 < i1) = false := by rw [decide_eq_false_iff_not]; omega
            by_cases g3 : last < i1
            · by_cases g4 : 1 ≤ m
              · have e4 : decide ((m : Int) < 1) = false := by rw [decide_eq_false_iff_not]; omega
                by_cases g5 : m ≤ 32
                · have e5 : decide (32 < (m : Int)) = false := by rw [decide_eq_false_iff_not]; omega
                  have HNx : Hid (bs.all shortB = true → goodN vs (k + 1)) := Lib.hid (fun h3 => HNext.out g3 (hSh.out.2 ⟨g1, g2, by omega, by omega⟩) h3)
                  clear HBad HNext hSh
                  have hWR : ∀ q, Below w.heap.size w (wr.drewN q) := fun q => below_q HB.out q
                  have HWR := Lib.hid hWR
                  clear hWR
                  have hk0 : (0 : Int) ≤ (k : Int) := Int.natCast_nonneg _
                  have hk8 : (k : Int) < (n : Int) := by omega
                  rcases hprev with ⟨hz, hla⟩ | ⟨i0, hkp, hla, d1⟩
                  case' inl =>
                    have e0 : decide (0 < k) = false := by rw [decide_eq_false_iff_not]; omega
                    clear hz hla
                    go_wp2
                    go_quiet (fail)
                    go_wp2
                  case' inr =>
                    have e0 : decide (0 < k) = true := by rw [decide_eq_true_iff]; omega
                    have e3 : decide (i1 ≤ i0) = false := by rw [decide_eq_false_iff_not]; omega
                    clear hla
                    have hw1 : IntKind.i64.wrap ((k : Int) - 1) = (k : Int) - 1 := by rw [IntKind.wrap_i64]; omega
                    have hw2 : (0 : Int) ≤ (k : Int) - 1 := by omega
                    have hw3 : ((k : Int) - 1).toNat = k - 1 := by omega
                    have hw4 : (k : Int) - 1 < (n : Int) := by omega
                    go_wp2
                    go_quiet (fail)
                    clear hw1 hw2 hw3 hw4 d1 e3
                    go_wp2
                  all_goals
                    have c2' : (wr.drewN nq).cell? ⟨b, off + k * 2 + 1, none⟩ = some (.slice a m c') := c2
                    have HB' : Hid (Below w.heap.size w (wr.drewN nq)) := Lib.hid (below_q HB.out nq)
                    have HL' : Hid (Lies (wr.drewN nq) w.heap.size a (bs.map Value.string)) := Lib.hid HLY.out
                    clear c1 c2 HLY e0 e1 e2 e4 e5 HWR
                    generalize wr.drewN nq = W at *
                    go_loop [4] (fun j => ∃ q : Nat, q ≤ m ∧ j = .int .i64 q ∧ Hid ((bs.take q).all shortB = true)) (fun j => m - (intOf j).toNat)
                    case atStart => exact ⟨0, Nat.zero_le _, rfl, Lib.hid (by simp)⟩
                    case round =>
                      obtain ⟨q, hq, rfl, HQ⟩ := hrel
                      by_cases hqm : q < m
                      · have hql : q < bs.length := by rw [HM.out]; exact hqm
                        obtain ⟨b2, off2, hA2, _, c3⟩ := HL'.out.text (Below.refl _ _) hql
                        subst hA2
                        have HT := Lib.hid (List.take_succ_eq_append_getElem hql)
                        have HMem := Lib.hid (List.getElem_mem hql)
                        obtain ⟨t, ht⟩ : ∃ t, bs[q] = t := ⟨_, rfl⟩
                        rw [ht] at c3 HT HMem
                        clear ht hql
                        by_cases h8 : t.size ≤ 8
                        · have h8' : decide (8 < (t.size : Int)) = false := by rw [decide_eq_false_iff_not]; omega
                          go_wp2
                          go_round
                          case rel => exact ⟨q + 1, by omega, by go_num, Lib.hid (by rw [HT.out, List.all_append, HQ.out]; simp [shortB, h8])⟩
                          case measure => simp [intOf]; omega
                        · have h8' : decide (8 < (t.size : Int)) = true := by rw [decide_eq_true_iff]; omega
                          have HF : Hid (rightB vs = false) := Lib.hid (HLong.out (by
                            rw [Bool.eq_false_iff]
                            intro hall
                            have := List.all_eq_true.1 hall t HMem.out
                            simp [shortB] at this
                            omega))
                          go_wp2
                          go_ret
                          exact ⟨by rw [HF.out]; rfl, HB'.out⟩
                      · have HG2 := Lib.hid (HNx.out (by have := HQ.out; rwa [List.take_of_length_le (by rw [HM.out]; omega)] at this))
                        go_wp2
                        go_roundw
                        case rel => exact ⟨k + 1, by omega, by go_num, HG2, HB'⟩
                        case measure => simp [intOf]; omega
                · have e5 : decide (32 < (m : Int)) = true := by rw [decide_eq_true_iff]; omega
                  have HF : Hid (rightB vs = false) := Lib.hid (HBad.out (Or.inr (fun h => by have := hSh.out.1 h; omega)))
                  clear HBad HNext hSh HLong HG
                  have hk0 : (0 : Int) ≤ (k : Int) := Int.natCast_nonneg _
                  have hk8 : (k : Int) < (n : Int) := by omega
                  rcases hprev with ⟨hz, hla⟩ | ⟨i0, hkp, hla, d1⟩
                  case' inl =>
                    have e0 : decide (0 < k) = false := by rw [decide_eq_false_iff_not]; omega
                    clear hz hla
                    go_wp2
                    go_quiet (fail)
                  case' inr =>
                    have e0 : decide (0 < k) = true := by rw [decide_eq_true_iff]; omega
                    have e3 : decide (i1 ≤ i0) = false := by rw [decide_eq_false_iff_not]; omega
                    clear hla
                    have hw1 : IntKind.i64.wrap ((k : Int) - 1) = (k : Int) - 1 := by rw [IntKind.wrap_i64]; omega
                    have hw2 : (0 : Int) ≤ (k : Int) - 1 := by omega
                    have hw3 : ((k : Int) - 1).toNat = k - 1 := by omega
                    have hw4 : (k : Int) - 1 < (n : Int) := by omega
                    go_wp2
                    go_quiet (fail)
                    clear hw1 hw2 hw3 hw4 d1 e3
                  all_goals
                    go_wp2
                    go_ret
                    exact ⟨by rw [HF.out]; rfl, below_q HB.out _⟩
              · have e4 : decide ((m : Int) < 1) = true := by rw [decide_eq_true_iff]; omega
                have HF : Hid (rightB vs = false) := Lib.hid (HBad.out (Or.inr (fun h => by have := hSh.out.1 h; omega)))
                clear HBad HNext hSh HLong HG
                have hk0 : (0 : Int) ≤ (k : Int) := Int.natCast_nonneg _
                have hk8 : (k : Int) < (n : Int) := by omega
                rcases hprev with ⟨hz, hla⟩ | ⟨i0, hkp, hla, d1⟩
                case' inl =>
                  have e0 : decide (0 < k) = false := by rw [decide_eq_false_iff_not]; omega
                  clear hz hla
                  go_wp2
                  go_quiet (fail)
                case' inr =>
                  have e0 : decide (0 < k) = true := by rw [decide_eq_true_iff]; omega
                  have e3 : decide (i1 ≤ i0) = false := by rw [decide_eq_false_iff_not]; omega
                  clear hla
                  have hw1 : IntKind.i64.wrap ((k : Int) - 1) = (k : Int) - 1 := by rw [IntKind.wrap_i64]; omega
                  have hw2 : (0 : Int) ≤ (k : Int) - 1 := by omega
                  have hw3 : ((k : Int) - 1).toNat = k - 1 := by omega
                  have hw4 : (k : Int) - 1 < (n : Int) := by omega
                  go_wp2
                  go_quiet (fail)
                  clear hw1 hw2 hw3 hw4 d1 e3
                all_goals
                  go_wp2
                  go_ret
                  exact ⟨by rw [HF.out]; rfl, below_q HB.out _⟩
            · have HF : Hid (rightB vs = false) := Lib.hid (HBad.out (Or.inl g3))
              clear HBad HNext hSh HLong HG
              have hk0 : (0 : Int) ≤ (k : Int) := Int.natCast_nonneg _
              have hk8 : (k : Int) < (n : Int) := by omega
              rcases hprev with ⟨hz, hla⟩ | ⟨i0, hkp, hla, d1⟩
              · exact absurd g3 (by omega)
              · have e0 : decide (0 < k) = true := by rw [decide_eq_true_iff]; omega
                have e3 : decide (i1 ≤ i0) = true := by rw [decide_eq_true_iff]; omega
                clear hla
                have hw1 : IntKind.i64.wrap ((k : Int) - 1) = (k : Int) - 1 := by rw [IntKind.wrap_i64]; omega
                have hw2 : (0 : Int) ≤ (k : Int) - 1 := by omega
                have hw3 : ((k : Int) - 1).toNat = k - 1 := by omega
                have hw4 : (k : Int) - 1 < (n : Int) := by omega
                go_wp2
                go_quiet (fail)
                clear hw1 hw2 hw3 hw4 d1 e3
                go_wp2
                go_ret
                exact ⟨by rw [HF.out]; rfl, below_q HB.out _⟩
          · have HF : Hid (rightB vs = false) := Lib.hid (HBad.out (Or.inr (fun h => by have := hSh.out.1 h; omega)))
            clear HBad HNext hSh HLong HG hprev
            have hk0 : (0 : Int) ≤ (k : Int) := Int.natCast_nonneg _
            have hk8 : (k : Int) < (n : Int) := by omega
            have e1 : decide (i1 < 1) = false := by rw [decide_eq_false_iff_not]; omega
            have e2 : decide (255 < i1) = true := by rw [decide_eq_true_iff]; omega
            go_wp2
            go_quiet (fail)
            go_wp2
            go_ret
            exact ⟨by rw [HF.out]; rfl, below_q HB.out _⟩
        · have HF : Hid (rightB vs = false) := Lib.hid (HBad.out (Or.inr (fun h => by have := hSh.out.1 h; omega)))
          clear HBad HNext hSh HLong HG hprev
          have hk0 : (0 : Int) ≤ (k : Int) := Int.natCast_nonneg _
          have hk8 : (k : Int) < (n : Int) := by omega
          have e1 : decide (i1 < 1) = true := by rw [decide_eq_true_iff]; omega
          go_wp2
          go_quiet (fail)
          go_wp2
          go_ret
          exact ⟨by rw [HF.out]; rfl, below_q HB.out _⟩
      · have HE := Lib.hid (goodN_end HG.out (by rw [HN.out]; omega))
        go_wp2
        go_ret
        exact ⟨by rw [HR.out true HE.out]; rfl, HB.out⟩
  · have h4' : decide (4 < (vs.length : Int)) = true := by rw [decide_eq_true_iff]; omega
    rw [show rightB vs = false from by simp [rightB]; omega]
    clear h hf
    go_enter Try.func79, Try.ntmps79
    go_wp2
    go_ret
    exact ⟨rfl, Below.refl _ _⟩

theorem bytes_list (s : ByteArray) : s.toList = s.data.toList := by
  exact Lib.toList_data s

theorem take_eq_step {α : Type} {a b : List α} {k : Nat} (h : a.take k = b.take k) (h1 : k < a.length) (h2 : k < b.length) (he : a[k] = b[k]) : a.take (k + 1) = b.take (k + 1) := by
  rw [List.take_succ_eq_append_getElem h1, List.take_succ_eq_append_getElem h2, h, he]

theorem take_eq_all {α : Type} {a b : List α} {k : Nat} (h : a.take k = b.take k) (h1 : a.length ≤ k) (h2 : b.length ≤ k) : a = b := by
  rwa [List.take_of_length_le h1, List.take_of_length_le h2] at h

theorem ne_at {α : Type} {a b : List α} {k : Nat} (h1 : k < a.length) (h2 : k < b.length) (h : a[k] ≠ b[k]) : a ≠ b := by
  intro e; subst e; exact h rfl

def wrCells : List Wr → List Value
  | [] => []
  | x :: ws => .int .i64 x.vol :: .int .i64 x.block :: .string x.data :: wrCells ws

theorem wrCells_length (ws : List Wr) : (wrCells ws).length = ws.length * 3 := by
  induction ws with
  | nil => rfl
  | cons x ws ih => simp [wrCells, ih]; omega

theorem wrCells_append (a b : List Wr) : wrCells (a ++ b) = wrCells a ++ wrCells b := by
  induction a with
  | nil => rfl
  | cons x a ih => simp [wrCells, ih]

theorem wrCells_at {ws : List Wr} {k : Nat} (hk : k < ws.length) : (wrCells ws)[k * 3]? = some (.int .i64 ws[k].vol) ∧ (wrCells ws)[k * 3 + 1]? = some (.int .i64 ws[k].block) ∧ (wrCells ws)[k * 3 + 2]? = some (.string ws[k].data) := by
  induction ws generalizing k with
  | nil => simp at hk
  | cons x ws ih =>
    cases k with
    | zero => exact ⟨rfl, rfl, rfl⟩
    | succ k =>
      have := ih (k := k) (by simpa using hk)
      rw [show (k + 1) * 3 = k * 3 + 1 + 1 + 1 from by omega]
      simpa [wrCells] using this

theorem WrsAt.lies {w : World} {B : Nat} {A : Option Addr} {ws : List Wr} (h : WrsAt w B A ws) : Lies w B A (wrCells ws) := by
  rcases h with rfl | ⟨b, off, hA, hlt, hc⟩
  · exact .inl rfl
  · refine .inr ⟨b, off, hA, hlt, fun i hi => ?_⟩
    rw [wrCells_length] at hi
    have hk : i / 3 < ws.length := by omega
    obtain ⟨h1, h2, h3⟩ := hc (i / 3) hk
    obtain ⟨g1, g2, g3⟩ := wrCells_at hk
    have e : (wrCells ws)[i]? = some (wrCells ws)[i] := List.getElem?_eq_getElem _
    have hm : i % 3 = 0 ∨ i % 3 = 1 ∨ i % 3 = 2 := by omega
    rcases hm with h0 | h0 | h0
    · rw [show i / 3 * 3 = i from by omega, e] at g1
      rw [show off + i = off + i / 3 * 3 from by omega, h1, ← g1]
    · rw [show i / 3 * 3 + 1 = i from by omega, e] at g2
      rw [show off + i = off + i / 3 * 3 + 1 from by omega, h2, ← g2]
    · rw [show i / 3 * 3 + 2 = i from by omega, e] at g3
      rw [show off + i = off + i / 3 * 3 + 2 from by omega, h3, ← g3]

theorem WrsAt.of_lies {w : World} {B : Nat} {A : Option Addr} {ws : List Wr} (h : Lies w B A (wrCells ws)) : WrsAt w B A ws := by
  rcases h with h | ⟨b, off, hA, hlt, hc⟩
  · have := wrCells_length ws
    rw [h] at this
    exact .inl (List.eq_nil_of_length_eq_zero (by simp at this; omega))
  · refine .inr ⟨b, off, hA, hlt, fun k hk => ?_⟩
    have hl := wrCells_length ws
    obtain ⟨g1, g2, g3⟩ := wrCells_at hk
    rw [List.getElem?_eq_getElem (by omega)] at g1 g2 g3
    refine ⟨?_, ?_, ?_⟩
    · rw [hc (k * 3) (by omega)]; exact g1
    · rw [Nat.add_assoc, hc (k * 3 + 1) (by omega)]; exact g2
    · rw [Nat.add_assoc, hc (k * 3 + 2) (by omega)]; exact g3

theorem Try.infoWr : (Try.prog.info? 65).map (fun i => (i.zero, i.size, i.bytes)) = some (some (.agg #[.int .i64 0, .int .i64 0, .string ByteArray.empty]), 3, 32) := by kernel_rfl

/-- Volumes that have been built: the row of the volumes is v, the rows of their blocks are us. -/
structure OwnO (w : World) (base : Nat) (v : Value) (vs : List Vl) (us : List Value) : Prop where
  len : us.length = vs.length
  row : w.ownsRow base 127 2 v vs.length (volCells vs us)
  each : ∀ p ∈ vs.zip us, w.ownsRow base 9 1 p.2 p.1.2.length (p.1.2.map Value.string)
  gap : ∀ u ∈ us, ∀ k, u.ownBlock = some k → v.ownBlock ≠ some k ∧ k < w.heap.size

theorem OwnO.none_ (w : World) (base : Nat) : OwnO w base (.slice none 0 0) [] [] := ⟨rfl, by simpa [volCells] using World.ownsRow_nil _ _ _ _, by simp, by simp⟩

theorem OwnO.kept {w w' : World} {base : Nat} {v : Value} {vs : List Vl} {us : List Value} (h : OwnO w base v vs us) (hb : Below w.heap.size w w') : OwnO w' base v vs us :=
  ⟨h.len, own_kept h.row hb, fun p hp => own_kept (h.each p hp) hb, fun u hu k hk => ⟨(h.gap u hu k hk).1, by have := (h.gap u hu k hk).2; have := hb.size; omega⟩⟩

theorem OwnO.vols {w : World} {base : Nat} {v : Value} {vs : List Vl} {us : List Value} (h : OwnO w base v vs us) : ∃ A c, v = .slice A vs.length c ∧ VolsAt w w.heap.size A vs := by
  obtain ⟨A, c, rfl, _, hl⟩ := own_lies h.row
  exact ⟨A, c, rfl, VolsAt.of_zip h.len hl (fun p hp => own_texts (h.each p hp))⟩

/-- One volume more. -/
theorem OwnO.more {w w3 : World} {base g cap : Nat} {v u : Value} {vs : List Vl} {us : List Value} {id : Int} {bs : List ByteArray} (h : OwnO w base v vs us)
    (hu : w.ownsRow base 9 1 u bs.length (bs.map Value.string)) (hne : ∀ k, u.ownBlock = some k → v.ownBlock ≠ some k)
    (ho : w3.ownsRow base 127 2 (.slice (some ⟨g, 0, none⟩) (vs.length + 1) cap) (vs.length + 1) (volCells vs us ++ [.int .i64 id, u]))
    (hg : (w.alloc (.cells #[.int .i64 id, u] 127)).grownBy w3 v.ownBlock) (hat : v.ownBlock = some g ∨ g = w.heap.size + 1) :
    OwnO w3 base (.slice (some ⟨g, 0, none⟩) (vs.length + 1) cap) (vs ++ [(id, bs)]) (us ++ [u]) := by
  have hz : w.heap.size + 1 ≤ w3.heap.size := by have := hg.size; simpa using this
  have hub : ∀ k, u.ownBlock = some k → k < w.heap.size := fun k hk => (hu.lt k hk).2
  have hgd : ∀ k, (v.ownBlock ≠ some k) → k < w.heap.size → g ≠ k := fun k h1 h2 e => by
    subst e
    rcases hat with h3 | h3
    · exact h1 h3
    · omega
  refine ⟨by simp [h.len], ?_, fun p hp => ?_, fun x hx k hk => ?_⟩
  · rw [volCells_append h.len, List.length_append]; exact ho
  · rw [List.zip_append h.len.symm] at hp
    rcases List.mem_append.1 hp with hp | hp
    · refine ((h.each p hp).alloc _).kept hg ?_
      cases hq : p.2.ownBlock with
      | none => exact Or.inl rfl
      | some b =>
        have hpu : p.2 ∈ us := (List.of_mem_zip hp).2
        exact Or.inr (fun e => (h.gap _ hpu b hq).1 e.symm)
    · simp only [List.zip_cons_cons, List.zip_nil_right, List.mem_singleton] at hp
      subst hp
      refine (hu.alloc _).kept hg ?_
      cases hq : u.ownBlock with
      | none => exact Or.inl rfl
      | some b => exact Or.inr (fun e => hne b hq e.symm)
  · simp only [Value.ownBlock, ne_eq, Option.some.injEq]
    rcases List.mem_append.1 hx with hx | hx
    · obtain ⟨h1, h2⟩ := h.gap x hx k hk
      exact ⟨hgd k h1 h2, by omega⟩
    · simp only [List.mem_singleton] at hx
      subst hx
      exact ⟨hgd k (hne k hk) (hub k hk), by have := hub k hk; omega⟩

/-- A volume under way: it lies at block B, its blocks so far are bs. -/
structure Inner (w0 w : World) (id : Int) (bs : List ByteArray) (u : Value) : Prop where
  blk : w.heap[w0.heap.size]? = some (.cells #[.int .i64 id, u] 127 (0, 0))
  own : w.ownsRow (w0.heap.size + 1) 9 1 u bs.length (bs.map Value.string)
  bel : Below w0.heap.size w0 w

theorem Inner.first (w0 : World) (id : Int) : Inner w0 (w0.alloc (.cells #[.int .i64 id, .slice none 0 0] 127)) id [] (.slice none 0 0) :=
  ⟨heap_alloc_new _ _, by simpa using World.ownsRow_nil _ _ _ _, (Below.refl _ _).alloc (Nat.le_refl _) _⟩

theorem Inner.cells {w0 w : World} {id : Int} {bs : List ByteArray} {u : Value} (h : Inner w0 w id bs u) :
    w.cell? ⟨w0.heap.size, 0, none⟩ = some (.int .i64 id) ∧ w.cell? ⟨w0.heap.size, 1, none⟩ = some u ∧ ∀ j, w.frozen? ⟨w0.heap.size, j, none⟩ = false := by
  refine ⟨?_, ?_, fun j => Lib.frozen_of_heap h.blk j⟩ <;> rw [Lib.cell_of_heap h.blk] <;> rfl

theorem Inner.lt {w0 w : World} {id : Int} {bs : List ByteArray} {u : Value} (h : Inner w0 w id bs u) : w0.heap.size < w.heap.size := (Array.getElem?_eq_some_iff.1 h.blk).1

/-- One block more. -/
theorem Inner.step {w0 w w3 : World} {id : Int} {bs : List ByteArray} {u u' : Value} {s : ByteArray} (h : Inner w0 w id bs u)
    (ho : w3.ownsRow (w0.heap.size + 1) 9 1 u' (bs.length + 1) (bs.map Value.string ++ [.string s])) (hg : (w.alloc (.cells #[.string s] 9)).grownBy w3 u.ownBlock) :
    Inner w0 (w3.setCell ⟨w0.heap.size, 1, none⟩ u') id (bs ++ [s]) u' ∧ w3.cell? ⟨w0.heap.size, 1, none⟩ = some u ∧ w3.frozen? ⟨w0.heap.size, 1, none⟩ = false := by
  have hlt := h.lt
  have hub : ∀ k, u.ownBlock = some k → w0.heap.size + 1 ≤ k := fun k hk => (h.own.lt k hk).1
  have hub' : ∀ k, u'.ownBlock = some k → w0.heap.size + 1 ≤ k := fun k hk => (ho.lt k hk).1
  have hb3 : w3.heap[w0.heap.size]? = some (.cells #[.int .i64 id, u] 127 (0, 0)) := by
    rw [hg.block _ (by simp; omega) (fun e => by have := hub _ e.symm; omega), Below.heap_alloc _ _ _ hlt]
    exact h.blk
  refine ⟨⟨?_, ?_, ?_⟩, ?_, Lib.frozen_of_heap hb3 1⟩
  · rw [row_set hb3 1 u']; rfl
  · rw [List.length_append, List.map_append]
    exact ho.kept (row := some w0.heap.size) ⟨rfl, rfl, rfl, by simp [World.setCell], fun q _ hq => Below.heap_setCell _ _ _ _ (fun e => hq (by rw [e]))⟩ (by
      cases hq : u'.ownBlock with
      | none => exact Or.inl rfl
      | some k => exact Or.inr (fun e => by cases e; have := hub' _ hq; omega))
  · exact ((h.bel.alloc (by omega) _).grown hg (by simp; omega) (fun k hk => by have := hub k hk; omega)).setCell (by simp) _
  · rw [Lib.cell_of_heap hb3]; rfl

/-- The volume is whole: it is laid behind the others. -/
theorem built {w w0 wi w3 : World} {base g cap : Nat} {v u : Value} {vs : List Vl} {us : List Value} {id : Int} {bs : List ByteArray} (h : OwnO w0 base v vs us) (hi : Inner w0 wi id bs u) (hb0 : Below w.heap.size w w0) (hbase : base ≤ w0.heap.size)
    (ho : w3.ownsRow base 127 2 (.slice (some ⟨g, 0, none⟩) (vs.length + 1) cap) (vs.length + 1) (volCells vs us ++ [.int .i64 id, u]))
    (hg : (wi.alloc (.cells #[.int .i64 id, u] 127)).grownBy w3 v.ownBlock) (hat : v.ownBlock = some g ∨ g = wi.heap.size + 1) (hlow : w.heap.size ≤ base) :
    OwnO w3 base (.slice (some ⟨g, 0, none⟩) (vs.length + 1) cap) (vs ++ [(id, bs)]) (us ++ [u]) ∧ Below w.heap.size w w3 := by
  have h2 := h.kept hi.bel
  refine ⟨h2.more (own_base hi.own (by omega)) (fun k hk e => ?_) ho hg hat, ?_⟩
  · have h3 := (hi.own.lt k hk).1
    have h4 := (h.row.lt k e).2
    omega
  · have h1 : Below w.heap.size w wi := hb0.trans (hi.bel.mono hb0.size)
    exact (h1.alloc h1.size _).grown hg (by have := h1.size; simp; omega) (fun k hk => by have := (h.row.lt k hk).1; omega)

def prs (l : List Int) : Nat → List Vl
  | 0 => []
  | t + 1 => prs l t ++ [(l.getD (2 * t) 0, blankB (l.getD (2 * t + 1) 0).toNat)]

def prsOk (l : List Int) : Nat → Bool
  | 0 => true
  | t + 1 => prsOk l t && sizeB (l.getD (2 * t + 1) 0)

def blankOk (l : List Int) : Bool := decide (l.length % 2 = 0) && (decide (l.length ≤ 8) && (prsOk l (l.length / 2) && rightB (prs l (l.length / 2))))

theorem prs_length (l : List Int) (t : Nat) : (prs l t).length = t := by
  induction t with
  | zero => rfl
  | succ t ih => rw [prs, List.length_append, ih]; rfl

theorem prsOk_at {l : List Int} {T t : Nat} (h : prsOk l T = true) (ht : t < T) : sizeB (l.getD (2 * t + 1) 0) = true := by
  induction T with
  | zero => omega
  | succ T ih =>
    rw [prsOk, Bool.and_eq_true] at h
    by_cases e : t = T
    · subst e; exact h.2
    · exact ih h.1 (by omega)

theorem prs_bounds {l : List Int} {T : Nat} (h : prsOk l T = true) : ∀ v ∈ prs l T, v.2.length ≤ 32 := by
  induction T with
  | zero => intro v hv; simp [prs] at hv
  | succ T ih =>
    rw [prsOk, Bool.and_eq_true] at h
    intro v hv
    rw [prs] at hv
    rcases List.mem_append.1 hv with hv | hv
    · exact ih h.1 v hv
    · simp only [List.mem_singleton] at hv
      subst hv
      have : 1 ≤ l.getD (2 * T + 1) 0 ∧ l.getD (2 * T + 1) 0 ≤ 32 := by simpa [sizeB] using h.2
      simp only [blankB_length]; omega

theorem blankOk_no_size {l : List Int} {t : Nat} (ht : 2 * t + 1 < l.length) (h : sizeB (l.getD (2 * t + 1) 0) = false) : blankOk l = false := by
  have : prsOk l (l.length / 2) = false := by
    rw [Bool.eq_false_iff]
    intro hp
    have := prsOk_at hp (t := t) (by omega)
    rw [h] at this
    exact absurd this (by simp)
  simp [blankOk, this]

def blankVs (l : List Int) : List Vl := if blankOk l = true then prs l (l.length / 2) else []

theorem Lies.numB {w w' : World} {B : Nat} {a : Option Addr} {l : List Int} (h : Lies w B a (l.map (Value.int .i64))) (hb : Below B w w') {k : Nat} (hk : k < l.length) :
    ∃ b off, a = some ⟨b, off, none⟩ ∧ b < B ∧ w'.cell? ⟨b, off + k, none⟩ = some (.int .i64 (l.getD k 0)) := by
  obtain ⟨b, off, hA, hlt, hc⟩ := h.at_ (by intro e; simp at e; subst e; simp at hk)
  refine ⟨b, off, hA, hlt, ?_⟩
  rw [hb.cell (p := ⟨b, off + k, none⟩) hlt, hc k (by simpa using hk), List.getD_eq_getElem?_getD, List.getElem?_eq_getElem hk]
  simp

theorem Inner.draws {w0 w : World} {id : Int} {bs : List ByteArray} {u : Value} (h : Inner w0 w id bs u) (q : Nat) : Inner w0 (w.drewN q) id bs u := ⟨h.blk, h.own, below_q h.bel q⟩

theorem blankB_snoc (t : Nat) : blankB (t + 1) = blankB t ++ [ByteArray.empty] := by unfold blankB; rw [List.replicate_succ']

def RefBlankEnd (l : List Int) (w : World) (e : Ending) (w' : World) : Prop :=
  ∃ A n c, e = .returned (.tuple #[.slice A n c, .bool (blankOk l)]) ∧ (blankOk l = true → n = (blankVs l).length ∧ VolsAt w' w'.heap.size A (blankVs l)) ∧ Below w.heap.size w w'

theorem refBlank_no {l : List Int} (h : blankOk l = false) {w w' : World} {A : Option Addr} {n c : Nat} (hb : Below w.heap.size w w') : RefBlankEnd l w (.returned (.tuple #[.slice A n c, .bool false])) w' :=
  ⟨A, n, c, by rw [h], fun h' => by rw [h] at h'; exact absurd h' (by simp), hb⟩

set_option maxHeartbeats 8000000 in
set_option maxRecDepth 100000 in
theorem RefBlank_any {w : World} {A : Option Addr} {c : Nat} {l : List Int} (h : Lies w w.heap.size A (l.map (Value.int .i64))) (hl : l.length ≤ 9223372036854775807) :
    Calls Try.prog 46 #[.slice A l.length c] w (RefBlankEnd l w) := by
  have HV := Lib.hid h
  by_cases h8 : l.length ≤ 8
  · by_cases hev : l.length % 2 = 0
    · obtain ⟨n, hn⟩ : ∃ n, l.length = n := ⟨_, rfl⟩
      have HN := Lib.hid hn
      have HOk : Hid (∀ b, prsOk l (n / 2) = true → rightB (prs l (n / 2)) = b → blankOk l = b) := Lib.hid (fun b h1 h2 => by simp [blankOk, hn, h1, h2, show n % 2 = 0 from by omega, show n ≤ 8 from by omega])
      rw [hn] at hev h8 hl ⊢
      have e1 : ((n : Int) % 2 != 0) = false := by rw [bne_eq_false_iff_eq]; omega
      have e2 : decide (8 < (n : Int)) = false := by rw [decide_eq_false_iff_not]; omega
      obtain ⟨iv, hiv, hv0, hv1, hv2⟩ := info_parts Try.infoVol
      obtain ⟨is, his, hs0, hs1, hs2⟩ := info_parts Try.infoStrV
      clear h hn
      go_enter Try.func46, Try.ntmps46
      go_wp2_with fail
      go_loopw [4, 5] (fun o i wr => ∃ t j : Nat, 2 * t ≤ j ∧ j ≤ 2 * t ∧ j ≤ n ∧ i = .int .i64 j ∧ Hid (prsOk l t = true) ∧ (∃ us, Hid (OwnO wr w.heap.size o (prs l t) us)) ∧ Hid (Below w.heap.size w wr)) (fun _ i _ => n - (intOf i).toNat)
      case atStart => exact ⟨0, 0, by omega, by omega, Nat.zero_le _, rfl, Lib.hid rfl, ⟨[], Lib.hid (OwnO.none_ _ _)⟩, Lib.hid (Below.refl _ _)⟩
      case round =>
        obtain ⟨t, j, ht1, ht2, hj, rfl, HP, ⟨us, HO⟩, HB⟩ := hrel
        obtain ⟨w0, hw0⟩ : ∃ w0, w0 = wr := ⟨_, rfl⟩
        subst hw0
        obtain ⟨Ao, co, ho, hxx⟩ := own_lies HO.out.row
        clear hxx
        subst ho
        rw [prs_length] at HO ⊢
        have hwz : w.heap.size ≤ w0.heap.size := HB.out.size
        by_cases hlt : j < n
        · have hj1 : j + 1 < n := by omega
          have hj1' : (j : Int) + 1 < (n : Int) := by omega
          obtain ⟨b, off, hA, hbl, x1⟩ := HV.out.numB HB.out (k := j) (by rw [HN.out]; exact hlt)
          obtain ⟨b', off', hA', _, x2⟩ := HV.out.numB HB.out (k := j + 1) (by rw [HN.out]; exact hj1)
          subst hA
          cases hA'
          have hbw : b < w0.heap.size := by omega
          have HT : Hid (prs l (t + 1) = prs l t ++ [(l.getD j 0, blankB (l.getD (j + 1) 0).toNat)]) := Lib.hid (by rw [prs, show 2 * t = j from by omega])
          have HP2 : Hid (sizeB (l.getD (j + 1) 0) = true → prsOk l (t + 1) = true) := Lib.hid (fun hh => by rw [prsOk, HP.out, show 2 * t + 1 = j + 1 from by omega, hh]; rfl)
          have HNo : Hid (sizeB (l.getD (j + 1) 0) = false → blankOk l = false) := Lib.hid (fun hh => blankOk_no_size (t := t) (by rw [HN.out]; omega) (by rw [show 2 * t + 1 = j + 1 from by omega]; exact hh))
          have HX2 : Hid (∀ w', Below w.heap.size w w' → w'.cell? ⟨b, off + (j + 1), none⟩ = some (.int .i64 (l.getD (j + 1) 0))) := Lib.hid (fun w' hb => by
            obtain ⟨b'', off'', hA'', _, x2'⟩ := HV.out.numB hb (k := j + 1) (by rw [HN.out]; exact hj1)
            cases hA''
            exact x2')
          obtain ⟨id, hid⟩ : ∃ id, l.getD j 0 = id := ⟨_, rfl⟩
          obtain ⟨q, hq⟩ : ∃ q, l.getD (j + 1) 0 = q := ⟨_, rfl⟩
          rw [hid] at x1 HT
          rw [hq] at x2 HT HP2 HNo HX2
          clear hid hq
          have hj0 : (0 : Int) ≤ (j : Int) := Int.natCast_nonneg _
          have hj8 : (j : Int) < (n : Int) := by omega
          by_cases hq1 : q < 1
          · have HF : Hid (blankOk l = false) := Lib.hid (HNo.out (by simp [sizeB]; omega))
            clear HP2 HNo
            go_wp2_with fail
            go_ret2
            exact refBlank_no HF.out HB.out
          · have hq1' : decide (q < 1) = false := by rw [decide_eq_false_iff_not]; exact hq1
            by_cases hq2 : 32 < q
            · have HF : Hid (blankOk l = false) := Lib.hid (HNo.out (by simp [sizeB]; omega))
              clear HP2 HNo
              go_wp2_with fail
              go_ret2
              exact refBlank_no HF.out HB.out
            · have hq2' : decide (32 < q) = false := by rw [decide_eq_false_iff_not]; exact hq2
              have HP3 : Hid (prsOk l (t + 1) = true) := Lib.hid (HP2.out (by simp [sizeB]; omega))
              obtain ⟨m, rfl⟩ := Int.eq_ofNat_of_zero_le (show 0 ≤ q by omega)
              rw [Int.toNat_natCast] at HT
              clear HP2 HNo
              have hm32 : m ≤ 32 := by omega
              have HI0 := Lib.hid (Inner.first w0 id)
              go_wp2_with fail
              go_loopg [44] m (fun gg _ wr => ∃ s : Nat, s ≤ m ∧ m - s ≤ gg ∧ ∃ u, Hid (Inner w0 wr id (blankB s) u))
              case atStart => exact ⟨0, Nat.zero_le _, by omega, _, HI0⟩
              case round =>
                clear HI0
                obtain ⟨s, hsm, hgg, u, HI⟩ := hrel
                obtain ⟨Au, cu, hu, hxx⟩ := own_lies HI.out.own
                clear hxx
                rw [blankB_length] at hu
                subst hu
                obtain ⟨z0, z1, z2⟩ := HI.out.cells
                have HBi : Hid (Below w.heap.size w wr) := Lib.hid (HB.out.trans (HI.out.bel.mono hwz))
                have y2 := HX2.out wr HBi.out
                have hw1 : IntKind.i64.wrap ((j : Int) + 1) = (j : Int) + 1 := by rw [IntKind.wrap_i64]; omega
                have hw2 : (0 : Int) ≤ (j : Int) + 1 := by omega
                have hw3 : ((j : Int) + 1).toNat = j + 1 := by omega
                by_cases hs : s < m
                · have hs' : decide ((s : Int) < (m : Int)) = true := by rw [decide_eq_true_iff]; omega
                  go_wp2_with fail
                  go_quiet (fail)
                  clear hw1 hw2 hw3 z0 z1 z2 y2 hs'
                  have HI2 : Hid (Inner w0 (wr.drewN nq) id (blankB s) (.slice Au s cu)) := Lib.hid (HI.out.draws nq)
                  generalize wr.drewN nq = W at *
                  clear HI HBi
                  obtain ⟨z0, z1, z2⟩ := HI2.out.cells
                  have hwi : w0.heap.size < W.heap.size := HI2.out.lt
                  have HOwnI : Hid (W.ownsRow (w0.heap.size + 1) 9 1 (.slice Au s cu) s ((blankB s).map Value.string)) := Lib.hid (by have := HI2.out.own; rw [blankB_length] at this; exact this)
                  have HStep : Hid (∀ u' w3, w3.ownsRow (w0.heap.size + 1) 9 1 u' (s + 1) ((blankB s).map Value.string ++ [.string ByteArray.empty]) → (W.alloc (.cells #[.string ByteArray.empty] 9)).grownBy w3 (Value.slice Au s cu).ownBlock → Inner w0 (w3.setCell ⟨w0.heap.size, 1, none⟩ u') id (blankB (s + 1)) u' ∧ w3.cell? ⟨w0.heap.size, 1, none⟩ = some (.slice Au s cu) ∧ w3.frozen? ⟨w0.heap.size, 1, none⟩ = false) := Lib.hid (fun u' w3 ho hg => by
                    rw [blankB_snoc]
                    exact HI2.out.step (by rw [blankB_length]; exact ho) hg)
                  go_wp2_with (at_builtin; refine wpList_append_own _ rfl (.tmp 52) (.tmp 53) 125 rfl (w0.heap.size + 1) 9 is (.string ByteArray.empty) 1 16 Try.underlying125 his hs0 hs1 hs2 rfl (by decide) (.slice Au s cu) s _ rfl (HOwnI.out.alloc _) ⟨W.heap.size, 0, none⟩ 1 1 [.string ByteArray.empty] rfl rfl (cell_one_new _ _ _) ?c2 ?c3 ?c4 ?c5 ?_)
                  case c2 => intro u hu; simp only [List.mem_singleton] at hu; subst hu; rfl
                  case c3 => unfold maxLen; omega
                  case c4 => omega
                  case c5 => simp; omega
                  intro u' w3 ho3 hg3 _
                  obtain ⟨hI3, m1, m2⟩ := HStep.out u' w3 ho3 hg3
                  obtain ⟨Au3, cu3, hu3, hxx⟩ := own_lies ho3
                  have HI3 := Lib.hid hI3
                  clear ho3 hg3 hI3 hxx
                  subst hu3
                  go_wp2_with fail
                  go_roundg (m - (s + 1))
                  case measure => omega
                  case rel => exact ⟨s + 1, by omega, by omega, _, HI3⟩
                · have hs' : decide ((s : Int) < (m : Int)) = false := by rw [decide_eq_false_iff_not]; omega
                  go_wp2_with fail
                  go_quiet (fail)
                  clear hw1 hw2 hw3 z0 z1 z2 y2 hs'
                  have HI2 : Hid (Inner w0 (wr.drewN nq) id (blankB m) (.slice Au s cu)) := Lib.hid (by have := HI.out.draws nq; rwa [show s = m from by omega] at this ⊢)
                  generalize wr.drewN nq = W at *
                  clear HI HBi
                  obtain ⟨z0, z1, z2⟩ := HI2.out.cells
                  have hwi : w0.heap.size < W.heap.size := HI2.out.lt
                  have HOwnV : Hid (W.ownsRow w.heap.size 127 2 (.slice Ao t co) t (volCells (prs l t) us)) := Lib.hid (by have := (HO.out.kept HI2.out.bel).row; rw [prs_length] at this; exact this)
                  have HEnd : Hid (∀ g cap w3, w3.ownsRow w.heap.size 127 2 (.slice (some ⟨g, 0, none⟩) (t + 1) cap) (t + 1) (volCells (prs l t) us ++ [.int .i64 id, .slice Au s cu]) → (W.alloc (.cells #[.int .i64 id, .slice Au s cu] 127)).grownBy w3 (Value.slice Ao t co).ownBlock → ((Value.slice Ao t co).ownBlock = some g ∨ g = W.heap.size + 1) → OwnO w3 w.heap.size (.slice (some ⟨g, 0, none⟩) (t + 1) cap) (prs l (t + 1)) (us ++ [.slice Au s cu]) ∧ Below w.heap.size w w3) := Lib.hid (fun g cap w3 ho hg hat => by
                    have := built (w := w) HO.out HI2.out HB.out hwz (by rw [prs_length]; exact ho) hg hat (Nat.le_refl _)
                    rw [prs_length] at this
                    rw [HT.out]
                    exact this)
                  go_wp2_with (at_builtin; refine wpList_append_lies _ rfl (.tmp 56) (.tmp 58) 88 rfl w.heap.size 127 iv (.agg #[.int .i64 0, .slice none 0 0]) 2 32 Try.underlying88 hiv hv0 hv1 hv2 rfl (by decide) (.slice Ao t co) t _ rfl (HOwnV.out.alloc _) ⟨W.heap.size, 0, none⟩ 1 1 [.int .i64 id, .slice Au s cu] rfl rfl ?d1 ?d2 (by omega) ?d3 ?d4 ?d5 (W.heap.size + 1) ?d6 ?_)
                  case d1 =>
                    intro j x hx
                    rw [WideShapes.add_plain, Nat.zero_add, Lib.cell_of_heap (heap_alloc_new _ _)]
                    simpa using hx
                  case d2 => intro x hx; simp only [List.mem_cons, List.not_mem_nil, or_false] at hx; rcases hx with rfl | rfl <;> rfl
                  case d3 => unfold maxLen; omega
                  case d4 => omega
                  case d5 => simp; omega
                  case d6 => simp
                  intro g cap w3 ho3 hg3 hat3 _
                  obtain ⟨hE1, hE2⟩ := HEnd.out g cap w3 ho3 hg3 hat3
                  have HE1 := Lib.hid hE1
                  have HE2 := Lib.hid hE2
                  clear ho3 hg3 hat3 hE1 hE2
                  go_wp2_with fail
                  go_roundw
                  case rel => exact ⟨t + 1, j + 2, by omega, by omega, by omega, by go_num, HP3, ⟨_, HE1⟩, HE2⟩
                  case measure => simp [intOf]; omega
        · have HTn : Hid (t = n / 2) := Lib.hid (by omega)
          have hjn : decide ((j : Int) + 1 < (n : Int)) = false := by rw [decide_eq_false_iff_not]; omega
          have HFt : Hid (VolsFit (prs l t)) := Lib.hid ⟨by rw [prs_length]; omega, fun v hv => by have := prs_bounds HP.out v hv; omega⟩
          obtain ⟨A9, c9, hv9, hvol9⟩ := HO.out.vols
          rw [prs_length] at hv9
          simp only [Value.slice.injEq] at hv9
          obtain ⟨rfl, _, rfl⟩ := hv9
          have HVol := Lib.hid hvol9
          have HRt : Hid (∀ c, Calls Try.prog 79 #[.slice Ao t c] w0 fun e w' => e = .returned (.bool (blankOk l)) ∧ Below w0.heap.size w0 w') := Lib.hid (fun c => by
            have := RefRight_any (c := c) HVol.out HFt.out
            have hk : blankOk l = rightB (prs l t) := HOk.out _ (by rw [← HTn.out]; exact HP.out) (by rw [HTn.out])
            rw [prs_length, ← hk] at this
            exact this)
          have HE : Hid (∀ w1, Below w0.heap.size w0 w1 → RefBlankEnd l w (.returned (.tuple #[.slice Ao t co, .bool (blankOk l)])) w1) := Lib.hid (fun w1 hb => by
            refine ⟨Ao, t, co, rfl, fun hk => ?_, below_next HB.out hb⟩
            unfold blankVs
            rw [if_pos hk, HN.out, ← HTn.out, prs_length]
            exact ⟨rfl, HVol.out.next hb⟩)
          clear hvol9
          go_wp2_with (go_at_call 79; refine (HRt.out _).mono ?_; rintro e w1 ⟨rfl, hb⟩; have HE1 := Lib.hid (HE.out w1 hb); clear hb)
          go_ret2
          exact HE1.out
    · have e1 : ((l.length : Int) % 2 != 0) = true := by rw [bne_iff_ne]; omega
      have e2 : decide (8 < (l.length : Int)) = false := by rw [decide_eq_false_iff_not]; omega
      have HF : Hid (blankOk l = false) := Lib.hid (by simp [blankOk, hev])
      clear h
      go_enter Try.func46, Try.ntmps46
      go_wp2_with fail
      go_ret2
      exact refBlank_no HF.out (Below.refl _ _)
  · have e2 : decide (8 < (l.length : Int)) = true := by rw [decide_eq_true_iff]; omega
    have HF : Hid (blankOk l = false) := Lib.hid (by simp [blankOk, h8])
    clear h
    go_enter Try.func46, Try.ntmps46
    go_wp2_with fail
    go_ret2
    exact refBlank_no HF.out (Below.refl _ _)

end Go.Proofs.Ytkpoeigoocbgeaa

namespace Go.Proofs.Ytkpoeigoocbgeaa
open Go.Shelf Go.RowKit Go.Lib Go.Sort
/-- What a call that hands back writes leaves. -/
def WrsEnd (us : List Wr) (w : World) (e : Ending) (w' : World) : Prop :=
  ∃ A c, e = .returned (.slice A us.length c) ∧ WrsAt w' w'.heap.size A us ∧ (A = none → c = 0) ∧ Below w.heap.size w w'

theorem cell_three_new (w : World) (a b c : Value) (t : TypeId) : ∀ j u, [a, b, c][j]? = some u → (w.alloc (.cells #[a, b, c] t)).cell? (Addr.add ⟨w.heap.size, 0, none⟩ j) = some u := fun j u hj => by
  rw [WideShapes.add_plain, Nat.zero_add, Lib.cell_of_heap (heap_alloc_new _ _)]
  simpa using hj

theorem own_end {w0 w : World} {base : Nat} {v : Value} {us : List Wr} {t : TypeId} (h : w.ownsRow base t 3 v us.length (wrCells us)) (hb : Below w0.heap.size w0 w) : WrsEnd us w0 (.returned v) w := by
  obtain ⟨A, c, rfl, _, hl⟩ := own_lies h
  refine ⟨A, c, rfl, WrsAt.of_lies hl, fun e => ?_, hb⟩
  subst e
  rcases h.2 with ⟨e, _⟩ | ⟨g, cap, cur, e, _⟩
  · simp only [Value.slice.injEq] at e; exact e.2.2
  · simp only [Value.slice.injEq] at e; exact absurd e.1 (by simp)

set_option maxHeartbeats 1000000 in
set_option maxRecDepth 100000 in
theorem less_any (x y : Wr) (W : World) : Calls Try.prog 76 #[.agg #[.int .i64 x.vol, .int .i64 x.block, .string x.data], .agg #[.int .i64 y.vol, .int .i64 y.block, .string y.data]] W fun e w' => e = .returned (.bool (ltW x y)) ∧ ∃ q os', w' = grow (W.drewN q) os' := by
  obtain ⟨v1, b1, s1⟩ := x
  obtain ⟨v2, b2, s2⟩ := y
  simp only
  by_cases h1 : v1 < v2
  · rw [show ltW ⟨v1, b1, s1⟩ ⟨v2, b2, s2⟩ = true from by rw [ltW_iff]; exact Or.inl h1]
    go_enter Try.func76, Try.ntmps76
    go_wp2
    go_ret
    exact ⟨rfl, 0, _, by rw [alloc_eq_grow, alloc_eq_grow, grow_grow]; rfl⟩
  · by_cases h2 : v1 = v2
    · subst h2
      by_cases h3 : b1 < b2
      · rw [show ltW ⟨v1, b1, s1⟩ ⟨v1, b2, s2⟩ = true from by rw [ltW_iff]; exact Or.inr ⟨rfl, h3⟩]
        go_enter Try.func76, Try.ntmps76
        go_wp2
        go_ret
        exact ⟨rfl, 0, _, by rw [alloc_eq_grow, alloc_eq_grow, grow_grow]; rfl⟩
      · rw [show ltW ⟨v1, b1, s1⟩ ⟨v1, b2, s2⟩ = false from by rw [ltW_not]; simp only; omega]
        go_enter Try.func76, Try.ntmps76
        go_wp2
        go_ret
        exact ⟨rfl, 0, _, by rw [alloc_eq_grow, alloc_eq_grow, grow_grow]; rfl⟩
    · rw [show ltW ⟨v1, b1, s1⟩ ⟨v2, b2, s2⟩ = false from by rw [ltW_not]; simp only; omega]
      have h2' : (v1 == v2) = false := by rw [beq_eq_false_iff_ne]; exact h2
      go_enter Try.func76, Try.ntmps76
      go_wp2
      go_ret
      exact ⟨rfl, 0, _, by rw [alloc_eq_grow, alloc_eq_grow, grow_grow]; rfl⟩

/-- The same writes? -/
noncomputable def eqW (a b : List Wr) : Bool := @decide (a = b) (Classical.propDecidable _)

theorem eqW_self (a : List Wr) : eqW a a = true := by unfold eqW; exact @decide_eq_true _ (Classical.propDecidable _) rfl

theorem eqW_ne {a b : List Wr} (h : a ≠ b) : eqW a b = false := by unfold eqW; exact @decide_eq_false _ (Classical.propDecidable _) h

def sameW (x y : Wr) : Bool := (x.vol == y.vol) && ((x.block == y.block) && (x.data.toList == y.data.toList))

theorem sameW_self (x : Wr) : sameW x x = true := by simp [sameW]

theorem sameW_ne {x y : Wr} (h : x ≠ y) : sameW x y = false := by
  rw [Bool.eq_false_iff]
  intro e
  simp only [sameW, Bool.and_eq_true, beq_iff_eq] at e
  refine h (wr_ext e.1 e.2.1 ?_)
  have := e.2.2
  rw [bytes_list, bytes_list] at this
  rw [← str_of x.data, ← str_of y.data, this]

set_option maxRecDepth 100000 in
theorem eqlIn_write (x y : Wr) (w : World) : (Op.equalIn 10000 65 (.agg #[.int .i64 x.vol, .int .i64 x.block, .string x.data]) (.agg #[.int .i64 y.vol, .int .i64 y.block, .string y.data])).run Try.prog w = .ok (sameW x y) w := by
  rw [run_equalIn_struct w 9999 65 _ _ (by kernel_rfl) (by kernel_rfl)]
  have hf : (Try.prog.fieldsOf 65).toList.map (fun f => (f.name, f.type, f.offset)) = [("Vol", 3, 0), ("Block", 3, 1), ("Data", 9, 2)] := by kernel_rfl
  obtain ⟨fs, hfs⟩ : ∃ fs, (Try.prog.fieldsOf 65).toList = fs := ⟨_, rfl⟩
  rw [hfs] at hf ⊢
  match fs, hf with
  | [f1, f2, f3], hf =>
    simp only [List.map_cons, List.map_nil, List.cons.injEq, Prod.mk.injEq, and_true] at hf
    obtain ⟨⟨a1, a2, a3⟩, ⟨b1, b2, b3⟩, ⟨c1, c2, c3⟩⟩ := hf
    simp only [Op.eqFields, a1, a2, a3, b1, b2, b3, c1, c2, c3]
    have q1 := run_equalIn_int (P := Try.prog) w 9998 3 .i64 .i64 x.vol y.vol Try.underlying3
    have q2 := run_equalIn_int (P := Try.prog) w 9998 3 .i64 .i64 x.block y.block Try.underlying3
    have q3 := run_equalIn_string (P := Try.prog) w 9998 9 x.data y.data Try.underlying9
    unfold sameW
    cases h1 : x.vol == y.vol <;> rw [h1] at q1 <;> cases h2 : x.block == y.block <;> rw [h2] at q2 <;> cases h3 : x.data.toList == y.data.toList <;> rw [h3] at q3 <;> simp [part, q1, q2, q3, Try.isAgg3, Try.isAgg9, Sem.run_bind, Result.andThen]

theorem neq_write (x y : Wr) (w : World) : (binOp .neq 65 (.agg #[.int .i64 x.vol, .int .i64 x.block, .string x.data]) (.agg #[.int .i64 y.vol, .int .i64 y.block, .string y.data])).run Try.prog w = .ok (.bool (!sameW x y)) w := by
  rw [run_neq_struct, eqlIn_write]; rfl

theorem guard_write (op : BinOp) (x y : Operand) (xs ys : Array Value) (w : World) : (eqGuard op 65 x y (.agg xs) (.agg ys)).run Try.prog w = .ok () w := run_eqGuard_agg w op _ x y xs ys (by kernel_rfl)

set_option maxHeartbeats 2000000 in
set_option maxRecDepth 100000 in
theorem RefEqW_any {w : World} {A1 A2 : Option Addr} {c1 c2 : Nat} {xs ys : List Wr} (h1 : WrsAt w w.heap.size A1 xs) (h2 : WrsAt w w.heap.size A2 ys) (hl1 : xs.length ≤ 9223372036854775807) :
    Calls Try.prog 21 #[.slice A1 xs.length c1, .slice A2 ys.length c2] w fun e w' => e = .returned (.bool (eqW xs ys)) ∧ Below w.heap.size w w' := by
  by_cases hlen : xs.length = ys.length
  · have H1 := Lib.hid h1
    have H2 := Lib.hid h2
    have mixed : Try.prog.follows .mixedOrders = true := by kernel_rfl
    obtain ⟨n, hn⟩ : ∃ n, xs.length = n := ⟨_, rfl⟩
    have HN1 := Lib.hid hn
    have HN2 : Hid (ys.length = n) := Lib.hid (by rw [← hlen]; exact hn)
    rw [← hlen, hn]
    rw [hn] at hl1
    clear h1 h2 hn hlen
    go_enter Try.func21, Try.ntmps21
    go_wp2
    go_loopg [5] n (fun kx i wr => ∃ k : Nat, k ≤ n ∧ n - k ≤ kx ∧ i = .int .i64 k ∧ Hid (xs.take k = ys.take k) ∧ Hid (Below w.heap.size w wr))
    case atStart => exact ⟨0, Nat.zero_le _, by omega, rfl, Lib.hid (by simp), Lib.hid (Below.refl _ _)⟩
    case round =>
      obtain ⟨k, hk, hkx, rfl, HK, HB⟩ := hrel
      by_cases hlt : k < n
      · have hk1 : k < xs.length := by rw [HN1.out]; exact hlt
        have hk2 : k < ys.length := by rw [HN2.out]; exact hlt
        obtain ⟨b1, o1, hA1, _, x1, x2, x3⟩ := H1.out.at_ HB.out hk1
        obtain ⟨b2, o2, hA2, _, y1, y2, y3⟩ := H2.out.at_ HB.out hk2
        subst hA1
        subst hA2
        have HNo : Hid (xs[k] ≠ ys[k] → eqW xs ys = false) := Lib.hid (fun h => eqW_ne (ne_at hk1 hk2 h))
        have HYes : Hid (xs[k] = ys[k] → xs.take (k + 1) = ys.take (k + 1)) := Lib.hid (fun h => take_eq_step HK.out hk1 hk2 h)
        obtain ⟨u, hu⟩ : ∃ u, xs[k] = u := ⟨_, rfl⟩
        obtain ⟨v, hv⟩ : ∃ v, ys[k] = v := ⟨_, rfl⟩
        rw [hu] at x1 x2 x3 HNo HYes
        rw [hv] at y1 y2 y3 HNo HYes
        clear hu hv hk1 hk2 HK
        obtain ⟨i1, j1, s1⟩ := u
        obtain ⟨i2, j2, s2⟩ := v
        simp only at x1 x2 x3 y1 y2 y3
        have hk0 : (0 : Int) ≤ (k : Int) := Int.natCast_nonneg _
        have hk8 : (k : Int) < (n : Int) := by omega
        have hne := neq_write ⟨i1, j1, s1⟩ ⟨i2, j2, s2⟩
        have hgd := guard_write
        simp only at hne
        by_cases he : (⟨i1, j1, s1⟩ : Wr) = ⟨i2, j2, s2⟩
        · have HE := Lib.hid (HYes.out he)
          rw [he, sameW_self] at hne
          simp only [Bool.not_true] at hne
          have e1 : i1 = i2 := congrArg Wr.vol he
          have e2 : j1 = j2 := congrArg Wr.block he
          have e3 : s1 = s2 := congrArg Wr.data he
          subst e1
          subst e2
          subst e3
          clear he HYes HNo
          go_wp2_with fail
          go_quiet (fail)
          go_wp2_with fail
          go_roundg (n - (k + 1))
          case measure => omega
          case rel => exact ⟨k + 1, by omega, Nat.le_refl _, by go_num, HE, Lib.hid (HB.out.trans ⟨rfl, rfl, rfl, Nat.le_refl _, fun _ _ => rfl⟩)⟩
        · have HE := Lib.hid (HNo.out he)
          rw [sameW_ne he] at hne
          simp only [Bool.not_false] at hne
          clear he HYes HNo
          go_wp2_with fail
          go_quiet (fail)
          go_wp2_with fail
          go_ret
          exact ⟨by rw [HE.out]; rfl, HB.out.trans ⟨rfl, rfl, rfl, Nat.le_refl _, fun _ _ => rfl⟩⟩
      · have hltz : ¬ (k : Int) < (n : Int) := by omega
        have HE : Hid (eqW xs ys = true) := Lib.hid (by rw [take_eq_all HK.out (by rw [HN1.out]; omega) (by rw [HN2.out]; omega)]; exact eqW_self _)
        go_wp2_with fail
        go_ret
        exact ⟨by rw [HE.out]; rfl, HB.out⟩
  · have hlz : ((xs.length : Int) != (ys.length : Int)) = true := by rw [bne_iff_ne]; omega
    have HE : Hid (eqW xs ys = false) := Lib.hid (eqW_ne (fun e => hlen (by rw [e])))
    clear h1 h2 hlen
    go_enter Try.func21, Try.ntmps21
    go_wp2
    go_ret
    exact ⟨by rw [HE.out]; rfl, Below.refl _ _⟩

end Go.Proofs.Ytkpoeigoocbgeaa

namespace Go.Proofs.Ytkpoeigoocbgeaa
/-- Still to come: greater than the last one. -/
def candB (out : List Wr) (y : Wr) : Bool := match out.getLast? with
  | none => true
  | some l => ltW l y

theorem candB_last {out : List Wr} {l : Wr} (h : out.getLast? = some l) (y : Wr) : candB out y = ltW l y := by unfold candB; rw [h]

theorem candB_snoc (out : List Wr) (z y : Wr) : candB (out ++ [z]) y = ltW z y := by unfold candB; rw [List.getLast?_append]; rfl

/-- The best of the first i: -1 where none is still to come. -/
structure BestAt (ws out : List Wr) (i : Nat) (best : Int) : Prop where
  none_ : best < 0 → ∀ t, (h : t < ws.length) → t < i → candB out ws[t] = false
  some_ : 0 ≤ best → ∃ (b : Nat) (hb : b < ws.length), best = (b : Int) ∧ b < i ∧ candB out ws[b] = true ∧ ∀ t, (h : t < ws.length) → t < i → candB out ws[t] = true → ltW ws[t] ws[b] = false ∧ (b < t → ltW ws[b] ws[t] = true)

theorem best_start (ws out : List Wr) : BestAt ws out 0 (-1) := ⟨fun _ t _ h => by omega, fun h => by omega⟩

theorem best_skip {ws out : List Wr} {i : Nat} {best : Int} (h : BestAt ws out i best) (hi : i < ws.length) (hc : candB out ws[i] = false) : BestAt ws out (i + 1) best := by
  refine ⟨fun hb t ht h1 => ?_, fun hb => ?_⟩
  · by_cases e : t = i
    · subst e; exact hc
    · exact h.none_ hb t ht (by omega)
  · obtain ⟨b, hb1, e1, e2, e3, e4⟩ := h.some_ hb
    refine ⟨b, hb1, e1, by omega, e3, fun t ht h1 h2 => ?_⟩
    by_cases e : t = i
    · subst e; rw [hc] at h2; cases h2
    · exact e4 t ht (by omega) h2

theorem best_take {ws out : List Wr} {i : Nat} {best : Int} (h : BestAt ws out i best) (hi : i < ws.length) (hc : candB out ws[i] = true) (hl : ∀ (b : Nat) (hb : b < ws.length), best = (b : Int) → ltW ws[b] ws[i] = false) : BestAt ws out (i + 1) (i : Int) := by
  refine ⟨fun hb => by omega, fun _ => ⟨i, hi, rfl, by omega, hc, fun t ht h1 h2 => ?_⟩⟩
  by_cases e : t = i
  · subst e; exact ⟨ltW_irr _, fun h => by omega⟩
  · refine ⟨?_, fun h => by omega⟩
    by_cases hb : best < 0
    · have := h.none_ hb t ht (by omega); rw [this] at h2; cases h2
    · obtain ⟨b, hb1, e1, e2, e3, e4⟩ := h.some_ (by omega)
      have g1 := (e4 t ht (by omega) h2).1
      have g2 := hl b hb1 e1
      rw [ltW_not] at *; omega

theorem best_keep {ws out : List Wr} {i b : Nat} (h : BestAt ws out i (b : Int)) (hi : i < ws.length) (hb : b < ws.length) (hl : ltW ws[b] ws[i] = true) : BestAt ws out (i + 1) (b : Int) := by
  refine ⟨fun h => by omega, fun _ => ?_⟩
  obtain ⟨b', hb1, e1, e2, e3, e4⟩ := h.some_ (by omega)
  obtain rfl : b' = b := by omega
  refine ⟨b', hb1, e1, by omega, e3, fun t ht h1 h2 => ?_⟩
  by_cases e : t = i
  · subst e
    refine ⟨?_, fun _ => hl⟩
    rw [ltW_iff] at hl
    rw [ltW_not]; omega
  · exact e4 t ht (by omega) h2

/-- What has been put out so far. -/
structure OutAt (ws out : List Wr) : Prop where
  sorted : sortedW out
  last : ∀ x ∈ out, lastF ws x.vol x.block = some x.data
  rest : ∀ y ∈ ws, candB out y = true ∨ ∃ x ∈ out, x.vol = y.vol ∧ x.block = y.block

theorem out_start (ws : List Wr) : OutAt ws [] := ⟨trivial, by simp, fun _ _ => Or.inl rfl⟩

theorem out_end {ws out : List Wr} (h : OutAt ws out) (hn : ∀ t, (ht : t < ws.length) → candB out ws[t] = false) : out = foldW ws := by
  refine foldW_of h.sorted (fun v b => ?_)
  by_cases hx : ∃ x ∈ out, x.vol = v ∧ x.block = b
  · obtain ⟨x, hx1, rfl, rfl⟩ := hx
    rw [lastF_sorted h.sorted hx1, h.last x hx1]
  · rw [lastF_none (fun x hx1 hk => hx ⟨x, hx1, hk.1, hk.2⟩), lastF_none (fun y hy hk => ?_)]
    rcases h.rest y hy with e | ⟨x, hx1, e1, e2⟩
    · obtain ⟨t, ht, rfl⟩ := List.getElem_of_mem hy
      rw [hn t ht] at e; cases e
    · exact hx ⟨x, hx1, by omega, by omega⟩

theorem sortedW_snoc {l : List Wr} {z : Wr} (h : sortedW l) (hz : ∀ x ∈ l, ltW x z = true) : sortedW (l ++ [z]) := by
  induction l with
  | nil => exact ⟨by simp, trivial⟩
  | cons x r ih =>
    refine ⟨fun y hy => ?_, ih h.2 (fun y hy => hz y (List.mem_cons_of_mem _ hy))⟩
    rcases List.mem_append.1 hy with hy | hy
    · exact h.1 y hy
    · simp only [List.mem_singleton] at hy
      subst hy; exact hz x List.mem_cons_self

theorem sortedW_last {l : List Wr} (h : sortedW l) {z x : Wr} (hz : l.getLast? = some z) (hx : x ∈ l) : x = z ∨ ltW x z = true := by
  induction l with
  | nil => cases hx
  | cons a r ih =>
    cases r with
    | nil =>
      simp at hz hx
      exact Or.inl (by rw [hx, hz])
    | cons b r' =>
      rw [List.getLast?_cons_cons] at hz
      rcases List.mem_cons.1 hx with e | e
      · subst e
        exact Or.inr (h.1 z (List.mem_of_getLast? hz))
      · exact ih h.2 hz e

theorem lastF_at {l : List Wr} {b : Nat} (hb : b < l.length) (h : ∀ t, (ht : t < l.length) → b < t → ¬ (l[t].vol = l[b].vol ∧ l[t].block = l[b].block)) : lastF l l[b].vol l[b].block = some l[b].data := by
  induction l generalizing b with
  | nil => simp at hb
  | cons x r ih =>
    rw [lastF]
    cases b with
    | zero =>
      simp only [List.getElem_cons_zero] at h ⊢
      rw [lastF_none (fun y hy hk => by
        obtain ⟨t, ht, rfl⟩ := List.getElem_of_mem hy
        exact h (t + 1) (by simpa using ht) (by omega) (by simpa using hk))]
      simp
    | succ b =>
      simp only [List.getElem_cons_succ] at h ⊢
      rw [ih (b := b) (by simpa using hb) (fun t ht hlt => by
        have := h (t + 1) (by simpa using ht) (by omega)
        simpa using this)]

theorem out_step {ws out : List Wr} {b : Nat} (h : OutAt ws out) (hB : BestAt ws out ws.length (b : Int)) (hb : b < ws.length) : OutAt ws (out ++ [ws[b]]) := by
  obtain ⟨b', hb1, e1, e2, e3, e4⟩ := hB.some_ (by omega)
  obtain rfl : b' = b := by omega
  refine ⟨sortedW_snoc h.sorted (fun x hx => ?_), fun x hx => ?_, fun y hy => ?_⟩
  · cases hl : out.getLast? with
    | none => rw [List.getLast?_eq_none_iff] at hl; rw [hl] at hx; cases hx
    | some l =>
      rw [candB_last hl] at e3
      rcases sortedW_last h.sorted hl hx with e | e
      · rw [e]; exact e3
      · exact ltW_trans e e3
  · rcases List.mem_append.1 hx with hx | hx
    · exact h.last x hx
    · simp only [List.mem_singleton] at hx
      subst hx
      refine lastF_at hb (fun t ht hlt hk => ?_)
      have hc : candB out ws[t] = true := by
        cases hl : out.getLast? with
        | none => unfold candB; rw [hl]
        | some l =>
          rw [candB_last hl] at e3 ⊢
          rw [ltW_iff] at e3 ⊢; omega
      have := (e4 t ht ht hc).2 hlt
      rw [ltW_iff] at this; omega
  · rw [candB_snoc]
    rcases h.rest y hy with e | ⟨x, hx1, g1, g2⟩
    · obtain ⟨t, ht, rfl⟩ := List.getElem_of_mem hy
      have g := (e4 t ht ht e).1
      by_cases c : ltW ws[b'] ws[t] = true
      · exact Or.inl c
      · refine Or.inr ⟨ws[b'], by simp, ?_⟩
        exact ltW_total (by simpa using c) g
    · exact Or.inr ⟨x, List.mem_append_left _ hx1, g1, g2⟩

/-- How many are still to come. -/
def leftB (ws out : List Wr) : Nat := (ws.filter (candB out)).length

theorem left_less {ws out : List Wr} {b : Nat} (hb : b < ws.length) (hc : candB out ws[b] = true) : leftB ws (out ++ [ws[b]]) < leftB ws out := by
  unfold leftB
  have e : ws.filter (candB (out ++ [ws[b]])) = (ws.filter (candB out)).filter (candB (out ++ [ws[b]])) := by
    rw [List.filter_filter]
    congr 1
    funext y
    cases hy : candB (out ++ [ws[b]]) y with
    | false => rfl
    | true =>
      rw [candB_snoc] at hy
      rw [Bool.true_and]
      cases hl : out.getLast? with
      | none => unfold candB; rw [hl]
      | some l => rw [candB_last hl] at hc ⊢; exact (ltW_trans hc hy).symm
  rw [e]
  rw [List.length_filter_lt_length_iff_exists]
  exact ⟨ws[b], List.mem_filter.2 ⟨List.getElem_mem hb, hc⟩, by rw [candB_snoc, ltW_irr]; simp⟩

end Go.Proofs.Ytkpoeigoocbgeaa

namespace Go.Proofs.Ytkpoeigoocbgeaa
open Go.Shelf Go.RowKit Go.Lib Go.Sort
theorem below_grown (w : World) (q : Nat) (os : Array Obj) : Below w.heap.size w (grow (w.drewN q) os) :=
  ⟨rfl, rfl, rfl, by rw [size_grow]; exact Nat.le_add_right _ _, fun i hi => by
    show (w.heap ++ os)[i]? = _
    rw [Array.getElem?_append_left hi]⟩

/-- One write of a row, in every world of the class. -/
theorem WrsAt.grown_at {w wr : World} {B : Nat} {A : Option Addr} {ws : List Wr} (h : WrsAt w B A ws) (hb : Below B w wr) (hB : B ≤ wr.heap.size) {i : Nat} (hi : i < ws.length) :
    ∃ b off, A = some ⟨b, off, none⟩ ∧ (∀ q os, (grow (wr.drewN q) os).cell? ⟨b, off + i * 3, none⟩ = some (.int .i64 ws[i].vol)) ∧ (∀ q os, (grow (wr.drewN q) os).cell? ⟨b, off + i * 3 + 1, none⟩ = some (.int .i64 ws[i].block)) ∧ (∀ q os, (grow (wr.drewN q) os).cell? ⟨b, off + i * 3 + 2, none⟩ = some (.string ws[i].data)) := by
  obtain ⟨b, off, hA, hlt, h1, h2, h3⟩ := h.at_ hb hi
  exact ⟨b, off, hA, fun q os => cell_grown (by show b < _; omega) h1 q os, fun q os => cell_grown (by show b < _; omega) h2 q os, fun q os => cell_grown (by show b < _; omega) h3 q os⟩

set_option maxHeartbeats 8000000 in
set_option maxRecDepth 100000 in
theorem RefFold_any {w : World} {A : Option Addr} {c : Nat} {ws : List Wr} (h : WrsAt w w.heap.size A ws) (hn : ws.length ≤ 4000) :
    Calls Try.prog 41 #[.slice A ws.length c] w (WrsEnd (foldW ws) w) := by
  have HV := Lib.hid h
  have mixed : Try.prog.follows .mixedOrders = true := by kernel_rfl
  obtain ⟨i0, hi0, hz0, hz1, hz2⟩ := info_parts Try.infoWr
  obtain ⟨n, hnn⟩ : ∃ n, ws.length = n := ⟨_, rfl⟩
  have HN := Lib.hid hnn
  rw [hnn] at hn ⊢
  clear h hnn
  go_enter Try.func41, Try.ntmps41
  go_wp2
  go_loopg [3] (n + 1) (fun kx s3 wr => ∃ (m lf : Nat) (out : List Wr), out.length = m ∧ m + lf ≤ n ∧ lf + 1 ≤ kx ∧ Hid (leftB ws out = lf) ∧ Hid (OutAt ws out) ∧ Hid (wr.ownsRow w.heap.size 65 3 s3 m (wrCells out)) ∧ Hid (Below w.heap.size w wr))
  case atStart => exact ⟨0, n, [], rfl, by omega, Nat.le_refl _, Lib.hid (by rw [← HN.out]; unfold leftB; rw [show candB [] = fun _ => true from rfl]; simp), Lib.hid (out_start _), Lib.hid (World.ownsRow_nil _ _ _ _), Lib.hid (Below.refl _ _)⟩
  case round =>
    obtain ⟨m, lf, out, hm, hml, hkx, HL, HOut, HO, HB⟩ := hrel
    obtain ⟨A4, c4, h4, hxx, hlies⟩ := own_lies HO.out
    have HAo : Hid (WrsAt wr wr.heap.size A4 out) := Lib.hid (WrsAt.of_lies hlies)
    clear hxx hlies
    subst h4
    have hwz : w.heap.size ≤ wr.heap.size := HB.out.size
    obtain ⟨W0, hW0⟩ : ∃ W0, W0 = wr := ⟨_, rfl⟩
    subst hW0
    generalize hm1 : (-1 : Int) = m1
    have HM1 : Hid (m1 = -1) := Lib.hid hm1.symm
    have hm1' : m1 < 0 := by omega
    clear hm1
    go_wp2_with fail
    go_loopg [4, 5] n (fun kx s4 s5 wr => ∃ (i : Nat) (best : Int), s4 = .int .i64 best ∧ s5 = .int .i64 i ∧ i ≤ n ∧ n - i ≤ kx ∧ -1 ≤ best ∧ best < (i : Int) + 1 ∧ Hid (BestAt ws out i best) ∧ Hid (Below W0.heap.size W0 wr))
    case atStart => exact ⟨0, m1, rfl, rfl, Nat.zero_le _, by omega, by have := HM1.out; omega, by omega, Lib.hid (by rw [HM1.out]; exact best_start _ _), Lib.hid (Below.refl _ _)⟩
    case round =>
      obtain ⟨i, best, rfl, rfl, hi, hkx2, hb1, hb2, HBe, HB1⟩ := hrel
      by_cases hlt : i < n
      · have hltz : (i : Int) < (n : Int) := by omega
        have hil : i < ws.length := by rw [HN.out]; exact hlt
        by_cases hm0 : m = 0
        · have hmz : ¬ (0 : Int) < (m : Int) := by omega
          have hmz' : decide (0 < m) = false := decide_eq_false (by omega)
          have hout : out = [] := List.eq_nil_of_length_eq_zero (by omega)
          have HCand : Hid (candB out ws[i] = true) := Lib.hid (by rw [hout]; rfl)
          have HB5 : Hid (Below W0.heap.size W0 wr.drew) := Lib.hid HB1.out.drew
          clear hout hm0
          go_wp2_with fail
          go_big_region_o
          generalize wr.drew = w5 at HB5 ⊢
          go_wp2_with fail
          by_cases hb0 : best < 0
          · have hbz : decide (best < 0) = true := decide_eq_true hb0
            have HB9 : Hid (BestAt ws out (i + 1) (i : Int)) := Lib.hid (best_take HBe.out hil HCand.out (fun b hb e => by omega))
            have HB6 : Hid (Below W0.heap.size W0 w5.drew) := Lib.hid HB5.out.drew
            go_wp2_with fail
            go_big_region_o
            generalize w5.drew = w6 at HB6 ⊢
            go_wp2_with fail
            go_roundg (n - (i + 1))
            case measure => omega
            case rel => exact ⟨i + 1, i, rfl, by go_num, by omega, Nat.le_refl _, by omega, by omega, HB9, HB6⟩
          · have hbz : decide (best < 0) = false := decide_eq_false hb0
            obtain ⟨b, hbl, rfl, hbi, _, _⟩ := HBe.out.some_ (by omega)
            have hlt2 := fun q os => less_any ws[b] ws[i] (grow (w5.drewN q) os)
            have hbw5 : Below w.heap.size w w5 := HB.out.trans (HB5.out.mono hwz)
            obtain ⟨bb, oo, hA1, z0, z1, z2⟩ := HV.out.grown_at hbw5 hbw5.size hil
            obtain ⟨bb', oo', hA2, y0, y1, y2⟩ := HV.out.grown_at hbw5 hbw5.size hbl
            first | subst hA1 | cases hA1
            cases hA2
            have p0 : (0 : Int) ≤ (b : Int) := Int.natCast_nonneg _
            have p1 : (b : Int) < (n : Int) := by omega
            have p2 : (0 : Int) ≤ (i : Int) := Int.natCast_nonneg _
            have p3 : (i : Int) < (n : Int) := by omega
            cases hL : ltW ws[b] ws[i] with
            | true =>
              have HB9 : Hid (BestAt ws out (i + 1) (b : Int)) := Lib.hid (best_keep HBe.out hil hbl hL)
              rw [hL] at hlt2
              generalize ws[b] = xb at hlt2 y0 y1 y2
              generalize ws[i] = xi at hlt2 z0 z1 z2
              clear hbw5 HCand HBe hL
              go_wp2_with fail
              go_quiet_grown (first | (go_at_call 76; refine Calls.grown_of (hlt2 _ _)))
              have HB6 : Hid (Below W0.heap.size W0 (grow (w5.drewN nq) osq)) := Lib.hid (HB5.out.trans ((below_grown _ nq osq).mono HB5.out.size))
              clear z0 z1 z2 y0 y1 y2 hlt2
              generalize grow (w5.drewN nq) osq = w6 at HB6 ⊢
              go_wp2_with fail
              go_roundg (n - (i + 1))
              case measure => omega
              case rel => exact ⟨i + 1, b, rfl, by go_num, by omega, Nat.le_refl _, by omega, by omega, HB9, HB6⟩
            | false =>
              have HB9 : Hid (BestAt ws out (i + 1) (i : Int)) := Lib.hid (best_take HBe.out hil HCand.out (fun b' hb e => by
                obtain rfl : b' = b := by omega
                exact hL))
              rw [hL] at hlt2
              generalize ws[b] = xb at hlt2 y0 y1 y2
              generalize ws[i] = xi at hlt2 z0 z1 z2
              clear hbw5 HCand HBe hL
              go_wp2_with fail
              go_quiet_grown (first | (go_at_call 76; refine Calls.grown_of (hlt2 _ _)))
              have HB6 : Hid (Below W0.heap.size W0 (grow (w5.drewN nq) osq)) := Lib.hid (HB5.out.trans ((below_grown _ nq osq).mono HB5.out.size))
              clear z0 z1 z2 y0 y1 y2 hlt2
              generalize grow (w5.drewN nq) osq = w6 at HB6 ⊢
              go_wp2_with fail
              go_roundg (n - (i + 1))
              case measure => omega
              case rel => exact ⟨i + 1, i, rfl, by go_num, by omega, Nat.le_refl _, by omega, by omega, HB9, HB6⟩
        · obtain ⟨mp, rfl⟩ : ∃ mp, m = mp + 1 := ⟨m - 1, by omega⟩
          have hmz : (0 : Int) < ((mp + 1 : Nat) : Int) := by omega
          have hmz' : decide (0 < mp + 1) = true := decide_eq_true (by omega)
          have hol : mp < out.length := by omega
          have hgl : out.getLast? = some out[mp] := by
            rw [List.getLast?_eq_getElem?, hm, Nat.add_sub_cancel, List.getElem?_eq_getElem hol]
          have hcb := candB_last hgl ws[i]
          have hlt2 := fun q os => less_any out[mp] ws[i] (grow (wr.drewN q) os)
          have hbw : Below w.heap.size w wr := HB.out.trans (HB1.out.mono hwz)
          obtain ⟨bb, oo, hA1, z0, z1, z2⟩ := HV.out.grown_at hbw hbw.size hil
          obtain ⟨bb', oo', hA2, y0, y1, y2⟩ := HAo.out.grown_at HB1.out HB1.out.size hol
          subst hA1
          subst hA2
          have p0 : (0 : Int) ≤ (mp : Int) := Int.natCast_nonneg _
          have p1 : (mp : Int) < ((mp + 1 : Nat) : Int) := by omega
          have p1' : (mp : Int) < (mp : Int) + 1 := by omega
          have p2 : (0 : Int) ≤ (i : Int) := Int.natCast_nonneg _
          have p3 : (i : Int) < (n : Int) := by omega
          have p4 : IntKind.i64.wrap (mp : Int) = (mp : Int) := by rw [IntKind.wrap_i64]; omega
          have p5 : IntKind.i64.wrap (((mp + 1 : Nat) : Int) - 1) = (mp : Int) := by rw [IntKind.wrap_i64]; omega
          have p6 : IntKind.i64.wrap ((mp : Int) + 1 - 1) = (mp : Int) := by rw [IntKind.wrap_i64]; omega
          cases hL : ltW out[mp] ws[i] with
          | true =>
            have HCand : Hid (candB out ws[i] = true) := Lib.hid (by rw [hcb]; exact hL)
            rw [hL] at hlt2
            generalize out[mp] = xb at hlt2 y0 y1 y2
            have hlt3 : ∀ xi, ws[i] = xi → True := fun _ _ => trivial
            obtain ⟨xi, hxi⟩ : ∃ xi, ws[i] = xi := ⟨_, rfl⟩
            rw [hxi] at hlt2 z0 z1 z2
            have HXi := Lib.hid hxi
            clear hbw hL hcb hgl hlt3 hxi
            go_wp2_with fail
            go_quiet_grown (first | (go_at_call 76; refine Calls.grown_of (hlt2 _ _)))
            have HB5 : Hid (Below W0.heap.size W0 (grow (wr.drewN nq) osq)) := Lib.hid (HB1.out.trans ((below_grown _ nq osq).mono HB1.out.size))
            clear z0 z1 z2 y0 y1 y2 hlt2 p0 p1 p1' p2 p3 p4 p5 p6
            generalize grow (wr.drewN nq) osq = w5 at HB5 ⊢
            clear nq osq
            go_wp2_with fail
            by_cases hb0 : best < 0
            · have hbz : decide (best < 0) = true := decide_eq_true hb0
              have HB9 : Hid (BestAt ws out (i + 1) (i : Int)) := Lib.hid (best_take HBe.out hil HCand.out (fun b hb e => by omega))
              have HB6 : Hid (Below W0.heap.size W0 w5.drew) := Lib.hid HB5.out.drew
              go_wp2_with fail
              go_big_region_o
              generalize w5.drew = w6 at HB6 ⊢
              go_wp2_with fail
              go_roundg (n - (i + 1))
              case measure => omega
              case rel => exact ⟨i + 1, i, rfl, by go_num, by omega, Nat.le_refl _, by omega, by omega, HB9, HB6⟩
            · have hbz : decide (best < 0) = false := decide_eq_false hb0
              obtain ⟨b, hbl, rfl, hbi, _, _⟩ := HBe.out.some_ (by omega)
              have hlt2 := fun q os => less_any ws[b] ws[i] (grow (w5.drewN q) os)
              have hbw5 : Below w.heap.size w w5 := HB.out.trans (HB5.out.mono hwz)
              obtain ⟨bb, oo, hA1, z0, z1, z2⟩ := HV.out.grown_at hbw5 hbw5.size hil
              obtain ⟨bb', oo', hA2, y0, y1, y2⟩ := HV.out.grown_at hbw5 hbw5.size hbl
              first | subst hA1 | cases hA1
              cases hA2
              have p0 : (0 : Int) ≤ (b : Int) := Int.natCast_nonneg _
              have p1 : (b : Int) < (n : Int) := by omega
              have p2 : (0 : Int) ≤ (i : Int) := Int.natCast_nonneg _
              have p3 : (i : Int) < (n : Int) := by omega
              cases hL : ltW ws[b] ws[i] with
              | true =>
                have HB9 : Hid (BestAt ws out (i + 1) (b : Int)) := Lib.hid (best_keep HBe.out hil hbl hL)
                rw [hL] at hlt2
                generalize ws[b] = xb at hlt2 y0 y1 y2
                generalize ws[i] = xi at hlt2 z0 z1 z2
                clear hbw5 HCand HBe hL
                go_wp2_with fail
                go_quiet_grown (first | (go_at_call 76; refine Calls.grown_of (hlt2 _ _)))
                have HB6 : Hid (Below W0.heap.size W0 (grow (w5.drewN nq) osq)) := Lib.hid (HB5.out.trans ((below_grown _ nq osq).mono HB5.out.size))
                clear z0 z1 z2 y0 y1 y2 hlt2
                generalize grow (w5.drewN nq) osq = w6 at HB6 ⊢
                go_wp2_with fail
                go_roundg (n - (i + 1))
                case measure => omega
                case rel => exact ⟨i + 1, b, rfl, by go_num, by omega, Nat.le_refl _, by omega, by omega, HB9, HB6⟩
              | false =>
                have HB9 : Hid (BestAt ws out (i + 1) (i : Int)) := Lib.hid (best_take HBe.out hil HCand.out (fun b' hb e => by
                  obtain rfl : b' = b := by omega
                  exact hL))
                rw [hL] at hlt2
                generalize ws[b] = xb at hlt2 y0 y1 y2
                generalize ws[i] = xi at hlt2 z0 z1 z2
                clear hbw5 HCand HBe hL
                go_wp2_with fail
                go_quiet_grown (first | (go_at_call 76; refine Calls.grown_of (hlt2 _ _)))
                have HB6 : Hid (Below W0.heap.size W0 (grow (w5.drewN nq) osq)) := Lib.hid (HB5.out.trans ((below_grown _ nq osq).mono HB5.out.size))
                clear z0 z1 z2 y0 y1 y2 hlt2
                generalize grow (w5.drewN nq) osq = w6 at HB6 ⊢
                go_wp2_with fail
                go_roundg (n - (i + 1))
                case measure => omega
                case rel => exact ⟨i + 1, i, rfl, by go_num, by omega, Nat.le_refl _, by omega, by omega, HB9, HB6⟩
          | false =>
            have HB9 : Hid (BestAt ws out (i + 1) best) := Lib.hid (best_skip HBe.out hil (by rw [hcb]; exact hL))
            rw [hL] at hlt2
            generalize out[mp] = xb at hlt2 y0 y1 y2
            generalize ws[i] = xi at hlt2 z0 z1 z2
            clear hbw hL hcb hgl
            go_wp2_with fail
            go_quiet_grown (first | (go_at_call 76; refine Calls.grown_of (hlt2 _ _)))
            have HB5 : Hid (Below W0.heap.size W0 (grow (wr.drewN nq) osq)) := Lib.hid (HB1.out.trans ((below_grown _ nq osq).mono HB1.out.size))
            clear z0 z1 z2 y0 y1 y2 hlt2 p0 p1 p1' p2 p3 p4 p5 p6
            generalize grow (wr.drewN nq) osq = w5 at HB5 ⊢
            clear nq osq
            go_wp2_with fail
            go_roundg (n - (i + 1))
            case measure => omega
            case rel => exact ⟨i + 1, best, rfl, by go_num, by omega, Nat.le_refl _, by omega, by omega, HB9, HB5⟩
      · have hltz : ¬ (i : Int) < (n : Int) := by omega
        have hin : ws.length = i := by rw [HN.out]; omega
        have HBe2 : Hid (BestAt ws out ws.length best) := Lib.hid (by rw [hin]; exact HBe.out)
        clear hin HBe
        have hbw : Below w.heap.size w wr := HB.out.trans (HB1.out.mono hwz)
        by_cases hb0 : best < 0
        · have HE : Hid (out = foldW ws) := Lib.hid (out_end HOut.out (fun t ht => HBe2.out.none_ hb0 t ht ht))
          have HO1 : Hid (wr.ownsRow w.heap.size 65 3 (.slice A4 m c4) m (wrCells out)) := Lib.hid (own_kept HO.out HB1.out)
          have HBW := Lib.hid hbw
          clear hbw
          go_wp2_with fail
          go_ret
          have hO := HO1.out
          rw [← hm] at hO
          have := own_end hO HBW.out
          rw [hm, HE.out] at this
          exact this
        · have hbz : ¬ best < 0 := hb0
          obtain ⟨b, hbl, rfl, hbi, hcb, _⟩ := HBe2.out.some_ (by omega)
          have HO2 : Hid (OutAt ws (out ++ [ws[b]])) := Lib.hid (out_step HOut.out HBe2.out hbl)
          have HL2 : Hid (leftB ws (out ++ [ws[b]]) < lf) := Lib.hid (by have := left_less hbl hcb; rw [HL.out] at this; exact this)
          have HO1 : Hid (wr.ownsRow w.heap.size 65 3 (.slice A4 m c4) m (wrCells out)) := Lib.hid (own_kept HO.out HB1.out)
          obtain ⟨bb, oo, hA1, hbb, x1, x2, x3⟩ := HV.out.at_ hbw hbl
          subst hA1
          have HBW := Lib.hid hbw
          have hwz2 : w.heap.size ≤ wr.heap.size := hbw.size
          have hbbw : bb < wr.heap.size := by omega
          have p0 : (0 : Int) ≤ (b : Int) := Int.natCast_nonneg _
          have p1 : (b : Int) < (n : Int) := by have := HN.out; omega
          obtain ⟨x, hx⟩ : ∃ x, ws[b] = x := ⟨_, rfl⟩
          rw [hx] at x1 x2 x3 HO2 HL2
          clear hx hcb hbw HBe2
          obtain ⟨vol, block, data⟩ := x
          simp only at x1 x2 x3
          go_wp2_with (at_builtin; refine wpList_append_own _ rfl (.tmp 47) (.tmp 52) 35 rfl w.heap.size 65 i0 (.agg #[.int .i64 0, .int .i64 0, .string ByteArray.empty]) 3 32 Try.underlying35 hi0 hz0 hz1 hz2 rfl (by decide) (.slice A4 m c4) m (wrCells out) rfl (HO1.out.alloc _) ⟨wr.heap.size, 0, none⟩ 1 1 [.int .i64 vol, .int .i64 block, .string data] rfl rfl (cell_three_new _ _ _ _ _) (by intro u hu; simp at hu; rcases hu with rfl | rfl | rfl <;> rfl) ?c4 ?c5 ?c6 ?_)
          case c4 => unfold maxLen; omega
          case c5 => omega
          case c6 => first | (simp; omega) | omega
          intro v6 w6 hown hg _
          have HO6 : Hid (w6.ownsRow w.heap.size 65 3 v6 (m + 1) (wrCells (out ++ [⟨vol, block, data⟩]))) := Lib.hid (by rw [wrCells_append]; exact hown)
          have HB6 : Hid (Below w.heap.size w w6) := Lib.hid ((HBW.out.alloc HBW.out.size _).grown hg (by have := HBW.out.size; simp; omega) (fun q hq => (HO1.out.lt q hq).1))
          clear hown hg x1 x2 x3 HO1
          go_wp2_with fail
          go_roundg (leftB ws (out ++ [⟨vol, block, data⟩]) + 1)
          case measure => have := HL2.out; omega
          case rel => exact ⟨m + 1, leftB ws (out ++ [⟨vol, block, data⟩]), out ++ [⟨vol, block, data⟩], by rw [List.length_append, hm]; rfl, by have := HL2.out; omega, Nat.le_refl _, Lib.hid rfl, HO2, HO6, HB6⟩

end Go.Proofs.Ytkpoeigoocbgeaa
