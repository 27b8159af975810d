/- Writes in order: contracts of cmp.Compare, compare, slices.Clone and slices.SortStableFunc at writes. Writes in order, plain: the last one of each block out of a list in which equals keep their order ('lasts'). Folded writes: contracts of slices.Clone at writes and of Fold. -/
import Derived.Test.YthajgoigmkkbgaaStbM
import Derived.Test.YthajgoigmkkbgaaVolsPartsW
import Derived.Test.YthajgoigmkkbgaaVolP
import Derived.Shelf.SlSortCmp.InsertionK
namespace Go.Proofs.Ythajgoigmkkbgaa
open Go.Shelf Go.RowKit Go.Lib Go.Sort

instance : Inhabited Wr := ⟨⟨0, 0, ByteArray.empty⟩⟩

def cmpI (a b : Int) : Int := if a < b then -1 else if b < a then 1 else 0
def cmpW (a b : Wr) : Int := if a.vol = b.vol then cmpI a.block b.block else cmpI a.vol b.vol
def encW (x : Wr) : List Value := [.int .i64 x.vol, .int .i64 x.block, .string x.data]
theorem cmpI_lt (a b : Int) : cmpI a b < 0 ↔ a < b := by unfold cmpI; split <;> (try split) <;> omega
theorem cmpI_zero (a b : Int) : cmpI a b = 0 ↔ a = b := by unfold cmpI; split <;> (try split) <;> omega
theorem cmpW_lt (a b : Wr) : cmpW a b < 0 ↔ ltW a b = true := by
  rw [ltW_iff]; unfold cmpW; split
  · rw [cmpI_lt]; omega
  · rw [cmpI_lt]; omega
theorem cmpW_zero (a b : Wr) : cmpW a b = 0 ↔ a.vol = b.vol ∧ a.block = b.block := by
  unfold cmpW; split
  · rw [cmpI_zero]; omega
  · rw [cmpI_zero]; omega
theorem ltOf_cmpW (a b : Wr) : ltOf cmpW a b = ltW a b := by
  unfold ltOf
  cases h : ltW a b with
  | true => exact decide_eq_true ((cmpW_lt a b).2 h)
  | false => exact decide_eq_false (fun h2 => by rw [(cmpW_lt a b).1 h2] at h; cases h)
theorem swoW : SWO (ltOf cmpW) where
  irrefl x := by rw [ltOf_cmpW]; exact ltW_irr x
  trans x y z h1 h2 := by rw [ltOf_cmpW] at *; exact ltW_trans h1 h2
  ntrans x y z h1 h2 := by rw [ltOf_cmpW] at *; rw [ltW_not] at *; omega
theorem encW_len (x : Wr) : (encW x).length = 3 := rfl
theorem encW_one (x : Wr) : ∀ v ∈ encW x, v.oneCell' = true := by intro v hv; simp [encW] at hv; rcases hv with rfl | rfl | rfl <;> rfl

set_option maxRecDepth 100000 in
theorem isNaN_any (a : Int) (w : World) : Calls Try.prog 80 #[.int .i64 a] w fun e w' => e = .returned (.bool false) ∧ w' = w := by
  go_enter Try.func80, Try.ntmps80
  go_wp2
  go_ret
  simp

set_option maxHeartbeats 800000 in
set_option maxRecDepth 100000 in
theorem Compare_any (a b : Int) (w : World) : Calls Try.prog 73 #[.int .i64 a, .int .i64 b] w fun e w' => e = .returned (.int .i64 (cmpI a b)) ∧ w' = w := by
  have hN := isNaN_any
  by_cases h1 : a < b
  · rw [show cmpI a b = -1 from by unfold cmpI; rw [if_pos h1]]
    go_enter Try.func73, Try.ntmps73
    go_wp2_with (go_at_call 80; refine (hN _ _).mono ?_; rintro e w' ⟨rfl, rfl⟩)
    go_ret
    exact ⟨rfl, rfl⟩
  · by_cases h2 : b < a
    · rw [show cmpI a b = 1 from by unfold cmpI; rw [if_neg h1, if_pos h2]]
      go_enter Try.func73, Try.ntmps73
      go_wp2_with (go_at_call 80; refine (hN _ _).mono ?_; rintro e w' ⟨rfl, rfl⟩)
      go_ret
      exact ⟨rfl, rfl⟩
    · rw [show cmpI a b = 0 from by unfold cmpI; rw [if_neg h1, if_neg h2]]
      go_enter Try.func73, Try.ntmps73
      go_wp2_with (go_at_call 80; refine (hN _ _).mono ?_; rintro e w' ⟨rfl, rfl⟩)
      go_ret
      exact ⟨rfl, rfl⟩

set_option maxHeartbeats 1000000 in
set_option maxRecDepth 100000 in
theorem compare_any (x y : Wr) (W : World) : Calls Try.prog 58 #[.agg #[.int .i64 x.vol, .int .i64 x.block, .string x.data], .agg #[.int .i64 y.vol, .int .i64 y.block, .string y.data]] W fun e w' => e = .returned (.int .i64 (cmpW x y)) ∧ ∃ q os', w' = grow (W.drewN q) os' := by
  obtain ⟨v1, b1, s1⟩ := x
  obtain ⟨v2, b2, s2⟩ := y
  have hC := Compare_any
  by_cases h : v1 = v2
  · subst h
    rw [show cmpW ⟨v1, b1, s1⟩ ⟨v1, b2, s2⟩ = cmpI b1 b2 from by unfold cmpW; simp]
    obtain ⟨r, hr⟩ : ∃ r, cmpI b1 b2 = r := ⟨_, rfl⟩
    have HR := Lib.hid hr
    rw [hr]
    clear hr
    simp only
    go_enter Try.func58, Try.ntmps58
    go_wp2_with (go_at_call 73; refine (hC _ _ _).mono ?_; rw [HR.out]; rintro e w' ⟨rfl, rfl⟩)
    go_ret
    exact ⟨rfl, 0, _, by rw [alloc_eq_grow, alloc_eq_grow, grow_grow]; rfl⟩
  · rw [show cmpW ⟨v1, b1, s1⟩ ⟨v2, b2, s2⟩ = cmpI v1 v2 from by unfold cmpW; simp [h]]
    obtain ⟨r, hr⟩ : ∃ r, cmpI v1 v2 = r := ⟨_, rfl⟩
    have HR := Lib.hid hr
    have h' : (v1 != v2) = true := by rw [bne_iff_ne]; exact h
    rw [hr]
    clear hr h
    simp only
    go_enter Try.func58, Try.ntmps58
    go_wp2_with (go_at_call 73; refine (hC _ _ _).mono ?_; rw [HR.out]; rintro e w' ⟨rfl, rfl⟩)
    go_ret
    exact ⟨rfl, 0, _, by rw [alloc_eq_grow, alloc_eq_grow, grow_grow]; rfl⟩

theorem cmpLaysW (blk off size : Nat) (w : World) : CmpLays Try.prog 58 #[] encW 3 cmpW blk off size w := fun _ _ _ _ x y => compare_any x y _

/-! ### The insertion sort out of the library, at this program -/

def Try.ren20 : Go.Shelf.Ren := ⟨fun | 20 => 82 | n => n, fun | 0 => 0 | 3 => 3 | 4 => 4 | 22 => 25 | 24 => 74 | 25 => 92 | n => n, fun | n => n⟩
theorem Try.lays20 : SlLaysF0.n20 Try.prog Try.ren20 where
  mixed := by kernel_rfl
  f20 := ⟨Try.f82.name, by kernel_rfl, Try.func82.trans (congrArg some (by kernel_rfl))⟩
  t0 := Try.underlying0
  a0 := Try.isAgg0
  z0 := Try.sizeOf0
  v0 := Try.zeroValue0
  t3 := Try.underlying3
  a3 := Try.isAgg3
  z3 := Try.sizeOf3
  v3 := Try.zeroValue3
  t4 := Try.underlying4
  a4 := Try.isAgg4
  z4 := Try.sizeOf4
  v4 := Try.zeroValue4
  t22 := Try.underlying25
  a22 := Try.isAgg25
  z22 := Try.sizeOf25
  v22 := Try.zeroValue25
  t25 := Try.underlying92
  a25 := Try.isAgg92
  z25 := Try.sizeOf92
  v25 := Try.zeroValue92

theorem ins_any {w0 : World} {blk cap : Nat} {d0 : Array Wr} (R : RowK encW 3 w0 blk 0 d0) (hsz : d0.size ≤ 4000) (a b : Nat) (d : Array Wr) (w : World) (hs : d.size = d0.size) (S : SWK encW 3 w0 blk 0 d w) (hab : a ≤ b) (hb : b ≤ d0.size) :
    Calls Try.prog 82 #[.slice (some ⟨blk, 0, none⟩) d0.size cap, .int .i64 a, .int .i64 b, .func (.func 58) #[] #[]] w fun e w' => e = .returned (.tuple #[]) ∧ ∃ d', Merged (ltOf cmpW) a b d d' ∧ SWK encW 3 w0 blk 0 d' w' := by
  have eg : ∀ args w, (callFunc 58 args).run Try.prog w = .ok (.enter 58 args) w := enters_of Try.func58 (by kernel_rfl) rfl
  have := AnyQ.insertionSortCmpFunc Try.lays20 3 Try.isAgg74 Try.sizeOf74 encW encW_len encW_one cmpW 58 #[] blk 0 cap a b d w eg (cmpLaysW _ _ _ _) (S.holds R.hblk R.hH hs) (S.lt R.hblk) hab (by omega) (by omega)
  rw [hs] at this
  refine this.mono ?_
  rintro e w' ⟨rfl, n, os, rfl⟩
  have M := ins_sorts swoW d hab (by omega : b ≤ d.size)
  exact ⟨rfl, _, M, S.on R.hblk n _ os M.size⟩

theorem SortStable_row {w0 : World} {blk cap : Nat} {d0 : Array Wr} (R : RowK encW 3 w0 blk 0 d0) (hsz : d0.size ≤ 4000) :
    Calls Try.prog 69 #[.slice (some ⟨blk, 0, none⟩) d0.size cap, .func (.func 58) #[] #[]] w0 fun e w' => e = .returned (.tuple #[]) ∧ ∃ d', d'.size = d0.size ∧ Stb (ltOf cmpW) d0.size (getF d0) (getF d') ∧ sortF (ltOf cmpW) (getF d') 0 d0.size ∧ SWK encW 3 w0 blk 0 d' w' := by
  have eg : ∀ args w, (callFunc 58 args).run Try.prog w = .ok (.enter 58 args) w := enters_of Try.func58 (by kernel_rfl) rfl
  have HC := Lib.hid (stable_any Try.stbLays 3 Try.isAgg74 Try.sizeOf74 encW cmpW swoW 58 #[] blk 0 cap d0 w0 eg (cmpLaysW _ _ _ _) R hsz (fun a b d w h1 h2 h3 h4 => ins_any R hsz a b d w h1 h2 h3 h4))
  clear R
  go_enter Try.func69, Try.ntmps69
  go_wp2_with (go_at_call 78; refine HC.out.mono ?_; rintro e w' ⟨rfl, h⟩; have HH := Lib.hid h; clear h)
  go_end0
  exact ⟨rfl, HH.out⟩
end Go.Proofs.Ythajgoigmkkbgaa

namespace Go.Proofs.Ythajgoigmkkbgaa
open Go.Shelf Go.RowKit Go.Lib Go.Sort

/-- Of writes next to one another to one block the last. -/
def lastHere (x : Wr) : List Wr → Bool
  | [] => true
  | y :: _ => decide (cmpW x y ≠ 0)
def lasts : List Wr → List Wr
  | [] => []
  | x :: r => if lastHere x r = true then x :: lasts r else lasts r
theorem lasts_mem {l : List Wr} {y : Wr} (h : y ∈ lasts l) : y ∈ l := by
  induction l with
  | nil => exact h
  | cons x r ih =>
    rw [lasts] at h
    split at h
    · rcases List.mem_cons.1 h with h | h
      · rw [h]; exact List.mem_cons_self
      · exact List.mem_cons_of_mem _ (ih h)
    · exact List.mem_cons_of_mem _ (ih h)
theorem lasts_sorted {l : List Wr} (h : l.Pairwise (fun x y => ltW y x = false)) : sortedW (lasts l) := by
  induction l with
  | nil => trivial
  | cons x r ih =>
    rw [List.pairwise_cons] at h
    rw [lasts]
    split
    · rename_i hk
      refine ⟨fun y hy => ?_, ih h.2⟩
      have hy2 := lasts_mem hy
      cases r with
      | nil => cases hy2
      | cons z r' =>
        simp only [lastHere, decide_eq_true_eq] at hk
        have h1 := h.1 z List.mem_cons_self
        rw [Ne, cmpW_zero] at hk
        rw [ltW_not] at h1
        rcases List.mem_cons.1 hy2 with e | e
        · rw [e, ltW_iff]; omega
        · have h2 := (List.pairwise_cons.1 h.2).1 y e
          rw [ltW_not] at h2
          rw [ltW_iff]; omega
    · exact ih h.2
theorem lasts_last (l : List Wr) (v b : Int) : lastF (lasts l) v b = lastF l v b := by
  induction l with
  | nil => rfl
  | cons x r ih =>
    rw [lasts]
    split
    · rw [lastF, lastF, ih]
    · rename_i hk
      rw [ih, lastF]
      cases r with
      | nil => simp [lastHere] at hk
      | cons z r' =>
        simp only [lastHere, decide_eq_true_eq, ne_eq, Decidable.not_not] at hk
        obtain ⟨e1, e2⟩ := (cmpW_zero x z).1 hk
        by_cases c : x.vol = v ∧ x.block = b
        · have := lastF_isSome (List.mem_cons_self (a := z) (l := r'))
          rw [← e1, ← e2, c.1, c.2] at this
          cases hq : lastF (z :: r') v b with
          | some d => rfl
          | none => rw [hq] at this; cases this
        · cases hq : lastF (z :: r') v b with
          | some d => rfl
          | none => simp only; rw [if_neg c]
theorem lasts_fold {l ws : List Wr} (h : l.Pairwise (fun x y => ltW y x = false)) (hl : ∀ v b, lastF l v b = lastF ws v b) : lasts l = foldW ws :=
  foldW_of (lasts_sorted h) (fun v b => by rw [lasts_last]; exact hl v b)
theorem lasts_drop {l : List Wr} {k : Nat} (hk : k < l.length) : lasts (l.drop k) = if lastHere l[k] (l.drop (k + 1)) = true then l[k] :: lasts (l.drop (k + 1)) else lasts (l.drop (k + 1)) := by
  rw [List.drop_eq_getElem_cons hk, lasts]

/-- The last write to a block is told by the writes to that block alone. -/
theorem lastF_filter {p : Wr → Bool} {v b : Int} (hp : ∀ y, p y = true ↔ y.vol = v ∧ y.block = b) (l : List Wr) : lastF (l.filter p) v b = lastF l v b := by
  induction l with
  | nil => rfl
  | cons x r ih =>
    rw [List.filter_cons]
    split
    · rw [lastF, lastF, ih]
    · rename_i hx
      rw [ih, lastF]
      have : ¬ (x.vol = v ∧ x.block = b) := fun h => hx ((hp x).2 h)
      cases lastF r v b with
      | some d => rfl
      | none => simp only; rw [if_neg this]
theorem cutF_list {d : Array Wr} : cutF (getF d) 0 d.size = d.toList := by
  apply List.ext_getElem
  · simp [cutF]
  · intro i h1 h2
    have h3 : i < d.size := by simpa [cutF] using h1
    simp only [cutF, List.getElem_map, List.getElem_range', getF, Nat.one_mul, Nat.zero_add]
    rw [getElem!_pos d i h3]; simp
theorem stb_last {d d' : Array Wr} (hs : d'.size = d.size) (h : Stb (ltOf cmpW) d.size (getF d) (getF d')) (v b : Int) : lastF d'.toList v b = lastF d.toList v b := by
  have h1 := h ⟨v, b, ByteArray.empty⟩
  rw [cutF_list, ← hs, cutF_list] at h1
  have hp : ∀ y : Wr, (!ltOf cmpW ⟨v, b, ByteArray.empty⟩ y && !ltOf cmpW y ⟨v, b, ByteArray.empty⟩) = true ↔ y.vol = v ∧ y.block = b := fun y => by
    rw [ltOf_cmpW, ltOf_cmpW, Bool.and_eq_true, Bool.not_eq_true', Bool.not_eq_true', ltW_not, ltW_not]
    simp only
    omega
  rw [← lastF_filter hp d'.toList, h1, lastF_filter hp]
theorem pairwise_of {d : Array Wr} (h : sortF (ltOf cmpW) (getF d) 0 d.size) : d.toList.Pairwise (fun x y => ltW y x = false) := by
  rw [List.pairwise_iff_getElem]
  intro i j hi hj hij
  have h1 := h i j (Nat.zero_le _) hij (by simpa using hj)
  rw [ltOf_cmpW] at h1
  simp only [getF] at h1
  rw [getElem!_pos d i (by simpa using hi), getElem!_pos d j (by simpa using hj)] at h1
  simpa using h1

/-! ### Rows of writes in memory -/

theorem holds_of_own {w : World} {base g n c : Nat} {t : TypeId} {ws : List Wr} (h : w.ownsRow base t 3 (.slice (some ⟨g, 0, none⟩) n c) n (wrCells ws)) : HoldsK encW 3 w g 0 ws.toArray := by
  have hn : ws.length = n := by have := h.1; rw [wrCells_length] at this; omega
  intro j hj
  rw [size_flatK] at hj
  simp only [List.size_toArray] at hj
  refine ⟨?_, by rw [Nat.zero_add]; exact h.frozenAt j⟩
  rw [Nat.zero_add, h.cellAt j (by omega), get_flatK _ _ _ _ (by simpa using hj)]
  have hk : j / 3 < ws.length := by omega
  obtain ⟨a1, a2, a3⟩ := wrCells_at hk
  have e : ws.toArray[j / 3]! = ws[j / 3] := by rw [getElem!_pos _ _ (by simpa using hk)]; simp
  rw [e]
  rcases (by omega : j % 3 = 0 ∨ j % 3 = 1 ∨ j % 3 = 2) with e3 | e3 | e3
  · rw [e3]; have : j = j / 3 * 3 := by omega
    conv => lhs; rw [this]
    rw [a1]; rfl
  · rw [e3]; have : j = j / 3 * 3 + 1 := by omega
    conv => lhs; rw [this]
    rw [a2]; rfl
  · rw [e3]; have : j = j / 3 * 3 + 2 := by omega
    conv => lhs; rw [this]
    rw [a3]; rfl
theorem wrs_of_holds {w : World} {g : Nat} {d : Array Wr} (h : HoldsK encW 3 w g 0 d) (hg : g < w.heap.size) : WrsAt w w.heap.size (some ⟨g, 0, none⟩) d.toList := by
  refine .inr ⟨g, 0, rfl, hg, fun i hi => ?_⟩
  have hi2 : i < d.size := by simpa using hi
  have e : d[i]! = d.toList[i] := by rw [getElem!_pos d i hi2]; simp
  have h0 := (h.cell hi2 (c := 0) (by omega)).1
  have h1 := (h.cell hi2 (c := 1) (by omega)).1
  have h2 := (h.cell hi2 (c := 2) (by omega)).1
  rw [e] at h0 h1 h2
  exact ⟨h0, h1, h2⟩
theorem swk_below {α : Type} [Inhabited α] {enc : α → List Value} {k : Nat} {w w' : World} {g off B : Nat} {d : Array α} (h : SWK enc k w g off d w') (hB : B ≤ g) (hB2 : B ≤ w.heap.size) : Below B w w' := by
  obtain ⟨n, os, rfl⟩ := h
  refine ⟨rfl, rfl, rfl, ?_, fun i hi => ?_⟩
  · unfold sortWorldK; rw [size_grow, size_putRowK]; exact Nat.le_add_right _ _
  · show ((putRowK enc k (Go.Sort.ahead w n) g off d).heap ++ os)[i]? = _
    rw [Array.getElem?_append_left (by rw [size_putRowK]; show i < w.heap.size; omega)]
    show (mapBlock (Go.Sort.ahead w n) g _).heap[i]? = _
    unfold mapBlock
    simp only
    rw [Array.getElem?_modify, if_neg (by omega)]
    rfl
end Go.Proofs.Ythajgoigmkkbgaa

namespace Go.Proofs.Ythajgoigmkkbgaa
open Go.Shelf Go.RowKit Go.Lib Go.Sort

set_option maxHeartbeats 800000 in
theorem CloneW_any {w : World} {A : Option Addr} {n c : Nat} {cs : List Value} (h : Lies w w.heap.size A cs) (hl : cs.length = n * 3) (hn : n ≤ 4000) (h1 : ∀ u ∈ cs, u.oneCell' = true) :
    Calls Try.prog 68 #[.slice A n c] w (OwnEnd 74 3 n cs w) := by
  obtain ⟨i0, hi0, hz0, hz1, hz2⟩ := info_parts Try.infoWr
  have hnil := run_eql_slice_nil (P := Try.prog) w 25 74 A n c Try.underlying25
  have HL := Lib.hid h
  have HLen := Lib.hid hl
  cases A with
  | none =>
    have h0 : cs = [] := by
      rcases h with h | ⟨b, off, hA, _⟩
      · exact h
      · cases hA
    have h00 : n = 0 := by rw [h0] at hl; simp at hl; omega
    have HE : Hid (OwnEnd 74 3 n cs w (.returned (.slice none 0 0)) w) := Lib.hid ⟨_, rfl, by rw [h0, h00]; exact World.ownsRow_nil _ _ _ _, Below.refl _ _⟩
    clear h hl h0 h00 hi0 hz0 hz1 hz2
    go_enter Try.func68, Try.ntmps68
    go_wp2
    go_ret
    exact HE.out
  | some x =>
    have HC : Hid (∀ j u, cs[j]? = some u → (w.alloc (.cells #[] 74)).cell? (x.add j) = some u) := Lib.hid (fun j u hj => by
      rcases h with h | ⟨b, off, hA, hb, hc⟩
      · rw [h] at hj; simp at hj
      · cases hA
        obtain ⟨hj1, hj2⟩ := List.getElem?_eq_some_iff.1 hj
        rw [WideShapes.add_plain, ((Below.refl w.heap.size w).alloc (Nat.le_refl _) _).cell (p := ⟨b, off + j, none⟩) hb, hc j hj1, hj2])
    clear h hl
    go_enter Try.func68, Try.ntmps68
    go_wp2_with (at_builtin; refine wpList_append_own _ rfl (.tmp 5) (.tmp 6) 25 rfl w.heap.size 74 i0 (.agg #[.int .i64 0, .int .i64 0, .string ByteArray.empty]) 3 32 Try.underlying25 hi0 hz0 hz1 hz2 rfl (by decide) (.slice (some ⟨w.heap.size, 0, none⟩) 0 0) 0 [] rfl (World.ownsRow_made w #[] 0 (Nat.le_refl _) (Nat.zero_le _) rfl) x n c cs rfl HLen.out HC.out h1 ?c4 ?c5 ?c6 ?_)
    case c4 => unfold maxLen; omega
    case c5 => omega
    case c6 => simp
    intro v' w2 hown hg _
    have HE : Hid (OwnEnd 74 3 n cs w (.returned v') w2) := by
      refine Lib.hid ⟨_, rfl, by simpa using hown, ?_⟩
      refine ((Below.refl w.heap.size w).alloc (Nat.le_refl _) _).grown hg (by simp) (fun k hk => ?_)
      simp only [Value.ownBlock, Option.some.injEq] at hk
      omega
    clear hown hg
    go_wp2
    go_ret
    exact HE.out


set_option maxRecDepth 100000 in
theorem ins_nil (w : World) : Calls Try.prog 82 #[.slice none 0 0, .int .i64 0, .int .i64 0, .func (.func 58) #[] #[]] w fun e w' => e = .returned (.tuple #[]) ∧ w' = w := by
  go_enter Try.func82, Try.ntmps82
  go_wp2
  refine wp_loop_rounds 1 ?_
  rw [rounds_succ]
  go_wp2
  go_end0
  exact ⟨rfl, rfl⟩
set_option maxRecDepth 100000 in
theorem stable_nil (w : World) : Calls Try.prog 78 #[.slice none 0 0, .int .i64 0, .func (.func 58) #[] #[]] w fun e w' => e = .returned (.tuple #[]) ∧ w' = w := by
  have hI := ins_nil
  go_enter Try.func78, Try.ntmps78
  go_wp2
  refine wp_loop_rounds 1 ?_
  rw [rounds_succ]
  go_wp2_with (go_at_call 82; refine (hI _).mono ?_; rintro e w' ⟨rfl, rfl⟩)
  refine wp_loop_rounds 1 ?_
  rw [rounds_succ]
  go_wp2
  go_end0
  exact ⟨rfl, rfl⟩
set_option maxRecDepth 100000 in
theorem SortStable_nil (w : World) : Calls Try.prog 69 #[.slice none 0 0, .func (.func 58) #[] #[]] w fun e w' => e = .returned (.tuple #[]) ∧ w' = w := by
  have hI := stable_nil
  go_enter Try.func69, Try.ntmps69
  go_wp2_with (go_at_call 78; refine (hI _).mono ?_; rintro e w' ⟨rfl, rfl⟩)
  go_end0
  exact ⟨rfl, rfl⟩

/-- A row of the call's own is put in order; what a fold takes of it is what a fold takes of it as it was. -/
theorem SortStable_own {w : World} {base : Nat} {v : Value} {ws : List Wr} (h : w.ownsRow base 74 3 v ws.length (wrCells ws)) (hn : ws.length ≤ 4000) (hbase : base ≤ w.heap.size) :
    Calls Try.prog 69 #[v, .func (.func 58) #[] #[]] w fun e w' => e = .returned (.tuple #[]) ∧ ∃ A c us, v = .slice A ws.length c ∧ us.length = ws.length ∧ lasts us = foldW ws ∧ WrsAt w' w'.heap.size A us ∧ Below base w w' := by
  have h0 := h
  rcases h.2 with ⟨rfl, hn0⟩ | ⟨g, cap, cur, rfl, hb, hg, _, _, _, _⟩
  · have hws : ws = [] := List.eq_nil_of_length_eq_zero hn0
    subst hws
    refine (SortStable_nil w).mono ?_
    rintro e w' ⟨rfl, rfl⟩
    exact ⟨rfl, none, 0, [], rfl, rfl, rfl, .inl rfl, Below.refl _ _⟩
  · have hH := holds_of_own h0
    have hlt : g < w.heap.size := (h0.lt g rfl).2
    have R : RowK encW 3 w g 0 ws.toArray := ⟨encW_len, encW_one, hH, hlt⟩
    have := SortStable_row (cap := cap) R (by simpa using hn)
    rw [List.size_toArray] at this
    refine this.mono ?_
    rintro e w' ⟨rfl, d', hs, hst, hso, hS⟩
    have hs2 : d'.size = ws.toArray.size := by simpa using hs
    refine ⟨rfl, some ⟨g, 0, none⟩, cap, d'.toList, rfl, by simpa using hs, ?_, wrs_of_holds (hS.holds hlt hH hs2) (hS.lt hlt), swk_below hS hb hbase⟩
    refine lasts_fold (pairwise_of (by rw [hs]; exact hso)) (fun v b => ?_)
    have := stb_last hs2 (by rw [List.size_toArray]; exact hst) v b
    rw [this]

/-- What a call that hands back writes leaves. -/
def WrsEnd (us : List Wr) (w : World) (e : Ending) (w' : World) : Prop :=
  ∃ A c, e = .returned (.slice A us.length c) ∧ WrsAt w' w'.heap.size A us ∧ (A = none → c = 0) ∧ Below w.heap.size w w'
theorem cell_three_new (w : World) (a b c : Value) (t : TypeId) : ∀ j u, [a, b, c][j]? = some u → (w.alloc (.cells #[a, b, c] t)).cell? (Addr.add ⟨w.heap.size, 0, none⟩ j) = some u := fun j u hj => by
  rw [WideShapes.add_plain, Nat.zero_add, Lib.cell_of_heap (heap_alloc_new _ _)]
  simpa using hj
theorem own_end {w0 w : World} {base : Nat} {v : Value} {us : List Wr} {t : TypeId} (h : w.ownsRow base t 3 v us.length (wrCells us)) (hb : Below w0.heap.size w0 w) : WrsEnd us w0 (.returned v) w := by
  obtain ⟨A, c, rfl, _, hl⟩ := own_lies h
  refine ⟨A, c, rfl, WrsAt.of_lies hl, fun e => ?_, hb⟩
  subst e
  rcases h.2 with ⟨e, _⟩ | ⟨g, cap, cur, e, _⟩
  · simp only [Value.slice.injEq] at e; exact e.2.2
  · simp only [Value.slice.injEq] at e; exact absurd e.1 (by simp)

set_option maxHeartbeats 4000000 in
set_option maxRecDepth 100000 in
theorem Fold_any {w : World} {A : Option Addr} {c : Nat} {ws : List Wr} (h : WrsAt w w.heap.size A ws) (hn : ws.length ≤ 4000) :
    Calls Try.prog 52 #[.slice A ws.length c] w (WrsEnd (foldW ws) w) := by
  have HClo : Hid (∀ c, Calls Try.prog 68 #[.slice A ws.length c] w (OwnEnd 74 3 ws.length (wrCells ws) w)) := Lib.hid (fun c => CloneW_any h.lies (wrCells_length _) hn (wrCells_one _))
  have HSrt : Hid (∀ v w1, w1.ownsRow w.heap.size 74 3 v ws.length (wrCells ws) → Below w.heap.size w w1 → Calls Try.prog 69 #[v, .func (.func 58) #[] #[]] w1 fun e w' => e = .returned (.tuple #[]) ∧ ∃ A c us, v = .slice A ws.length c ∧ us.length = ws.length ∧ lasts us = foldW ws ∧ WrsAt w' w'.heap.size A us ∧ Below w.heap.size w w') := Lib.hid (fun v w1 h1 h2 => by
    refine (SortStable_own h1 hn h2.size).mono ?_
    rintro e w' ⟨rfl, A, c, us, e1, e2, e3, e4, e5⟩
    exact ⟨rfl, A, c, us, e1, e2, e3, e4, h2.trans e5⟩)
  obtain ⟨i0, hi0, hz0, hz1, hz2⟩ := info_parts Try.infoWr
  have mixed : Try.prog.follows .mixedOrders = true := by kernel_rfl
  obtain ⟨F, hF⟩ : ∃ F, foldW ws = F := ⟨_, rfl⟩
  rw [hF] at HSrt ⊢
  clear h hF
  obtain ⟨n, hnn⟩ : ∃ n, ws.length = n := ⟨_, rfl⟩
  rw [hnn] at HClo HSrt hn ⊢
  clear hnn
  go_enter Try.func52, Try.ntmps52
  go_wp2_with fail
  refine (HClo.out _).mono ?_
  rintro e w1 ⟨v1, rfl, ho1, hb1⟩
  have HS1 := Lib.hid (HSrt.out v1 w1 ho1 hb1)
  clear ho1 hb1
  go_wp2_with fail
  refine HS1.out.mono ?_
  rintro e w3 ⟨rfl, A3, c3, us, rfl, hus, hla, hat, hb3⟩
  have HLa := Lib.hid hla
  have HAt := Lib.hid hat
  have HB3 := Lib.hid hb3
  have HUs := Lib.hid hus
  clear hla hat hb3 hus HS1 HSrt HClo
  go_wp2_with fail
  go_loopg [4, 13] n (fun kx s4 s13 wr => ∃ (k m : Nat) (acc : List Wr), s13 = .int .i64 k ∧ k ≤ n ∧ n - k ≤ kx ∧ acc.length = m ∧ m ≤ k ∧ Hid (wr.ownsRow w3.heap.size 74 3 s4 m (wrCells acc)) ∧ Hid (acc ++ lasts (us.drop k) = F) ∧ Hid (Below w3.heap.size w3 wr))
  case atStart => exact ⟨0, 0, [], rfl, Nat.zero_le _, by omega, rfl, Nat.le_refl _, Lib.hid (World.ownsRow_nil _ _ _ _), HLa, Lib.hid (Below.refl _ _)⟩
  case round =>
    obtain ⟨k, m, acc, rfl, hk, hkx, hm, hmk, HO, HR, HB⟩ := hrel
    obtain ⟨A4, c4, h4, hxx⟩ := own_lies HO.out
    clear hxx
    subst h4
    by_cases hlt : k < n
    · have hltz : (k : Int) < (n : Int) := by omega
      have hku : k < us.length := by rw [HUs.out]; exact hlt
      obtain ⟨b, off, hA, hbl, x1, x2, x3⟩ := HAt.out.at_ HB.out hku
      have HR2 := Lib.hid ((congrArg (acc ++ ·) (lasts_drop hku)).symm.trans HR.out)
      have hwz : w3.heap.size ≤ wr.heap.size := HB.out.size
      have hbw : b < wr.heap.size := by omega
      subst hA
      obtain ⟨x, hx⟩ : ∃ x, us[k] = x := ⟨_, rfl⟩
      rw [hx] at x1 x2 x3 HR2
      clear hx HR
      obtain ⟨vol, block, data⟩ := x
      simp only at x1 x2 x3
      have HBn : Hid (∀ q os, Below wr.heap.size wr (grow ((wr.alloc (.cells #[.int .i64 vol, .int .i64 block, .string data] 74)).drewN q) os)) := Lib.hid (fun q os => ((Below.refl wr.heap.size wr).alloc (Nat.le_refl _) _).trans ⟨rfl, rfl, rfl, by rw [size_grow]; exact Nat.le_add_right _ _, fun i hi => by
        show ((wr.alloc (.cells #[.int .i64 vol, .int .i64 block, .string data] 74)).heap ++ os)[i]? = _
        rw [Array.getElem?_append_left (by simp; omega)]⟩)
      have HCn : Hid (∀ q os, (grow ((wr.alloc (.cells #[.int .i64 vol, .int .i64 block, .string data] 74)).drewN q) os).cell? ⟨wr.heap.size, 0, none⟩ = some (.int .i64 vol) ∧ (grow ((wr.alloc (.cells #[.int .i64 vol, .int .i64 block, .string data] 74)).drewN q) os).cell? ⟨wr.heap.size, 1, none⟩ = some (.int .i64 block) ∧ (grow ((wr.alloc (.cells #[.int .i64 vol, .int .i64 block, .string data] 74)).drewN q) os).cell? ⟨wr.heap.size, 2, none⟩ = some (.string data)) := Lib.hid (fun q os => ⟨cell_grown (by simp) (by rw [Lib.cell_of_heap (heap_alloc_new _ _)]; rfl) q os, cell_grown (by simp) (by rw [Lib.cell_of_heap (heap_alloc_new _ _)]; rfl) q os, cell_grown (by simp) (by rw [Lib.cell_of_heap (heap_alloc_new _ _)]; rfl) q os⟩)
      by_cases hla : k + 1 = n
      · have hlaz : ((k : Int) + 1 == (n : Int)) = true := by rw [beq_iff_eq]; omega
        have HK : Hid (acc ++ (⟨vol, block, data⟩ :: lasts (us.drop (k + 1))) = F) := Lib.hid (by
          have h1 := HR2.out
          have h2 : lastHere ⟨vol, block, data⟩ (us.drop (k + 1)) = true := by rw [List.drop_of_length_le (by rw [HUs.out]; omega)]; rfl
          rw [if_pos h2] at h1
          exact h1)
        clear HR2
        go_wp2_with fail
        go_big_region_o
        have HB5 : Hid (Below wr.heap.size wr (wr.alloc (.cells #[.int .i64 vol, .int .i64 block, .string data] 74)).drew) := Lib.hid ((Below.refl wr.heap.size wr).alloc (Nat.le_refl _) _).drew
        have HC5 : Hid ((wr.alloc (.cells #[.int .i64 vol, .int .i64 block, .string data] 74)).drew.cell? ⟨wr.heap.size, 0, none⟩ = some (.int .i64 vol) ∧ (wr.alloc (.cells #[.int .i64 vol, .int .i64 block, .string data] 74)).drew.cell? ⟨wr.heap.size, 1, none⟩ = some (.int .i64 block) ∧ (wr.alloc (.cells #[.int .i64 vol, .int .i64 block, .string data] 74)).drew.cell? ⟨wr.heap.size, 2, none⟩ = some (.string data)) := Lib.hid (by
          have := HCn.out 1 #[]
          rw [grow_empty] at this
          exact this)
        clear HBn HCn x1 x2 x3
        generalize (wr.alloc (.cells #[.int .i64 vol, .int .i64 block, .string data] 74)).drew = w5 at HB5 HC5 ⊢
        have HO5 : Hid (w5.ownsRow w3.heap.size 74 3 (.slice A4 m c4) m (wrCells acc)) := Lib.hid (own_kept HO.out HB5.out)
        have hy0 : w5.cell? ⟨wr.heap.size, 0, none⟩ = some (.int .i64 vol) := HC5.out.1
        have hy1 : w5.cell? ⟨wr.heap.size, 1, none⟩ = some (.int .i64 block) := HC5.out.2.1
        have hy2 : w5.cell? ⟨wr.heap.size, 2, none⟩ = some (.string data) := HC5.out.2.2
        have HZ5 : Hid (w3.heap.size ≤ w5.heap.size) := Lib.hid (by have h1 := HB.out.size; have h2 := HB5.out.size; omega)
        clear HC5
        go_wp2_with (at_builtin; refine wpList_append_own _ rfl (.tmp 33) (.tmp 35) 25 rfl w3.heap.size 74 i0 (.agg #[.int .i64 0, .int .i64 0, .string ByteArray.empty]) 3 32 Try.underlying25 hi0 hz0 hz1 hz2 rfl (by decide) (.slice A4 m c4) m (wrCells acc) rfl (HO5.out.alloc _) ⟨w5.heap.size, 0, none⟩ 1 1 [.int .i64 vol, .int .i64 block, .string data] rfl rfl (cell_three_new _ _ _ _ _) (by intro u hu; simp at hu; rcases hu with rfl | rfl | rfl <;> rfl) ?c4 ?c5 ?c6 ?_)
        case c4 => unfold maxLen; omega
        case c5 => omega
        case c6 => have := HZ5.out; simp; omega
        intro v6 w6 hown hg _
        have HO6 : Hid (w6.ownsRow w3.heap.size 74 3 v6 (m + 1) (wrCells (acc ++ [⟨vol, block, data⟩]))) := Lib.hid (by rw [wrCells_append]; exact hown)
        have HB6 : Hid (Below w3.heap.size w3 w6) := Lib.hid (by
          have h1 : Below w3.heap.size w3 w5 := HB.out.trans (HB5.out.mono HB.out.size)
          exact (h1.alloc h1.size _).grown hg (by have := h1.size; simp; omega) (fun q hq => (HO.out.lt q hq).1))
        clear hown hg hy0 hy1 hy2 HO5
        go_wp2_with fail
        go_roundg (n - (k + 1))
        case measure => omega
        case rel => exact ⟨k + 1, m + 1, acc ++ [⟨vol, block, data⟩], by go_num, by omega, Nat.le_refl _, by rw [List.length_append, hm]; rfl, by omega, HO6, Lib.hid (by rw [List.append_assoc]; exact HK.out), HB6⟩
      · have hlaz : ((k : Int) + 1 == (n : Int)) = false := by rw [beq_eq_false_iff_ne]; omega
        have hk1 : k + 1 < us.length := by rw [HUs.out]; omega
        obtain ⟨b', off', hA', _, y1, y2, y3⟩ := HAt.out.at_ HB.out hk1
        cases hA'
        have HR3 : Hid (acc ++ (if cmpW ⟨vol, block, data⟩ us[k + 1] ≠ 0 then ⟨vol, block, data⟩ :: lasts (us.drop (k + 1)) else lasts (us.drop (k + 1))) = F) := Lib.hid (by
          have h1 := HR2.out
          rw [List.drop_eq_getElem_cons hk1] at h1 ⊢
          simpa [lastHere] using h1)
        obtain ⟨y, hy⟩ : ∃ y, us[k + 1] = y := ⟨_, rfl⟩
        rw [hy] at y1 y2 y3 HR3
        clear hy HR2
        obtain ⟨yv, yb, yd⟩ := y
        simp only at y1 y2 y3
        have hcg := fun q os => compare_any ⟨vol, block, data⟩ ⟨yv, yb, yd⟩ (grow ((wr.alloc (.cells #[.int .i64 vol, .int .i64 block, .string data] 74)).drewN q) os)
        simp only at hcg
        have z0 : ∀ q os, (grow ((wr.alloc (.cells #[.int .i64 vol, .int .i64 block, .string data] 74)).drewN q) os).cell? ⟨wr.heap.size, 0, none⟩ = some (.int .i64 vol) := fun q os => (HCn.out q os).1
        have z1 : ∀ q os, (grow ((wr.alloc (.cells #[.int .i64 vol, .int .i64 block, .string data] 74)).drewN q) os).cell? ⟨wr.heap.size, 1, none⟩ = some (.int .i64 block) := fun q os => (HCn.out q os).2.1
        have z2 : ∀ q os, (grow ((wr.alloc (.cells #[.int .i64 vol, .int .i64 block, .string data] 74)).drewN q) os).cell? ⟨wr.heap.size, 2, none⟩ = some (.string data) := fun q os => (HCn.out q os).2.2
        have q0 : ∀ q os, (grow ((wr.alloc (.cells #[.int .i64 vol, .int .i64 block, .string data] 74)).drewN q) os).cell? ⟨b, off + (k + 1) * 3, none⟩ = some (.int .i64 yv) := fun q os => ((HBn.out q os).cell (p := ⟨b, off + (k + 1) * 3, none⟩) hbw).trans y1
        have q1 : ∀ q os, (grow ((wr.alloc (.cells #[.int .i64 vol, .int .i64 block, .string data] 74)).drewN q) os).cell? ⟨b, off + (k + 1) * 3 + 1, none⟩ = some (.int .i64 yb) := fun q os => ((HBn.out q os).cell (p := ⟨b, off + (k + 1) * 3 + 1, none⟩) hbw).trans y2
        have q2 : ∀ q os, (grow ((wr.alloc (.cells #[.int .i64 vol, .int .i64 block, .string data] 74)).drewN q) os).cell? ⟨b, off + (k + 1) * 3 + 2, none⟩ = some (.string yd) := fun q os => ((HBn.out q os).cell (p := ⟨b, off + (k + 1) * 3 + 2, none⟩) hbw).trans y3
        have e0 : ((k : Int) + 1).toNat = k + 1 := by omega
        have p0 : (0 : Int) ≤ (k : Int) + 1 := by omega
        have b0 : (k : Int) + 1 < (n : Int) := by omega
        have r0 : IntKind.i64.wrap ((k : Int) + 1) = (k : Int) + 1 := by rw [IntKind.wrap_i64]; omega
        clear y1 y2 y3
        by_cases hc : cmpW ⟨vol, block, data⟩ ⟨yv, yb, yd⟩ = 0
        · have HK : Hid (acc ++ lasts (us.drop (k + 1)) = F) := Lib.hid (by have h1 := HR3.out; rw [if_neg (by simpa using hc)] at h1; exact h1)
          rw [hc] at hcg
          clear hc HR3
          go_wp2_with fail
          go_quiet_grown (first | (go_at_call 58; refine Calls.grown_of (hcg _ _)))
          clear z0 z1 z2 q0 q1 q2 e0 p0 b0 r0 hcg
          have HB5 : Hid (Below wr.heap.size wr (grow ((wr.alloc (.cells #[.int .i64 vol, .int .i64 block, .string data] 74)).drewN nq) osq)) := Lib.hid (HBn.out nq osq)
          have HC5 := Lib.hid (HCn.out nq osq)
          clear HBn HCn x1 x2 x3
          generalize grow ((wr.alloc (.cells #[.int .i64 vol, .int .i64 block, .string data] 74)).drewN nq) osq = w5 at HB5 HC5 ⊢
          clear nq osq
          have HO5 : Hid (w5.ownsRow w3.heap.size 74 3 (.slice A4 m c4) m (wrCells acc)) := Lib.hid (own_kept HO.out HB5.out)
          have HB6 : Hid (Below w3.heap.size w3 w5) := Lib.hid (HB.out.trans (HB5.out.mono HB.out.size))
          go_wp2_with fail
          go_roundg (n - (k + 1))
          case measure => omega
          case rel => exact ⟨k + 1, m, acc, by go_num, by omega, Nat.le_refl _, hm, by omega, HO5, HK, HB6⟩
        · have HK : Hid (acc ++ (⟨vol, block, data⟩ :: lasts (us.drop (k + 1))) = F) := Lib.hid (by have h1 := HR3.out; rw [if_pos (by simpa using hc)] at h1; exact h1)
          have hc' : (cmpW ⟨vol, block, data⟩ ⟨yv, yb, yd⟩ != 0) = true := by rw [bne_iff_ne]; exact hc
          obtain ⟨r, hr⟩ : ∃ r, cmpW ⟨vol, block, data⟩ ⟨yv, yb, yd⟩ = r := ⟨_, rfl⟩
          rw [hr] at hcg hc'
          clear hc HR3 hr
          go_wp2_with fail
          go_quiet_grown (first | (go_at_call 58; refine Calls.grown_of (hcg _ _)))
          clear z0 z1 z2 q0 q1 q2 e0 p0 b0 r0 hcg
          have HB5 : Hid (Below wr.heap.size wr (grow ((wr.alloc (.cells #[.int .i64 vol, .int .i64 block, .string data] 74)).drewN nq) osq)) := Lib.hid (HBn.out nq osq)
          have HC5 := Lib.hid (HCn.out nq osq)
          clear HBn HCn x1 x2 x3
          generalize grow ((wr.alloc (.cells #[.int .i64 vol, .int .i64 block, .string data] 74)).drewN nq) osq = w5 at HB5 HC5 ⊢
          clear nq osq
          have HO5 : Hid (w5.ownsRow w3.heap.size 74 3 (.slice A4 m c4) m (wrCells acc)) := Lib.hid (own_kept HO.out HB5.out)
          have hy0 : w5.cell? ⟨wr.heap.size, 0, none⟩ = some (.int .i64 vol) := HC5.out.1
          have hy1 : w5.cell? ⟨wr.heap.size, 1, none⟩ = some (.int .i64 block) := HC5.out.2.1
          have hy2 : w5.cell? ⟨wr.heap.size, 2, none⟩ = some (.string data) := HC5.out.2.2
          have HZ5 : Hid (w3.heap.size ≤ w5.heap.size) := Lib.hid (by have h1 := HB.out.size; have h2 := HB5.out.size; omega)
          clear HC5
          go_wp2_with (at_builtin; refine wpList_append_own _ rfl (.tmp 33) (.tmp 35) 25 rfl w3.heap.size 74 i0 (.agg #[.int .i64 0, .int .i64 0, .string ByteArray.empty]) 3 32 Try.underlying25 hi0 hz0 hz1 hz2 rfl (by decide) (.slice A4 m c4) m (wrCells acc) rfl (HO5.out.alloc _) ⟨w5.heap.size, 0, none⟩ 1 1 [.int .i64 vol, .int .i64 block, .string data] rfl rfl (cell_three_new _ _ _ _ _) (by intro u hu; simp at hu; rcases hu with rfl | rfl | rfl <;> rfl) ?c4 ?c5 ?c6 ?_)
          case c4 => unfold maxLen; omega
          case c5 => omega
          case c6 => have := HZ5.out; simp; omega
          intro v6 w6 hown hg _
          have HO6 : Hid (w6.ownsRow w3.heap.size 74 3 v6 (m + 1) (wrCells (acc ++ [⟨vol, block, data⟩]))) := Lib.hid (by rw [wrCells_append]; exact hown)
          have HB6 : Hid (Below w3.heap.size w3 w6) := Lib.hid (by
            have h1 : Below w3.heap.size w3 w5 := HB.out.trans (HB5.out.mono HB.out.size)
            exact (h1.alloc h1.size _).grown hg (by have := h1.size; simp; omega) (fun q hq => (HO.out.lt q hq).1))
          clear hown hg hy0 hy1 hy2 HO5
          go_wp2_with fail
          go_roundg (n - (k + 1))
          case measure => omega
          case rel => exact ⟨k + 1, m + 1, acc ++ [⟨vol, block, data⟩], by go_num, by omega, Nat.le_refl _, by rw [List.length_append, hm]; rfl, by omega, HO6, Lib.hid (by rw [List.append_assoc]; exact HK.out), HB6⟩
    · have hltz : ¬ (k : Int) < (n : Int) := by omega
      have HE : Hid (acc = F) := Lib.hid (by have := HR.out; rw [List.drop_of_length_le (by rw [HUs.out]; omega)] at this; simpa [lasts] using this)
      go_wp2_with fail
      go_ret
      have hO := HO.out
      rw [← hm] at hO
      have := own_end hO (HB3.out.trans (HB.out.mono HB3.out.size))
      rw [hm, HE.out] at this
      exact this
end Go.Proofs.Ythajgoigmkkbgaa
