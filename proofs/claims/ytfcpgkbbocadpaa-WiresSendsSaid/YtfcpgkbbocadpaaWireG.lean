/- Contracts of the small functions of the package wires, of slices.IndexFunc, ContainsFunc, Clone, Grow and Concat of packets. -/
import Derived.Test.YtfcpgkbbocadpaaWireQ
import Derived.Test.YtfcpgkbbocadpaaWireO
import Derived.Shelf.Spec.SlicesGrow
namespace Go.Proofs.Ytfcpgkbbocadpaa
open Go.RowKit

theorem WisSite_any (n : Int) (w : World) : Calls Try.prog 18 #[.int .i64 n] w fun e w' => e = .returned (.bool (decide (0 ≤ n ∧ n ≤ 1))) ∧ w = w' := by
  by_cases h0 : n = 0
  · subst h0
    go_enter Try.func18, Try.ntmps18
    go_wp2
    go_ret
    exact ⟨rfl, rfl⟩
  · have e0 : (n == 0) = false := beq_eq_false_iff_ne.2 h0
    by_cases h1 : n = 1
    · subst h1
      go_enter Try.func18, Try.ntmps18
      go_wp2
      go_ret
      exact ⟨rfl, rfl⟩
    · have e1 : (n == 1) = false := beq_eq_false_iff_ne.2 h1
      rw [decide_eq_false (by omega)]
      go_enter Try.func18, Try.ntmps18
      go_wp2
      go_ret
      exact ⟨rfl, rfl⟩
theorem WisLong_any (p : WPk) (w : World) : Calls Try.prog 19 #[p.val] w fun e w' => e = .returned (.bool (decide (4103 < p.s.length))) ∧ Below w.heap.size w w' := by
  obtain ⟨t, s⟩ := p
  unfold WPk.val
  dsimp only
  obtain ⟨T, hT⟩ : ∃ T, str s = T := ⟨_, rfl⟩
  have hsz : T.size = s.length := by rw [← hT, str_size]
  rw [hT, ← hsz]
  clear hT hsz
  have e : decide (4103 < T.size) = decide ((4103 : Int) < (T.size : Int)) := by
    rw [Bool.eq_iff_iff, decide_eq_true_iff, decide_eq_true_iff]; omega
  rw [e]
  clear e
  go_enter Try.func19, Try.ntmps19
  go_wp2
  go_ret
  exact ⟨rfl, below_one _ _⟩
theorem WisWrong_any (p : WPk) (w : World) : Calls Try.prog 22 #[p.val] w fun e w' => e = .returned (.bool (!okW p)) ∧ Below w.heap.size w w' := by
  have e : okW p = (decide (0 ≤ p.to_ ∧ p.to_ ≤ 1) && !decide (4103 < p.s.length)) := by
    unfold okW
    rw [Bool.eq_iff_iff, decide_eq_true_iff, Bool.and_eq_true, decide_eq_true_iff, Bool.not_eq_true', decide_eq_false_iff_not]
    omega
  rw [e]
  have HL := Lib.hid (fun w => WisLong_any p w)
  obtain ⟨t, s⟩ := p
  unfold WPk.val at HL ⊢
  dsimp only at HL ⊢
  have HS := Lib.hid (fun w => WisSite_any t w)
  generalize decide (4103 < s.length) = q at HL ⊢
  generalize decide (0 ≤ t ∧ t ≤ 1) = r at HS ⊢
  clear e
  cases r with
  | false =>
    go_enter Try.func22, Try.ntmps22
    go_wp2_with (go_at_call 18; refine (HS.out _).mono ?_; rintro e w' ⟨rfl, rfl⟩)
    go_ret
    exact ⟨rfl, below_one _ _⟩
  | true =>
    go_enter Try.func22, Try.ntmps22
    go_wp2_with (first | (go_at_call 18; refine (HS.out _).mono ?_; rintro e w' ⟨rfl, rfl⟩) | (go_at_call 19; refine (HL.out _).mono ?_; rintro e w2 ⟨rfl, hb2⟩; have HB2 := Lib.hid hb2; clear hb2))
    go_ret
    exact ⟨by cases q <;> rfl, below_next (below_one _ _) HB2.out⟩

/-- The first packet that is wrong, or -1. -/
def IdxW (l : List WPk) (w : World) (e : Ending) (w' : World) : Prop := ∃ k : Int, e = .returned (.int .i64 k) ∧ -1 ≤ k ∧ (0 ≤ k ↔ l.all okW = false) ∧ Below w.heap.size w w'
theorem idxW_some {l : List WPk} {w w' : World} {k : Nat} {p : WPk} (h : p ∈ l) (hs : okW p = false) (hb : Below w.heap.size w w') : IdxW l w (.returned (.int .i64 k)) w' := by
  refine ⟨k, rfl, by omega, ⟨fun _ => ?_, fun _ => by omega⟩, hb⟩
  rw [Bool.eq_false_iff]
  intro hall
  have := List.all_eq_true.1 hall p h
  rw [hs] at this
  exact absurd this (by simp)
theorem idxW_none {l : List WPk} {w w' : World} (h : l.all okW = true) (hb : Below w.heap.size w w') : IdxW l w (.returned (.int .i64 (-1))) w' :=
  ⟨-1, rfl, by omega, ⟨fun h => by omega, fun h' => by rw [h] at h'; exact absurd h' (by simp)⟩, hb⟩

set_option maxHeartbeats 1000000 in
set_option maxRecDepth 100000 in
theorem WIndex_any {w : World} {A : Option Addr} {c : Nat} {l : List WPk} (h : WpAt w w.heap.size A l) (hl : l.length ≤ 9223372036854775807) :
    Calls Try.prog 26 #[.slice A l.length c, .func (.func 22) #[] #[]] w (IdxW l w) := by
  have HW := Lib.hid h
  obtain ⟨n, hn⟩ : ∃ n, l.length = n := ⟨_, rfl⟩
  have HN := Lib.hid hn
  rw [hn] at hl ⊢
  clear h hn
  go_enter Try.func26, Try.ntmps26
  go_wp2_with fail
  go_loopw [5, 8] (fun _ i wr => ∃ k : Nat, k ≤ n ∧ i = .int .i64 k ∧ Hid ((l.take k).all okW = true) ∧ Hid (Below w.heap.size w wr)) (fun _ i _ => n - (intOf i).toNat)
  case atStart => exact ⟨0, Nat.zero_le _, rfl, Lib.hid (by simp), Lib.hid (Below.refl _ _)⟩
  case round =>
    obtain ⟨k, hk, rfl, HK, HB⟩ := hrel
    by_cases hlt : k < n
    · have hkl : k < l.length := by rw [HN.out]; exact hlt
      obtain ⟨bb, off, rfl, hbl, x0, x1⟩ := HW.out.at_ HB.out hkl
      have HM : Hid (l[k] ∈ l) := Lib.hid (List.getElem_mem hkl)
      have HT := Lib.hid (List.take_succ_eq_append_getElem hkl)
      obtain ⟨p, hp⟩ : ∃ p, l[k] = p := ⟨_, rfl⟩
      rw [hp] at x0 x1 HM HT
      obtain ⟨to_, s⟩ := p
      dsimp only at x0 x1
      have HR := Lib.hid (fun w => WisWrong_any ⟨to_, s⟩ w)
      unfold WPk.val at HR
      dsimp only at HR
      obtain ⟨T, hT⟩ : ∃ T, str s = T := ⟨_, rfl⟩
      rw [hT] at x1 HR
      have hkn2 : (k : Int) < (n : Int) := by omega
      have hk0 : (0 : Int) ≤ (k : Int) := by omega
      clear hp hT hkl
      cases hq : okW ⟨to_, s⟩ with
      | true =>
        rw [hq] at HR
        have HQ := Lib.hid hq
        clear hq
        go_wp2_with (go_at_call 22; refine (HR.out _).mono ?_; rintro e w2 ⟨rfl, hb2⟩; have HB2 := Lib.hid hb2; clear hb2)
        go_roundw
        case rel => exact ⟨k + 1, by omega, by go_num, Lib.hid (by rw [HT.out, List.all_append, HK.out]; simp [HQ.out]), Lib.hid (below_next HB.out HB2.out)⟩
        case measure => simp [intOf]; omega
      | false =>
        rw [hq] at HR
        have HQ := Lib.hid hq
        clear hq
        go_wp2_with (go_at_call 22; refine (HR.out _).mono ?_; rintro e w2 ⟨rfl, hb2⟩; have HB2 := Lib.hid hb2; clear hb2)
        go_ret
        exact idxW_some HM.out HQ.out (below_next HB.out HB2.out)
    · have HE : Hid (l.all okW = true) := Lib.hid (by have := HK.out; rwa [List.take_of_length_le (by rw [HN.out]; omega)] at this)
      have hkn2 : ¬ (k : Int) < (n : Int) := by omega
      go_wp2_with fail
      go_ret
      exact idxW_none HE.out HB.out

theorem WContains_any {w : World} {A : Option Addr} {c : Nat} {l : List WPk} (h : WpAt w w.heap.size A l) (hl : l.length ≤ 9223372036854775807) :
    Calls Try.prog 21 #[.slice A l.length c, .func (.func 22) #[] #[]] w fun e w' => e = .returned (.bool (!l.all okW)) ∧ Below w.heap.size w w' := by
  have HI := Lib.hid (WIndex_any (c := c) h hl)
  unfold IdxW at HI
  clear h
  go_enter Try.func21, Try.ntmps21
  cases hq : l.all okW with
  | true =>
    rw [hq] at HI
    clear hq
    go_wp2_with (go_at_call 26; refine HI.out.mono ?_; rintro e w2 ⟨k, rfl, hk, hi, hb2⟩; have h0 : decide (0 ≤ k) = false := (by rw [decide_eq_false_iff_not]; intro h0; exact absurd (hi.1 h0) (by simp)); have HB2 := Lib.hid hb2; clear hi hb2)
    go_ret
    exact ⟨rfl, HB2.out⟩
  | false =>
    rw [hq] at HI
    clear hq
    go_wp2_with (go_at_call 26; refine HI.out.mono ?_; rintro e w2 ⟨k, rfl, hk, hi, hb2⟩; have h0 : decide (0 ≤ k) = true := (by rw [decide_eq_true_iff]; exact hi.2 rfl); have HB2 := Lib.hid hb2; clear hi hb2)
    go_ret
    exact ⟨rfl, HB2.out⟩

theorem WRight_any {w : World} {A : Option Addr} {c : Nat} {l : List WPk} (h : WpAt w w.heap.size A l) (hl : l.length ≤ 1000) (_hc : l.length ≤ c) :
    Calls Try.prog 11 #[.slice A l.length c] w fun e w' => e = .returned (.bool (rightW l)) ∧ Below w.heap.size w w' := by
  have HI := Lib.hid (WContains_any (c := c) h (by omega))
  clear h
  by_cases h2 : l.length ≤ 256
  · have e : rightW l = l.all okW := by unfold rightW; rw [decide_eq_true h2]; rfl
    rw [e]
    generalize l.all okW = b at HI ⊢
    generalize l.length = n at *
    have h2' : decide ((n : Int) ≤ 256) = true := by rw [decide_eq_true_iff]; omega
    clear e
    go_enter Try.func11, Try.ntmps11
    go_wp2_with (go_at_call 21; refine HI.out.mono ?_; rintro e w2 ⟨rfl, hb2⟩; have HB2 := Lib.hid hb2; clear hb2)
    go_ret
    exact ⟨by cases b <;> rfl, HB2.out⟩
  · have e : rightW l = false := rightW_long (by omega)
    rw [e]
    generalize l.length = n at *
    have h2' : decide ((n : Int) ≤ 256) = false := by rw [decide_eq_false_iff_not]; omega
    clear e
    go_enter Try.func11, Try.ntmps11
    go_wp2_with fail
    go_ret
    exact ⟨rfl, Below.refl _ _⟩
theorem Wfind_any {w : World} {A : Option Addr} {c : Nat} {l : List WPk} (k : Int) (h : WpAt w w.heap.size A l) (hl : l.length ≤ 1000) (hc : l.length ≤ c) :
    Calls Try.prog 23 #[.slice A l.length c, .int .i64 k] w fun e w' => e = .returned (.int .i64 (takeWE l k)) ∧ Below w.heap.size w w' := by
  have HI := Lib.hid (WRight_any h hl hc)
  unfold takeWE
  generalize rightW l = b at HI ⊢
  generalize l.length = n at *
  clear h
  cases b with
  | false =>
    rw [if_pos rfl]
    go_enter Try.func23, Try.ntmps23
    go_wp2_with (go_at_call 11; refine HI.out.mono ?_; rintro e w2 ⟨rfl, hb2⟩; have HB2 := Lib.hid hb2; clear hb2)
    go_ret
    exact ⟨rfl, HB2.out⟩
  | true =>
    rw [if_neg (by simp)]
    by_cases k0 : k < 0
    · rw [if_pos (.inl k0)]
      go_enter Try.func23, Try.ntmps23
      go_wp2_with (go_at_call 11; refine HI.out.mono ?_; rintro e w2 ⟨rfl, hb2⟩; have HB2 := Lib.hid hb2; clear hb2)
      go_ret
      exact ⟨rfl, HB2.out⟩
    · by_cases k1 : (n : Int) ≤ k
      · rw [if_pos (.inr k1)]
        go_enter Try.func23, Try.ntmps23
        go_wp2_with (go_at_call 11; refine HI.out.mono ?_; rintro e w2 ⟨rfl, hb2⟩; have HB2 := Lib.hid hb2; clear hb2)
        go_ret
        exact ⟨rfl, HB2.out⟩
      · rw [if_neg (by omega)]
        go_enter Try.func23, Try.ntmps23
        go_wp2_with (go_at_call 11; refine HI.out.mono ?_; rintro e w2 ⟨rfl, hb2⟩; have HB2 := Lib.hid hb2; clear hb2)
        go_ret
        exact ⟨rfl, HB2.out⟩

def OwnEnd (t : TypeId) (size n : Nat) (cs : List Value) (w : World) (e : Ending) (w' : World) : Prop :=
  ∃ v, e = .returned v ∧ w'.ownsRow w.heap.size t size v n cs ∧ Below w.heap.size w w'
theorem Try.infoWp : (Try.prog.info? 24).map (fun i => (i.zero, i.size, i.bytes)) = some (some (.agg #[.int .i64 0, .string ⟨#[]⟩]), 2, 24) := by kernel_rfl
set_option maxHeartbeats 800000 in
theorem WClone_any {w : World} {A : Option Addr} {n c : Nat} {cs : List Value} (h : Lies w w.heap.size A cs) (hl : cs.length = n * 2) (hn : n ≤ 1000) (h1 : ∀ u ∈ cs, u.oneCell' = true) :
    Calls Try.prog 25 #[.slice A n c] w (OwnEnd 24 2 n cs w) := by
  obtain ⟨i0, hi0, hz0, hz1, hz2⟩ := info_parts Try.infoWp
  have hnil := run_eql_slice_nil (P := Try.prog) w 22 24 A n c Try.underlying22
  have HL := Lib.hid h
  have HLen := Lib.hid hl
  cases A with
  | none =>
    have h0 : cs = [] := by
      rcases h with h | ⟨b, off, hA, _⟩
      · exact h
      · cases hA
    have h00 : n = 0 := by rw [h0] at hl; simp at hl; omega
    have HE : Hid (OwnEnd 24 2 n cs w (.returned (.slice none 0 0)) w) := Lib.hid ⟨_, rfl, by rw [h0, h00]; exact World.ownsRow_nil _ _ _ _, Below.refl _ _⟩
    clear h hl h0 h00 hi0 hz0 hz1 hz2
    go_enter Try.func25, Try.ntmps25
    go_wp2
    go_ret
    exact HE.out
  | some x =>
    have HC : Hid (∀ j u, cs[j]? = some u → (w.alloc (.cells #[] 24)).cell? (x.add j) = some u) := Lib.hid (fun j u hj => by
      rcases h with h | ⟨b, off, hA, hb, hc⟩
      · rw [h] at hj; simp at hj
      · cases hA
        obtain ⟨hj1, hj2⟩ := List.getElem?_eq_some_iff.1 hj
        rw [WideShapes.add_plain, ((Below.refl w.heap.size w).alloc (Nat.le_refl _) _).cell (p := ⟨b, off + j, none⟩) hb, hc j hj1, hj2])
    clear h hl
    go_enter Try.func25, Try.ntmps25
    go_wp2_with (at_builtin; refine wpList_append_own _ rfl (.tmp 5) (.tmp 6) 22 rfl w.heap.size 24 i0 (.agg #[.int .i64 0, .string ⟨#[]⟩]) 2 24 Try.underlying22 hi0 hz0 hz1 hz2 rfl (by decide) (.slice (some ⟨w.heap.size, 0, none⟩) 0 0) 0 [] rfl (World.ownsRow_made w #[] 0 (Nat.le_refl _) (Nat.zero_le _) rfl) x n c cs rfl HLen.out HC.out h1 ?c4 ?c5 ?c6 ?_)
    case c4 => unfold maxLen; omega
    case c5 => omega
    case c6 => simp
    intro v' w2 hown hg _
    have HE : Hid (OwnEnd 24 2 n cs w (.returned v') w2) := by
      refine Lib.hid ⟨_, rfl, by simpa using hown, ?_⟩
      refine ((Below.refl w.heap.size w).alloc (Nat.le_refl _) _).grown hg (by simp) (fun k hk => ?_)
      simp only [Value.ownBlock, Option.some.injEq] at hk
      omega
    clear hown hg
    go_wp2
    go_ret
    exact HE.out

end Go.Proofs.Ytfcpgkbbocadpaa
namespace Go.Proofs.Ytfcpgkbbocadpaa
open Go.Shelf Go.RowKit Go.Lib
def Try.ren8W : Go.Shelf.Ren := ⟨fun | 4 => 27 | n => n, fun | 0 => 0 | 3 => 3 | 4 => 4 | 9 => 9 | 20 => 20 | 22 => 22 | 25 => 24 | n => n, fun | n => n⟩
theorem Try.lays8W : Lays8.n4 Try.prog Try.ren8W where
  mixed := by kernel_rfl
  f4 := ⟨Try.f27.name, by kernel_rfl, Try.func27.trans (congrArg some (by kernel_rfl))⟩
  t0 := Try.underlying0
  a0 := Try.isAgg0
  z0 := Try.sizeOf0
  v0 := Try.zeroValue0
  t3 := Try.underlying3
  a3 := Try.isAgg3
  z3 := Try.sizeOf3
  v3 := Try.zeroValue3
  t4 := Try.underlying4
  a4 := Try.isAgg4
  z4 := Try.sizeOf4
  v4 := Try.zeroValue4
  t9 := Try.underlying9
  a9 := Try.isAgg9
  z9 := Try.sizeOf9
  v9 := Try.zeroValue9
  t20 := Try.underlying20
  a20 := Try.isAgg20
  z20 := Try.sizeOf20
  v20 := Try.zeroValue20
  t22 := Try.underlying22
  a22 := Try.isAgg22
  z22 := Try.sizeOf22
  v22 := Try.zeroValue22

/-- slices.Grow of a nil slice: a row of the call's own, empty. -/
theorem WGrow_nil (w : World) (n : Nat) (hn : n ≤ 4000) : Calls Try.prog 27 #[.slice none 0 0, .int .i64 n] w (OwnEnd 24 2 0 [] w) := by
  by_cases h0 : n = 0
  · subst h0
    refine (Any8.slices_Grow_room Try.lays8W none 0 0 0 w (Nat.le_refl _) (by omega) (by omega) (Nat.le_refl _)).mono ?_
    rintro e w' ⟨rfl, rfl⟩
    exact ⟨_, rfl, World.ownsRow_nil _ _ _ _, Below.refl _ _⟩
  · obtain ⟨i0, hi0, hz0, hz1, hz2⟩ := info_parts Try.infoWp
    have := Any8.slices_Grow_grow Try.lays8W i0 (.agg #[.int .i64 0, .string ⟨#[]⟩]) hi0 hz0 (by rw [hz1]; omega) none 0 0 n [] w (Nat.le_refl _) (by omega) (by rw [hz2]; omega) (by omega) (by simp) (fun _ => rfl) (fun a h => by cases h)
    rw [show Try.ren8W.t 25 = 24 from rfl] at this
    refine this.mono ?_
    rintro e w' ⟨rfl, rfl⟩
    have hge : n ≤ grownCap w (0 + n) 0 24 := by have := grownCap_ge w (0 + n) 0 24; omega
    have hle : grownCap w (0 + n) 0 24 ≤ maxLen := grownCap_le_maxLen w (0 + n) 0 24 (by unfold maxLen; omega)
    refine ⟨_, rfl, ⟨rfl, .inr ⟨w.heap.size, _, _, rfl, Nat.le_refl _, heap_alloc_new w.drew _, Nat.zero_le _, hle, ?_, by simp⟩⟩, ?_⟩
    · rw [Array.size_append, Array.size_append, size_zeroCells, size_zeroCells]
      show 0 + (0 + n - 0) * 2 + (grownCap w (0 + n) 0 24 - (0 + n)) * 2 = _
      omega
    · exact (Below.refl w.heap.size w).drew.alloc (Nat.le_refl _) _

set_option maxHeartbeats 10000000 in
set_option maxRecDepth 100000 in
theorem WConcat_two {w : World} {g : Nat} {A1 A2 : Option Addr} {c1 c2 : Nat} {xs ys : List WPk} (h1 : WpAt w w.heap.size A1 xs) (h2 : WpAt w w.heap.size A2 ys) (hx : xs.length ≤ 1000 ∧ (A1 = none → c1 = 0)) (hy : ys.length ≤ 1000 ∧ (A2 = none → c2 = 0))
    (hg : g < w.heap.size) (hc0 : w.cell? ⟨g, 0, none⟩ = some (.slice A1 xs.length c1)) (hc1 : w.cell? ⟨g, 1, none⟩ = some (.slice A2 ys.length c2)) :
    Calls Try.prog 24 #[.slice (some ⟨g, 0, none⟩) 2 2] w (OwnEnd 24 2 (xs.length + ys.length) (wpCells (xs ++ ys)) w) := by
  have H1 := Lib.hid h1
  have H2 := Lib.hid h2
  have HX := Lib.hid hx.2
  have HY := Lib.hid hy.2
  have hxl := hx.1
  have hyl := hy.1
  obtain ⟨i0, hi0, hz0, hz1, hz2⟩ := info_parts Try.infoWp
  have HG : Hid (Calls Try.prog 27 #[.slice none 0 0, .int .i64 ((xs.length : Int) + (ys.length : Int))] w (OwnEnd 24 2 0 [] w)) := Lib.hid (by
    have := WGrow_nil w (xs.length + ys.length) (by omega)
    rw [Int.natCast_add] at this
    exact this)
  have HC0 := Lib.hid hc0
  have HC1 := Lib.hid hc1
  clear h1 h2 hx hy
  have e1 : ¬ ((xs.length : Int) < 0) := by omega
  have e2 : ¬ ((xs.length : Int) + (ys.length : Int) < 0) := by omega
  go_enter Try.func24, Try.ntmps24
  go_wp2
  refine wp_loop_rounds 3 ?_
  rw [rounds_succ]
  go_wp2_with fail
  rw [rounds_succ]
  go_wp2_with fail
  rw [rounds_succ]
  go_wp2_with fail
  refine HG.out.mono ?_
  rintro e w2 ⟨v2, rfl, ho2, hb2⟩
  have HO2 := Lib.hid ho2
  have HB2 := Lib.hid hb2
  have y0 : w2.cell? ⟨g, 0, none⟩ = some (.slice A1 xs.length c1) := by rw [hb2.cell (p := ⟨g, 0, none⟩) hg]; exact HC0.out
  have hw2 : w.heap.size ≤ w2.heap.size := hb2.size
  clear ho2 hb2 hc0 hc1 HG
  go_wp2_with fail
  refine wp_loop_rounds 3 ?_
  rw [rounds_succ]
  go_wp2_with (at_builtin; refine wpList_append_rows16 rfl (.tmp 31) (.tmp 32) 22 rfl w.heap.size 24 i0 (.agg #[.int .i64 0, .string ⟨#[]⟩]) 2 24 Try.underlying22 hi0 hz0 hz1 hz2 rfl (by decide) v2 0 [] rfl HO2.out A1 xs.length c1 (wpCells xs) rfl (wpCells_length _) w2.heap.size (H1.out.next HB2.out).lies HX.out (wpCells_one _) ?c1 ?c2 hw2 ?_)
  case c1 => unfold maxLen; omega
  case c2 => omega
  intro v3 w3 ho3 hg3
  have HB3 : Hid (Below w.heap.size w w3) := Lib.hid (HB2.out.grown hg3 hw2 (fun q hq => (HO2.out.lt q hq).1))
  (try rw [List.nil_append, Nat.zero_add] at ho3)
  have HO3 := Lib.hid ho3
  have y1 : w3.cell? ⟨g, 1, none⟩ = some (.slice A2 ys.length c2) := by rw [HB3.out.cell (p := ⟨g, 1, none⟩) hg]; exact HC1.out
  have hw3 : w.heap.size ≤ w3.heap.size := HB3.out.size
  clear ho3 hg3 y0
  go_wp2_with fail
  rw [rounds_succ]
  go_wp2_with (at_builtin; refine wpList_append_rows16 rfl (.tmp 31) (.tmp 32) 22 rfl w.heap.size 24 i0 (.agg #[.int .i64 0, .string ⟨#[]⟩]) 2 24 Try.underlying22 hi0 hz0 hz1 hz2 rfl (by decide) v3 xs.length (wpCells xs) rfl HO3.out A2 ys.length c2 (wpCells ys) rfl (wpCells_length _) w3.heap.size (H2.out.next HB3.out).lies HY.out (wpCells_one _) ?c3 ?c4 hw3 ?_)
  case c3 => unfold maxLen; omega
  case c4 => omega
  intro v4 w4 ho4 hg4
  have HE : Hid (OwnEnd 24 2 (xs.length + ys.length) (wpCells (xs ++ ys)) w (.returned v4) w4) := Lib.hid ⟨v4, rfl, by rw [wpCells_append]; exact ho4, HB3.out.grown hg4 hw3 (fun q hq => (HO3.out.lt q hq).1)⟩
  clear ho4 hg4
  go_wp2_with fail
  rw [rounds_succ]
  go_wp2_with fail
  go_ret
  exact HE.out

end Go.Proofs.Ytfcpgkbbocadpaa
