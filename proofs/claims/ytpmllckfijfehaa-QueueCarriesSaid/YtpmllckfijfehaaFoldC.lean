/- Writes in order: contracts of cmp.Compare, compare, slices.Clone and slices.SortStableFunc at writes. -/
import Derived.Test.YtpmllckfijfehaaStbT
import Derived.Test.YtpmllckfijfehaaVolsPartsW
import Derived.Test.YtpmllckfijfehaaFoldP
import Derived.Shelf.SlSortCmp.InsertionK
namespace Go.Proofs.Ytpmllckfijfehaa
open Go.Shelf Go.RowKit Go.Lib Go.Sort

instance : Inhabited Wr := ⟨⟨0, 0, ByteArray.empty⟩⟩

def cmpI (a b : Int) : Int := if a < b then -1 else if b < a then 1 else 0
def cmpW (a b : Wr) : Int := if a.vol = b.vol then cmpI a.block b.block else cmpI a.vol b.vol
def encW (x : Wr) : List Value := [.int .i64 x.vol, .int .i64 x.block, .string x.data]
theorem cmpI_lt (a b : Int) : cmpI a b < 0 ↔ a < b := by unfold cmpI; split <;> (try split) <;> omega
theorem cmpI_zero (a b : Int) : cmpI a b = 0 ↔ a = b := by unfold cmpI; split <;> (try split) <;> omega
theorem cmpW_lt (a b : Wr) : cmpW a b < 0 ↔ ltW a b = true := by
  rw [ltW_iff]; unfold cmpW; split
  · rw [cmpI_lt]; omega
  · rw [cmpI_lt]; omega
theorem cmpW_zero (a b : Wr) : cmpW a b = 0 ↔ a.vol = b.vol ∧ a.block = b.block := by
  unfold cmpW; split
  · rw [cmpI_zero]; omega
  · rw [cmpI_zero]; omega
theorem ltOf_cmpW (a b : Wr) : ltOf cmpW a b = ltW a b := by
  unfold ltOf
  cases h : ltW a b with
  | true => exact decide_eq_true ((cmpW_lt a b).2 h)
  | false => exact decide_eq_false (fun h2 => by rw [(cmpW_lt a b).1 h2] at h; cases h)
theorem swoW : SWO (ltOf cmpW) where
  irrefl x := by rw [ltOf_cmpW]; exact ltW_irr x
  trans x y z h1 h2 := by rw [ltOf_cmpW] at *; exact ltW_trans h1 h2
  ntrans x y z h1 h2 := by rw [ltOf_cmpW] at *; rw [ltW_not] at *; omega
theorem encW_len (x : Wr) : (encW x).length = 3 := rfl
theorem encW_one (x : Wr) : ∀ v ∈ encW x, v.oneCell' = true := by intro v hv; simp [encW] at hv; rcases hv with rfl | rfl | rfl <;> rfl

set_option maxRecDepth 100000 in
theorem isNaN_any (a : Int) (w : World) : Calls Try.prog 68 #[.int .i64 a] w fun e w' => e = .returned (.bool false) ∧ w' = w := by
  go_enter Try.func68, Try.ntmps68
  go_wp2
  go_ret
  simp

set_option maxHeartbeats 800000 in
set_option maxRecDepth 100000 in
theorem Compare_any (a b : Int) (w : World) : Calls Try.prog 64 #[.int .i64 a, .int .i64 b] w fun e w' => e = .returned (.int .i64 (cmpI a b)) ∧ w' = w := by
  have hN := isNaN_any
  by_cases h1 : a < b
  · rw [show cmpI a b = -1 from by unfold cmpI; rw [if_pos h1]]
    go_enter Try.func64, Try.ntmps64
    go_wp2_with (go_at_call 68; refine (hN _ _).mono ?_; rintro e w' ⟨rfl, rfl⟩)
    go_ret
    exact ⟨rfl, rfl⟩
  · by_cases h2 : b < a
    · rw [show cmpI a b = 1 from by unfold cmpI; rw [if_neg h1, if_pos h2]]
      go_enter Try.func64, Try.ntmps64
      go_wp2_with (go_at_call 68; refine (hN _ _).mono ?_; rintro e w' ⟨rfl, rfl⟩)
      go_ret
      exact ⟨rfl, rfl⟩
    · rw [show cmpI a b = 0 from by unfold cmpI; rw [if_neg h1, if_neg h2]]
      go_enter Try.func64, Try.ntmps64
      go_wp2_with (go_at_call 68; refine (hN _ _).mono ?_; rintro e w' ⟨rfl, rfl⟩)
      go_ret
      exact ⟨rfl, rfl⟩

set_option maxHeartbeats 1000000 in
set_option maxRecDepth 100000 in
theorem compare_any (x y : Wr) (W : World) : Calls Try.prog 52 #[.agg #[.int .i64 x.vol, .int .i64 x.block, .string x.data], .agg #[.int .i64 y.vol, .int .i64 y.block, .string y.data]] W fun e w' => e = .returned (.int .i64 (cmpW x y)) ∧ ∃ q os', w' = grow (W.drewN q) os' := by
  obtain ⟨v1, b1, s1⟩ := x
  obtain ⟨v2, b2, s2⟩ := y
  have hC := Compare_any
  by_cases h : v1 = v2
  · subst h
    rw [show cmpW ⟨v1, b1, s1⟩ ⟨v1, b2, s2⟩ = cmpI b1 b2 from by unfold cmpW; simp]
    obtain ⟨r, hr⟩ : ∃ r, cmpI b1 b2 = r := ⟨_, rfl⟩
    have HR := Lib.hid hr
    rw [hr]
    clear hr
    simp only
    go_enter Try.func52, Try.ntmps52
    go_wp2_with (go_at_call 64; refine (hC _ _ _).mono ?_; rw [HR.out]; rintro e w' ⟨rfl, rfl⟩)
    go_ret
    exact ⟨rfl, 0, _, by rw [alloc_eq_grow, alloc_eq_grow, grow_grow]; rfl⟩
  · rw [show cmpW ⟨v1, b1, s1⟩ ⟨v2, b2, s2⟩ = cmpI v1 v2 from by unfold cmpW; simp [h]]
    obtain ⟨r, hr⟩ : ∃ r, cmpI v1 v2 = r := ⟨_, rfl⟩
    have HR := Lib.hid hr
    have h' : (v1 != v2) = true := by rw [bne_iff_ne]; exact h
    rw [hr]
    clear hr h
    simp only
    go_enter Try.func52, Try.ntmps52
    go_wp2_with (go_at_call 64; refine (hC _ _ _).mono ?_; rw [HR.out]; rintro e w' ⟨rfl, rfl⟩)
    go_ret
    exact ⟨rfl, 0, _, by rw [alloc_eq_grow, alloc_eq_grow, grow_grow]; rfl⟩

theorem cmpLaysW (blk off size : Nat) (w : World) : CmpLays Try.prog 52 #[] encW 3 cmpW blk off size w := fun _ _ _ _ x y => compare_any x y _

/-! ### The insertion sort out of the library, at this program -/

def Try.ren20 : Go.Shelf.Ren := ⟨fun | 20 => 69 | n => n, fun | 0 => 0 | 3 => 3 | 4 => 4 | 22 => 23 | 24 => 61 | 25 => 78 | n => n, fun | n => n⟩
theorem Try.lays20 : SlLaysF0.n20 Try.prog Try.ren20 where
  mixed := by kernel_rfl
  f20 := ⟨Try.f69.name, by kernel_rfl, Try.func69.trans (congrArg some (by kernel_rfl))⟩
  t0 := Try.underlying0
  a0 := Try.isAgg0
  z0 := Try.sizeOf0
  v0 := Try.zeroValue0
  t3 := Try.underlying3
  a3 := Try.isAgg3
  z3 := Try.sizeOf3
  v3 := Try.zeroValue3
  t4 := Try.underlying4
  a4 := Try.isAgg4
  z4 := Try.sizeOf4
  v4 := Try.zeroValue4
  t22 := Try.underlying23
  a22 := Try.isAgg23
  z22 := Try.sizeOf23
  v22 := Try.zeroValue23
  t25 := Try.underlying78
  a25 := Try.isAgg78
  z25 := Try.sizeOf78
  v25 := Try.zeroValue78

theorem ins_any {w0 : World} {blk cap : Nat} {d0 : Array Wr} (R : RowK encW 3 w0 blk 0 d0) (hsz : d0.size ≤ 4000) (a b : Nat) (d : Array Wr) (w : World) (hs : d.size = d0.size) (S : SWK encW 3 w0 blk 0 d w) (hab : a ≤ b) (hb : b ≤ d0.size) :
    Calls Try.prog 69 #[.slice (some ⟨blk, 0, none⟩) d0.size cap, .int .i64 a, .int .i64 b, .func (.func 52) #[] #[]] w fun e w' => e = .returned (.tuple #[]) ∧ ∃ d', Merged (ltOf cmpW) a b d d' ∧ SWK encW 3 w0 blk 0 d' w' := by
  have eg : ∀ args w, (callFunc 52 args).run Try.prog w = .ok (.enter 52 args) w := enters_of Try.func52 (by kernel_rfl) rfl
  have := AnyQ.insertionSortCmpFunc Try.lays20 3 Try.isAgg61 Try.sizeOf61 encW encW_len encW_one cmpW 52 #[] blk 0 cap a b d w eg (cmpLaysW _ _ _ _) (S.holds R.hblk R.hH hs) (S.lt R.hblk) hab (by omega) (by omega)
  rw [hs] at this
  refine this.mono ?_
  rintro e w' ⟨rfl, n, os, rfl⟩
  have M := ins_sorts swoW d hab (by omega : b ≤ d.size)
  exact ⟨rfl, _, M, S.on R.hblk n _ os M.size⟩

theorem SortStable_row {w0 : World} {blk cap : Nat} {d0 : Array Wr} (R : RowK encW 3 w0 blk 0 d0) (hsz : d0.size ≤ 4000) :
    Calls Try.prog 55 #[.slice (some ⟨blk, 0, none⟩) d0.size cap, .func (.func 52) #[] #[]] w0 fun e w' => e = .returned (.tuple #[]) ∧ ∃ d', d'.size = d0.size ∧ Stb (ltOf cmpW) d0.size (getF d0) (getF d') ∧ sortF (ltOf cmpW) (getF d') 0 d0.size ∧ SWK encW 3 w0 blk 0 d' w' := by
  have eg : ∀ args w, (callFunc 52 args).run Try.prog w = .ok (.enter 52 args) w := enters_of Try.func52 (by kernel_rfl) rfl
  have HC := Lib.hid (stable_any Try.stbLays 3 Try.isAgg61 Try.sizeOf61 encW cmpW swoW 52 #[] blk 0 cap d0 w0 eg (cmpLaysW _ _ _ _) R hsz (fun a b d w h1 h2 h3 h4 => ins_any R hsz a b d w h1 h2 h3 h4))
  clear R
  go_enter Try.func55, Try.ntmps55
  go_wp2_with (go_at_call 65; refine HC.out.mono ?_; rintro e w' ⟨rfl, h⟩; have HH := Lib.hid h; clear h)
  go_end0
  exact ⟨rfl, HH.out⟩
end Go.Proofs.Ytpmllckfijfehaa
