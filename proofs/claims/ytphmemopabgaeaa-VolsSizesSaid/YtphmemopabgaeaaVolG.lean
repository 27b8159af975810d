/- Laws of copy and clear at elements of any size; contracts of blank and slices.Insert. -/
import Derived.Test.YtphmemopabgaeaaVolF
import Derived.Laws.IdiomCopy
import Derived.Laws.Externs
import Derived.Laws.NewBlocks
import Derived.Lib.Walk
import Derived.Lib.SliceRun
import Derived.Lib.JoinLaws
import Derived.Lib.AppendZerosOnto
import Derived.Lib.Overlaps
import Derived.Shelf.RegionOpenPlain
namespace Go.Proofs.Ytphmemopabgaeaa
open Go.RowKit

section
variable {P : Program}
/-- copy, of elements of k cells. -/
theorem run_copy_k (w : World) (k : Nat) (dT sT ty elem : TypeId) (b o dLen dCap : Nat) (a : Addr) (sLen sCap : Nat) (cs : List Value)
    (hu : P.underlying dT = some (.slice elem)) (hs : (P.info? elem).map (·.size) = some k) (hn : cs.length = Nat.min sLen dLen * k)
    (hsrc : ∀ j v, cs[j]? = some v → w.cell? (a.add j) = some v) (hc : ∀ j, j < cs.length → (w.cell? ⟨b, o + j, none⟩).isSome = true) (hf : ∀ j, j < cs.length → w.frozen? ⟨b, o + j, none⟩ = false) (h1 : ∀ v ∈ cs, v.oneCell' = true) :
    (Builtin.copy_ #[dT, sT] ty #[.slice (some ⟨b, o, none⟩) dLen dCap, .slice (some a) sLen sCap]).run P w = .ok (goInt (Nat.min sLen dLen)) (w.setCells b o cs) := by
  have hl := run_loadCells_list (P := P) w a cs hsrc
  have hst := run_storeCells_cells (P := P) b o cs 0 w (by simpa using hc) (by simpa using hf) h1
  cases hq : P.info? elem with
  | none => simp [hq] at hs
  | some i =>
    have hi : i.size = k := by simpa [hq] using hs
    rw [hn] at hl
    simp [Builtin.copy_, run_underlying hu, Builtin.lenOf, Builtin.firstCells, sizeOf, typeInfo, hq, hi, hl, hst]

theorem wpList_copy_run (w : World) {ops : Array Oper} {rest : List Oper} {o : Oper} {a : Act} {Q : Exit → Act → World → Prop} (hgd : o.guard = none) (d s : Operand) (t t' : TypeId)
    (ho : o.op = .call { callee := .builtin .copy, args := #[d, s], argTypes := #[t, t'] }) (v u : Value) (hd : a.eval d = v) (hs : a.eval s = u) {v' : Value} {w' : World}
    (hr : (Builtin.copy_ #[t, t'] o.type #[v, u]).run P w = .ok v' w') (h : wpList P ops Q rest (a.put o.dst v') w') : wpList P ops Q (o :: rest) a w := by
  refine wpList_plain hgd fun _ hK => ?_
  unfold Oper.wp execOp
  simp only [ho, resolve, invoke, builtin, Sem.run_bind, Sem.run_pure, Result.andThen_ok, List.map_toArray, List.map_cons, List.map_nil, hd, hs, hr]
  exact hK _ _ h

theorem step_copy_run {ops : Array Oper} {o : Oper} {a : Act} {w : World} {K : Act → World → Prop} {Q : Exit → Act → World → Prop} {E : Prop}
    (hg : o.guard = none) (d x : Operand) (dT sT : TypeId) (hop : o.op = Op.call { callee := Callee.builtin Builtin.copy, args := #[d, x], argTypes := #[dT, sT] })
    (v u : Value) (hd : a.eval d = v) (hx : a.eval x = u) {v' : Value} {w' : World} (hr : (Builtin.copy_ #[dT, sT] o.type #[v, u]).run P w = .ok v' w') (hK : K (a.put o.dst v') w') :
    if Region.wanted o (yielded ops a.tmps) = true then Oper.wp P o a w K Q else E := by
  have hw : Region.wanted o (yielded ops a.tmps) = true := by simp [Region.wanted, hg]
  rw [if_pos hw]
  unfold Oper.wp
  simp [execOp, hop, resolve, invoke, builtin, hd, hx, hr, Result.andThen]
  exact hK
end

theorem blankB_length (n : Nat) : (blankB n).length = n := by simp [blankB]
theorem madeB (n : Nat) : (madeCells #[Value.string ByteArray.empty] n).toList = (blankB n).map Value.string := by
  rw [toList_madeCells_one]; simp [blankB]

/-- A new volume of n empty blocks. -/
def BlankEnd (id : Int) (n : Nat) (w : World) (e : Ending) (w' : World) : Prop :=
  ∃ g, e = .returned (.agg #[.int .i64 id, .slice (some ⟨g, 0, none⟩) n n]) ∧ w'.ownsRow w.heap.size 9 1 (.slice (some ⟨g, 0, none⟩) n n) n ((blankB n).map Value.string) ∧ Below w.heap.size w w' ∧ g < w'.heap.size

set_option maxHeartbeats 800000 in
theorem blank_any (id : Int) (n : Nat) (w : World) (hn : n ≤ 1000) :
    Calls Try.prog 35 #[.int .i64 id, .int .i64 n] w (BlankEnd id n w) := by
  obtain ⟨i0, hi0, hz0, hz1, hz2⟩ := info_parts Try.infoStrV
  have hmk : ∀ W : World, (Instr.makeSlice 45 (.int .i64 (n : Int)) (.int .i64 (n : Int))).run Try.prog W = .ok (.slice (some ⟨W.heap.size, 0, none⟩) n n) (W.alloc (.cells (madeCells #[Value.string ByteArray.empty] n) 9)) :=
    run_make_row 45 9 i0 (.string ByteArray.empty) Try.underlying45 hi0 hz0 hz1 rfl .i64 .i64 n (by rw [hz2]; omega) (by omega)
  have HMB : Hid ((madeCells #[Value.string ByteArray.empty] n).toList = (blankB n).map Value.string) := Lib.hid (madeB n)
  have HMS : Hid ((madeCells #[Value.string ByteArray.empty] n).size = n * 1) := Lib.hid (by rw [← Array.length_toList, madeB, List.length_map, blankB_length, Nat.mul_one])
  generalize madeCells #[Value.string ByteArray.empty] n = M at *
  go_enter Try.func35, Try.ntmps35
  go_wp2_with fail
  refine bodyPost_ret (v := .agg #[.int .i64 id, .slice (some ⟨w.heap.size + 1, 0, none⟩) n n]) (by simp [results, Try.results35, go_sem]) rfl ⟨w.heap.size + 1, rfl, ?_, ?_, by simp⟩
  · have := World.ownsRow_lit (base := w.heap.size) (e := 9) (size := 1) (w.alloc (.cells #[.int .i64 id, .slice (some ⟨w.heap.size + 1, 0, none⟩) n n] 47)) M n (by simp) (by unfold maxLen; omega) HMS.out
    rw [HMB.out] at this
    simpa using this
  · exact ((Below.refl _ _).alloc (Nat.le_refl _) _).alloc (by simp) _

/-! ### slices.Insert of one volume -/

/-- A row with x0, x1 laid in ahead of place i. -/
def InsEnd (xs : List Value) (i : Nat) (news : List Value) (n : Nat) (v : Value) (w : World) (e : Ending) (w' : World) : Prop :=
  ∃ A cap, e = .returned (.slice A (n + 1) cap) ∧ Lies w' w'.heap.size A (xs.take (i * 2) ++ news ++ xs.drop (i * 2)) ∧ w.grownBy w' v.ownBlock

set_option maxHeartbeats 1600000 in
set_option maxRecDepth 100000 in
theorem Insert_end {w : World} {v : Value} {n vb : Nat} {xs news : List Value} (hown : w.ownsRow 0 47 2 v n xs) (hn : n ≤ 1000)
    (hvl : news.length = 1 * 2) (hvs : ∀ j u, news[j]? = some u → w.cell? ((⟨vb, 0, none⟩ : Addr).add j) = some u) (h1v : ∀ u ∈ news, u.oneCell' = true) :
    Calls Try.prog 33 #[v, .int .i64 n, .slice (some ⟨vb, 0, none⟩) 1 1] w (InsEnd xs n news n v w) := by
  obtain ⟨i0, hi0, hz0, hz1, hz2⟩ := info_parts Try.infoVol
  have HE : Hid (∀ v' w', w'.ownsRow 0 47 2 v' (n + 1) (xs ++ news) → w.grownBy w' v.ownBlock → InsEnd xs n news n v w (.returned v') w') := Lib.hid (fun v' w' h1 h2 => by
    obtain ⟨A, c, rfl, _, hl⟩ := own_lies h1
    refine ⟨A, c, rfl, ?_, h2⟩
    rw [List.take_of_length_le (by rw [hown.1]; exact Nat.le_refl _), List.drop_of_length_le (by rw [hown.1]; exact Nat.le_refl _), List.append_nil]
    exact hl)
  have HV := Lib.hid hvs
  have HL := Lib.hid hvl
  have HO := Lib.hid hown
  clear hvs hvl
  rcases hown.2 with ⟨rfl, rfl⟩ | ⟨g, cap, cur, rfl, _, hg, hnc, hcm, _, _⟩
  · clear hown
    go_enter Try.func33, Try.ntmps33
    go_wp2_with (at_builtin; refine wpList_append_own _ rfl (.tmp 23) (.tmp 24) 22 rfl 0 47 i0 (.agg #[.int .i64 0, .slice none 0 0]) 2 32 Try.underlying22 hi0 hz0 hz1 hz2 rfl (by decide) (.slice none 0 0) 0 xs rfl HO.out ⟨vb, 0, none⟩ 1 1 news rfl HL.out HV.out h1v ?c4 ?c5 ?c6 ?_)
    case c4 => unfold maxLen; omega
    case c5 => omega
    case c6 => omega
    intro v' w2 ho2 hg2 _
    have HF := Lib.hid (HE.out v' w2 ho2 hg2)
    clear ho2 hg2 HE
    go_wp2_with fail
    go_ret
    exact HF.out
  · clear hown hg
    unfold maxLen at hcm
    by_cases hcn : cap = n
    · subst hcn
      go_enter Try.func33, Try.ntmps33
      go_wp2_with (at_builtin; refine wpList_append_own _ rfl (.tmp 23) (.tmp 24) 22 rfl 0 47 i0 (.agg #[.int .i64 0, .slice none 0 0]) 2 32 Try.underlying22 hi0 hz0 hz1 hz2 rfl (by decide) (.slice (some ⟨g, 0, none⟩) cap cap) cap xs rfl HO.out ⟨vb, 0, none⟩ 1 1 news rfl HL.out HV.out h1v ?c4 ?c5 ?c6 ?_)
      case c4 => unfold maxLen; omega
      case c5 => omega
      case c6 => omega
      intro v' w2 ho2 hg2 _
      have HF := Lib.hid (HE.out v' w2 ho2 hg2)
      clear ho2 hg2 HE
      go_wp2_with fail
      go_ret
      exact HF.out
    · go_enter Try.func33, Try.ntmps33
      go_wp2_with (at_builtin; refine wpList_append_own _ rfl (.tmp 23) (.tmp 24) 22 rfl 0 47 i0 (.agg #[.int .i64 0, .slice none 0 0]) 2 32 Try.underlying22 hi0 hz0 hz1 hz2 rfl (by decide) (.slice (some ⟨g, 0, none⟩) n cap) n xs rfl HO.out ⟨vb, 0, none⟩ 1 1 news rfl HL.out HV.out h1v ?c4 ?c5 ?c6 ?_)
      case c4 => unfold maxLen; omega
      case c5 => omega
      case c6 => omega
      intro v' w2 ho2 hg2 _
      have HF := Lib.hid (HE.out v' w2 ho2 hg2)
      clear ho2 hg2 HE
      go_wp2_with fail
      go_ret
      exact HF.out
end Go.Proofs.Ytphmemopabgaeaa
