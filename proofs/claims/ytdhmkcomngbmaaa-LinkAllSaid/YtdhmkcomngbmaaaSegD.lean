/- Slices of texts: a row of them grown and joined: contracts of slices.Grow and slices.Concat. -/
import Derived.Test.YtdhmkcomngbmaaaSegC
import Derived.Shelf.Spec.SlicesGrow
namespace Go.Proofs.Ytdhmkcomngbmaaa
open Go.RowKit

def OwnEnd (t : TypeId) (size n : Nat) (cs : List Value) (w : World) (e : Ending) (w' : World) : Prop :=
  ∃ v, e = .returned v ∧ w'.ownsRow w.heap.size t size v n cs ∧ Below w.heap.size w w'

theorem map_txt_len (xs : List (List UInt8)) : (xs.map txt).length = xs.length * 1 := by simp
theorem map_txt_one (xs : List (List UInt8)) : ∀ u ∈ xs.map txt, u.oneCell' = true := by
  intro u hu
  obtain ⟨x, _, rfl⟩ := List.mem_map.1 hu
  rfl
theorem Strs.toLies {w : World} {B : Nat} {A : Option Addr} {xs : List (List UInt8)} (h : Strs w B A xs) : Lies w B A (xs.map txt) := by
  rcases h with rfl | ⟨b, off, hA, hb, hc⟩
  · exact .inl rfl
  · exact .inr ⟨b, off, hA, hb, fun i hi => by rw [List.length_map] at hi; rw [hc i hi, List.getElem_map]⟩

theorem grown_refl (w : World) (row : Option Nat) : w.grownBy w row := ⟨rfl, rfl, rfl, Nat.le_refl _, fun _ _ _ => rfl⟩
theorem wpList_append_rows {P : Program} {w : World} {ops : Array Oper} {rest : List Oper} {o : Oper} {a : Act} {Q : Exit → Act → World → Prop} (hgd : o.guard = none) (s x : Operand) (t : TypeId)
    (ho : o.op = .call { callee := .builtin .append, args := #[s, x], argTypes := #[t, t] })
    (base : Nat) (e : TypeId) (i : TypeInfo) (z : Value) (size bytes : Nat) (ht : P.underlying t = some (.slice e)) (hi : P.info? e = some i) (hz : i.zero = some z)
    (hsize : i.size = size) (hby : i.bytes = bytes) (hzs : z.cells.size = size) (hsz : 0 < size)
    (v : Value) (n : Nat) (xs : List Value) (hs : a.eval s = v) (hown : w.ownsRow base e size v n xs)
    (A : Option Addr) (m c : Nat) (news : List Value) (hx : a.eval x = .slice A m c) (hl : news.length = m * size) (B : Nat) (hlies : Lies w B A news) (hnil : A = none → c = 0) (h1 : ∀ u ∈ news, u.oneCell' = true)
    (h63 : n + m ≤ maxLen) (hbytes : (n + m) * bytes ≤ 140737488355328) (hbase : base ≤ w.heap.size)
    (h : ∀ v' w', w'.ownsRow base e size v' (n + m) (xs ++ news) → w.grownBy w' v.ownBlock → wpList P ops Q rest (a.put o.dst v') w') : wpList P ops Q (o :: rest) a w := by
  cases A with
  | none =>
    have hne : news = [] := by
      rcases hlies with h | ⟨b, off, hA, _⟩
      · exact h
      · cases hA
    subst hne
    have hm0 : m = 0 := by
      have : m * size = 0 := by simpa using hl.symm
      rcases Nat.mul_eq_zero.1 this with h | h
      · exact h
      · omega
    subst hm0
    have hc := hnil rfl
    subst hc
    have hrun := run_append_owned_none (P := P) (w := w) base t o.type e i size ht hi v n xs hown
    refine wpList_plain hgd fun K hK => ?_
    unfold Oper.wp
    simp [execOp, ho, resolve, invoke, builtin, hs, hx, hrun, Result.andThen]
    exact hK _ _ (h v w (by simpa using hown) (grown_refl _ _))
  | some ad =>
    refine wpList_append_own w hgd s x t ho base e i z size bytes ht hi hz hsize hby hzs hsz v n xs hs hown ad m c news hx hl ?_ h1 h63 hbytes hbase (fun v' w' h2 h3 _ => h v' w' h2 h3)
    intro j u hu
    rcases hlies with h | ⟨b, off, hA, _, hc⟩
    · rw [h] at hu; simp at hu
    · cases hA
      obtain ⟨hj1, hj2⟩ := List.getElem?_eq_some_iff.1 hu
      rw [WideShapes.add_plain, hc j hj1, hj2]
end Go.Proofs.Ytdhmkcomngbmaaa

namespace Go.Proofs.Ytdhmkcomngbmaaa
open Go.Shelf Go.RowKit Go.Lib

def Try.ren8S : Go.Shelf.Ren := ⟨fun | 4 => 46 | n => n, fun | 0 => 0 | 3 => 3 | 4 => 4 | 9 => 9 | 20 => 20 | 22 => 22 | 25 => 9 | n => n, fun | n => n⟩
theorem Try.lays8S : Lays8.n4 Try.prog Try.ren8S where
  mixed := by kernel_rfl
  f4 := ⟨Try.f46.name, by kernel_rfl, Try.func46.trans (congrArg some (by kernel_rfl))⟩
  t0 := Try.underlying0
  a0 := Try.isAgg0
  z0 := Try.sizeOf0
  v0 := Try.zeroValue0
  t3 := Try.underlying3
  a3 := Try.isAgg3
  z3 := Try.sizeOf3
  v3 := Try.zeroValue3
  t4 := Try.underlying4
  a4 := Try.isAgg4
  z4 := Try.sizeOf4
  v4 := Try.zeroValue4
  t9 := Try.underlying9
  a9 := Try.isAgg9
  z9 := Try.sizeOf9
  v9 := Try.zeroValue9
  t20 := Try.underlying20
  a20 := Try.isAgg20
  z20 := Try.sizeOf20
  v20 := Try.zeroValue20
  t22 := Try.underlying22
  a22 := Try.isAgg22
  z22 := Try.sizeOf22
  v22 := Try.zeroValue22

/-- slices.Grow of a nil slice: a row of the call's own, empty. -/
theorem GrowS_nil (w : World) (n : Nat) (hn : n ≤ 1000000) : Calls Try.prog 46 #[.slice none 0 0, .int .i64 n] w (OwnEnd 9 1 0 [] w) := by
  by_cases h0 : n = 0
  · subst h0
    refine (Any8.slices_Grow_room Try.lays8S none 0 0 0 w (Nat.le_refl _) (by omega) (by omega) (Nat.le_refl _)).mono ?_
    rintro e w' ⟨rfl, rfl⟩
    exact ⟨_, rfl, World.ownsRow_nil _ _ _ _, Below.refl _ _⟩
  · obtain ⟨i0, hi0, hz0, hz1, hz2⟩ := info_parts Try.infoStr
    have := Any8.slices_Grow_grow Try.lays8S i0 (.string ⟨#[]⟩) hi0 hz0 (by rw [hz1]; omega) none 0 0 n [] w (Nat.le_refl _) (by omega) (by rw [hz2]; omega) (by omega) (by simp) (fun _ => rfl) (fun a h => by cases h)
    rw [show Try.ren8S.t 25 = 9 from rfl] at this
    refine this.mono ?_
    rintro e w' ⟨rfl, rfl⟩
    have hge : n ≤ grownCap w (0 + n) 0 9 := by have := grownCap_ge w (0 + n) 0 9; omega
    have hle : grownCap w (0 + n) 0 9 ≤ maxLen := grownCap_le_maxLen w (0 + n) 0 9 (by unfold maxLen; omega)
    refine ⟨_, rfl, ⟨rfl, .inr ⟨w.heap.size, _, _, rfl, Nat.le_refl _, heap_alloc_new w.drew _, Nat.zero_le _, hle, ?_, by simp⟩⟩, ?_⟩
    · rw [Array.size_append, Array.size_append, size_zeroCells, size_zeroCells]
      show 0 + (0 + n - 0) * 1 + (grownCap w (0 + n) 0 9 - (0 + n)) * 1 = _
      omega
    · exact (Below.refl w.heap.size w).drew.alloc (Nat.le_refl _) _

set_option maxHeartbeats 4000000 in
set_option maxRecDepth 100000 in
theorem ConcatS_two {w : World} {g : Nat} {A1 A2 : Option Addr} {c1 c2 : Nat} {xs ys : List (List UInt8)} (h1 : Strs w w.heap.size A1 xs) (h2 : Strs w w.heap.size A2 ys) (hx : xs.length ≤ 100000 ∧ (A1 = none → c1 = 0)) (hy : ys.length ≤ 100000 ∧ (A2 = none → c2 = 0))
    (hg : g < w.heap.size) (hc0 : w.cell? ⟨g, 0, none⟩ = some (.slice A1 xs.length c1)) (hc1 : w.cell? ⟨g, 1, none⟩ = some (.slice A2 ys.length c2)) :
    Calls Try.prog 34 #[.slice (some ⟨g, 0, none⟩) 2 2] w (OwnEnd 9 1 (xs.length + ys.length) ((xs ++ ys).map txt) w) := by
  have H1 := Lib.hid h1
  have H2 := Lib.hid h2
  have HX := Lib.hid hx.2
  have HY := Lib.hid hy.2
  have hxl := hx.1
  have hyl := hy.1
  obtain ⟨i0, hi0, hz0, hz1, hz2⟩ := info_parts Try.infoStr
  have HG : Hid (Calls Try.prog 46 #[.slice none 0 0, .int .i64 ((xs.length : Int) + (ys.length : Int))] w (OwnEnd 9 1 0 [] w)) := Lib.hid (by
    have := GrowS_nil w (xs.length + ys.length) (by omega)
    rw [Int.natCast_add] at this
    exact this)
  have HC0 := Lib.hid hc0
  have HC1 := Lib.hid hc1
  clear h1 h2 hx hy
  have e1 : ¬ ((xs.length : Int) < 0) := by omega
  have e2 : ¬ ((xs.length : Int) + (ys.length : Int) < 0) := by omega
  go_enter Try.func34, Try.ntmps34
  go_wp2
  refine wp_loop_rounds 3 ?_
  rw [rounds_succ]
  go_wp2_with fail
  rw [rounds_succ]
  go_wp2_with fail
  rw [rounds_succ]
  go_wp2_with fail
  refine HG.out.mono ?_
  rintro e w2 ⟨v2, rfl, ho2, hb2⟩
  have HO2 := Lib.hid ho2
  have HB2 := Lib.hid hb2
  have y0 : w2.cell? ⟨g, 0, none⟩ = some (.slice A1 xs.length c1) := by rw [hb2.cell (p := ⟨g, 0, none⟩) hg]; exact HC0.out
  have hw2 : w.heap.size ≤ w2.heap.size := hb2.size
  clear ho2 hb2 hc0 hc1 HG
  go_wp2_with fail
  refine wp_loop_rounds 3 ?_
  rw [rounds_succ]
  go_wp2_with (at_builtin; refine wpList_append_rows rfl (.tmp 31) (.tmp 32) 22 rfl w.heap.size 9 i0 (.string ⟨#[]⟩) 1 16 Try.underlying22 hi0 hz0 hz1 hz2 rfl (by decide) v2 0 [] rfl HO2.out A1 xs.length c1 (xs.map txt) rfl (map_txt_len _) w2.heap.size (H1.out.next HB2.out).toLies HX.out (map_txt_one _) ?c1 ?c2 hw2 ?_)
  case c1 => unfold maxLen; omega
  case c2 => omega
  intro v3 w3 ho3 hg3
  have HB3 : Hid (Below w.heap.size w w3) := Lib.hid (HB2.out.grown hg3 hw2 (fun q hq => (HO2.out.lt q hq).1))
  (try rw [List.nil_append, Nat.zero_add] at ho3)
  have HO3 := Lib.hid ho3
  have y1 : w3.cell? ⟨g, 1, none⟩ = some (.slice A2 ys.length c2) := by rw [HB3.out.cell (p := ⟨g, 1, none⟩) hg]; exact HC1.out
  have hw3 : w.heap.size ≤ w3.heap.size := HB3.out.size
  clear ho3 hg3 y0
  go_wp2_with fail
  rw [rounds_succ]
  go_wp2_with (at_builtin; refine wpList_append_rows rfl (.tmp 31) (.tmp 32) 22 rfl w.heap.size 9 i0 (.string ⟨#[]⟩) 1 16 Try.underlying22 hi0 hz0 hz1 hz2 rfl (by decide) v3 xs.length (xs.map txt) rfl HO3.out A2 ys.length c2 (ys.map txt) rfl (map_txt_len _) w3.heap.size (H2.out.next HB3.out).toLies HY.out (map_txt_one _) ?c3 ?c4 hw3 ?_)
  case c3 => unfold maxLen; omega
  case c4 => omega
  intro v4 w4 ho4 hg4
  have HE : Hid (OwnEnd 9 1 (xs.length + ys.length) ((xs ++ ys).map txt) w (.returned v4) w4) := Lib.hid ⟨v4, rfl, by rw [List.map_append]; exact ho4, HB3.out.grown hg4 hw3 (fun q hq => (HO3.out.lt q hq).1)⟩
  clear ho4 hg4
  go_wp2_with fail
  rw [rounds_succ]
  go_wp2_with fail
  go_ret
  exact HE.out

end Go.Proofs.Ytdhmkcomngbmaaa
