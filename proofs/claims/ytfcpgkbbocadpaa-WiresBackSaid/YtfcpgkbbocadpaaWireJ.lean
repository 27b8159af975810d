/- Contract of Take of the package wires. -/
import Derived.Test.YtfcpgkbbocadpaaWireH
namespace Go.Proofs.Ytfcpgkbbocadpaa
open Go.RowKit

/-- A block of two cells. -/
structure Two (w : World) (H : Nat) (a b : Value) (ty : TypeId) : Prop where
  blk : w.heap[H]? = some (.cells #[a, b] ty (0, 0))
section
variable {w w' V : World} {H : Nat} {a b : Value} {ty : TypeId}
theorem Two.c0 (h : Two w H a b ty) : w.cell? ⟨H, 0, none⟩ = some a := by rw [Lib.cell_of_heap h.blk]; rfl
theorem Two.c1 (h : Two w H a b ty) : w.cell? ⟨H, 1, none⟩ = some b := by rw [Lib.cell_of_heap h.blk]; rfl
theorem Two.fr (h : Two w H a b ty) (j : Nat) : w.frozen? ⟨H, j, none⟩ = false := Lib.frozen_of_heap h.blk j
theorem Two.lt (h : Two w H a b ty) : H < w.heap.size := by
  rcases Nat.lt_or_ge H w.heap.size with h' | h'
  · exact h'
  · have := h.blk; simp [Array.getElem?_eq_none h'] at this
theorem Two.set0 (h : Two w H a b ty) (u : Value) : Two (w.setCell ⟨H, 0, none⟩ u) H u b ty := ⟨row_set h.blk 0 _⟩
theorem Two.set1 (h : Two w H a b ty) (u : Value) : Two (w.setCell ⟨H, 1, none⟩ u) H a u ty := ⟨row_set h.blk 1 _⟩
theorem Two.new (w : World) (a b : Value) (ty : TypeId) : Two (w.alloc (.cells #[a, b] ty (0, 0))) w.heap.size a b ty := ⟨heap_new _ _⟩
theorem Two.below (h : Two w H a b ty) (hb : Below w.heap.size w w') : Two w' H a b ty := ⟨(hb.block H h.lt).trans h.blk⟩
end
theorem WpAt.far16 {w : World} {B H : Nat} {A : Option Addr} {l : List WPk} (h : WpAt w B A l) (hA : ∀ a, A = some a → H ≠ a.block) (j : Nat) (u : Value) : WpAt (w.setCell ⟨H, j, none⟩ u) B A l := by
  rcases h with h | ⟨b, off, rfl, hlt, hc⟩
  · exact .inl h
  · have hb : b ≠ H := fun e => hA _ rfl e.symm
    refine .inr ⟨b, off, rfl, hlt, fun i hi => ⟨?_, ?_⟩⟩
    · rw [← (hc i hi).1]; simp only [World.cell?, Below.heap_setCell w ⟨H, j, none⟩ u b hb]
    · rw [← (hc i hi).2]; simp only [World.cell?, Below.heap_setCell w ⟨H, j, none⟩ u b hb]
theorem WpAt.two16 {w : World} {H : Nat} {A : Option Addr} {l : List WPk} (h : WpAt w w.heap.size A l) (hA : ∀ a, A = some a → H ≠ a.block) (u v : Value) : WpAt ((w.setCell ⟨H, 0, none⟩ u).setCell ⟨H, 1, none⟩ v) ((w.setCell ⟨H, 0, none⟩ u).setCell ⟨H, 1, none⟩ v).heap.size A l :=
  ((h.far16 hA 0 u).far16 hA 1 v).more (by simp)
theorem own_base16 {w : World} {base n size : Nat} {t : TypeId} {A : Option Addr} {m c : Nat} {xs : List Value} (h : w.ownsRow base t size (.slice A m c) n xs) (a : Addr) (ha : A = some a) : base ≤ a.block := by
  subst ha
  rcases h.2 with ⟨h2, _⟩ | ⟨g, cap, cur, h2, hg, _⟩
  · injection h2 with h3; cases h3
  · injection h2 with h3; injection h3 with h3; subst h3; exact hg
/-- .. and they lie in memory of the call's own. -/
def WpEndB (l : List WPk) (w : World) (e : Ending) (w' : World) : Prop :=
  ∃ A c, e = .returned (.slice A l.length c) ∧ WpAt w' w'.heap.size A l ∧ l.length ≤ c ∧ (A = none → c = 0) ∧ Below w.heap.size w w' ∧ ∀ a, A = some a → w.heap.size ≤ a.block
theorem WConcat_cut {W : World} {A1 A2 : Option Addr} {n1 n2 c1 c2 : Nat} {xs ys : List WPk} (hx : xs.length = n1) (hy : ys.length = n2) (h1 : WpAt W W.heap.size A1 xs) (h2 : WpAt W W.heap.size A2 ys) (l1 : n1 ≤ 1000 ∧ (A1 = none → c1 = 0)) (l2 : n2 ≤ 1000 ∧ (A2 = none → c2 = 0)) :
    Calls Try.prog 24 #[.slice (some ⟨W.heap.size, 0, none⟩) 2 2] (W.alloc (.cells #[.slice A1 n1 c1, .slice A2 n2 c2] 22)).drew (WpEndB (xs ++ ys) W) := by
  subst hx hy
  have b1 := (below_one W (.cells #[.slice A1 xs.length c1, .slice A2 ys.length c2] 22)).drew
  have hcell := fun j => Lib.cell_of_heap (heap_alloc_new W (.cells #[.slice A1 xs.length c1, .slice A2 ys.length c2] 22)) j
  refine (WConcat_two (c1 := c1) (c2 := c2) (g := W.heap.size) (h1.next b1) (h2.next b1) l1 l2 (by simp) (by rw [drew_cell, hcell]; rfl) (by rw [drew_cell, hcell]; rfl)).mono ?_
  rintro e w' ⟨v, rfl, hown, hb⟩
  have e2 : xs.length + ys.length = (xs ++ ys).length := by simp
  rw [e2] at hown
  obtain ⟨A', c', hv, h1, h2, h3, h4⟩ := own_endW (w0 := (W.alloc (.cells #[.slice A1 xs.length c1, .slice A2 ys.length c2] 22)).drew) hown hb
  refine ⟨A', c', hv, h1, h2, h3, below_next b1 h4, fun a ha => ?_⟩
  injection hv with hv
  subst hv
  exact Nat.le_trans b1.size (own_base16 hown a ha)
theorem results_mid16 {P : Program} {fn : Func} {a p u : Tmp} {ty : TypeId} (h : fn.results = #[.tmp a, .cell p ty, .tmp u]) (tmps : Array Value) (w : World) (g : Nat) (t : TypeId) (cs : Array Value) (fr : Nat × Nat) (d : TypeDesc)
    (hp : tmps.getD p undef = .pointer (some ⟨g, 0, none⟩)) (hg : w.heap[g]? = some (.cells cs t fr))
    (hu : P.underlying ty = some d) (hd : (match d with | .struct _ | .array _ _ => true | _ => false) = true) (hi : (P.info? ty).map (·.size) = some cs.size) :
    (results fn tmps).run P w = .ok (.tuple #[tmps.getD a undef, .agg cs, tmps.getD u undef]) w := by
  have hp' : tmps[p]?.getD undef = .pointer (some ⟨g, 0, none⟩) := by simpa using hp
  simp [results, h, hp', asAddr, run_loadVar_row w g t ty cs fr d hg hu hd hi, Result.andThen]
theorem packet_desc16 : Try.prog.underlying 24 = some (.struct ((match Try.prog.underlying 24 with | some (.struct fs) => fs | _ => #[]))) := by kernel_rfl
set_option maxHeartbeats 1000000 in
set_option maxRecDepth 100000 in
theorem WTake_any {w : World} {A : Option Addr} {c : Nat} {l : List WPk} (k : Int) (h : WpAt w w.heap.size A l) (hl : l.length ≤ 1000) (hc : l.length ≤ c) (hn : A = none → c = 0) :
    Calls Try.prog 14 #[.slice A l.length c, .int .i64 k] w (WpTak (takeWL l k) (takeWP l k) (takeWE l k) w) := by
  have hb0 := below_one w (.cells #[.int .i64 0, .string ⟨#[]⟩] 24)
  obtain ⟨V, hV⟩ : ∃ V, V = w.alloc (.cells #[.int .i64 0, .string ⟨#[]⟩] 24) := ⟨_, rfl⟩
  have hpb := heap_new w (.cells #[.int .i64 0, .string ⟨#[]⟩] 24 (0, 0))
  rw [← hV] at hb0 hpb
  have HB0 := Lib.hid hb0
  have HV := Lib.hid hV
  have HT : Hid (Two V w.heap.size (.int .i64 0) (.string ⟨#[]⟩) 24) := Lib.hid ⟨hpb⟩
  have HF := Lib.hid (Wfind_any k (h.next hb0) hl hc)
  by_cases h0 : takeWE l k = 0
  case neg =>
    have h0' : (takeWE l k != 0) = true := by rw [bne_iff_ne]; exact h0
    have e1 : takeWL l k = [] := by unfold takeWL; rw [if_neg h0]
    have e2 : takeWP l k = ⟨0, []⟩ := by unfold takeWP; rw [if_neg h0]
    rw [e1, e2]
    generalize takeWE l k = E at *
    generalize l.length = n at *
    clear h e1 e2 hV hb0 hpb
    go_enter Try.func14, Try.ntmps14
    go_wp2_with fail
    rw [← HV.out]
    go_upto_region 3 with (go_at_call 23; (with_reducible refine HF.out.mono ?_); rintro e w2 ⟨rfl, hb2⟩; have HB2 := Lib.hid hb2; clear hb2)
    have HT2 := Lib.hid (HT.out.below HB2.out)
    have q0 := HT2.out.c0
    have q1 := HT2.out.c1
    have qf := HT2.out.fr 0
    have q2 := (HT2.out.set0 (.int .i64 0)).c1
    have q3 := (HT2.out.set0 (.int .i64 0)).fr 1
    go_wp2_with fail
    have HR := ((HT2.out.set0 (.int .i64 0)).set1 (.string ⟨#[]⟩)).blk
    refine bodyPost_ret (v := .tuple #[.slice none 0 0, .agg #[.int .i64 0, .string ⟨#[]⟩], .int .i64 E]) (results_mid16 (a := 4) (p := 5) (u := 6) (ty := 24) rfl _ _ w.heap.size 24 #[.int .i64 0, .string ⟨#[]⟩] (0, 0) _ rfl HR packet_desc16 rfl (by kernel_rfl)) rfl ?_
    exact ⟨none, 0, rfl, .inl rfl, ⟨Nat.le_refl _, fun _ => rfl⟩, ((below_next HB0.out HB2.out).setCell (p := ⟨w.heap.size, 0, none⟩) (Nat.le_refl _) _).setCell (p := ⟨w.heap.size, 1, none⟩) (Nat.le_refl _) _⟩
  rw [h0] at HF
  obtain ⟨hr, kn, rfl, hk⟩ := take_zero h0
  obtain ⟨e0, e1, e2⟩ := take_ok hr hk
  rw [e0, e1, e2]
  have HW := Lib.hid h
  obtain ⟨p, hp⟩ : ∃ p, l[kn] = p := ⟨_, rfl⟩
  have HPt : Hid (∀ W, Below w.heap.size w W → ∃ b off, A = some ⟨b, off, none⟩ ∧ b < w.heap.size ∧ W.cell? ⟨b, off + kn * 2, none⟩ = some (.int .i64 p.to_) ∧ W.cell? ⟨b, off + kn * 2 + 1, none⟩ = some (.string (str p.s))) := Lib.hid (fun W hb => by
    obtain ⟨b, off, h1, h4, h2, h3⟩ := HW.out.at_ hb hk
    rw [hp] at h2 h3
    exact ⟨b, off, h1, h4, h2, h3⟩)
  rw [hp]
  have hk1 : (kn : Int) < (l.length : Int) := by omega
  have hk0 : (0 : Int) ≤ (kn : Int) := by omega
  have hk2 : (kn : Int) ≤ (c : Int) := by omega
  have hk3 : (kn : Int) + 1 ≤ (l.length : Int) := by omega
  have hk5 : (l.length : Int) ≤ (c : Int) := by omega
  have hkw : IntKind.i64.wrap ((kn : Int) + 1) = (kn : Int) + 1 := by rw [IntKind.wrap_i64]; omega
  obtain ⟨L, hL⟩ : ∃ L, putW l kn [] = L := ⟨_, rfl⟩
  rw [hL]
  have HX : Hid ((l.take kn).length = kn ∧ (∀ W, Below w.heap.size w W → WpAt W W.heap.size A (l.take kn)) ∧ (l.drop (kn + 1)).length = l.length - (kn + 1) ∧ (∀ W b off, Below w.heap.size w W → A = some ⟨b, off, none⟩ → WpAt W W.heap.size (some ⟨b, off + (kn + 1) * 2, none⟩) (l.drop (kn + 1))) ∧ l.take kn ++ l.drop (kn + 1) = L) := Lib.hid (by
    refine ⟨by rw [List.length_take]; omega, fun W hb => ?_, by rw [List.length_drop], fun W b off hb hA => ?_, ?_⟩
    · have := (HW.out.next hb)
      obtain ⟨b, off, rfl, _, _, _⟩ := HPt.out W hb
      have h2 := this.part 0 kn
      simpa using h2
    · subst hA
      have := (HW.out.next hb).part (kn + 1) (l.length - (kn + 1))
      rwa [List.take_of_length_le (by rw [List.length_drop]; omega)] at this
    · rw [← hL]; unfold putW; rw [List.append_nil])
  clear h h0 hr hp hk e0 e1 e2 hV hb0 hpb HW hL
  generalize l.length = n at *
  go_enter Try.func14, Try.ntmps14
  go_wp2_with fail
  rw [← HV.out]
  go_upto_region 4 with (go_at_call 23; (with_reducible refine HF.out.mono ?_); rintro e w2 ⟨rfl, hb2⟩; have HB2 := Lib.hid hb2; clear hb2)
  have HB02 := Lib.hid (below_next HB0.out HB2.out)
  obtain ⟨b, off, rfl, hblt, x0, x1⟩ := HPt.out _ HB02.out
  have HQ : Hid (∀ W, Below w2.heap.size w2 W → W.cell? ⟨b, off + kn * 2, none⟩ = some (.int .i64 p.to_) ∧ W.cell? ⟨b, off + kn * 2 + 1, none⟩ = some (.string (str p.s))) := Lib.hid (fun W hb => by
    obtain ⟨b', off', h1, _, h2, h3⟩ := HPt.out W (below_next HB02.out hb)
    simp only [Option.some.injEq, Addr.mk.injEq, and_true] at h1
    obtain ⟨rfl, rfl⟩ := h1
    exact ⟨h2, h3⟩)
  have HT5 := Lib.hid (fun W (hb : Below w2.heap.size w2 W) => HT.out.below (below_next HB2.out hb))
  have u0 := fun o => (HQ.out _ ((below_one w2 o).drew)).1
  have u1 := fun o => (HQ.out _ ((below_one w2 o).drew)).2
  have hH2 : w.heap.size < w2.heap.size := Nat.lt_of_lt_of_le HT.out.lt HB2.out.size
  by_cases hcap : c = kn + 1
  · subst hcap
    have hz : n = kn + 1 := by omega
    have HC := WConcat_cut (W := w2) (n2 := 0) (c1 := kn + 1) (c2 := 0) HX.out.1 rfl (HX.out.2.1 w2 HB02.out) (.inl rfl : WpAt w2 w2.heap.size (some ⟨b, off, none⟩) []) ⟨by omega, by simp⟩ ⟨by simp, by simp⟩
    rw [show l.take kn ++ [] = L from by rw [← HX.out.2.2.2.2, List.eq_nil_of_length_eq_zero (by rw [HX.out.2.2.1]; omega : (l.drop (kn + 1)).length = 0)]] at HC
    have HC := Lib.hid HC
    clear HPt HX HT hz
    go_region_with (go_at_call 24; (with_reducible refine HC.out.mono ?_); rintro e w5 ⟨A5, c5, rfl, hw5, hr5, hn5, hb5, ha5⟩; have HW5 := Lib.hid hw5; have HR5 := Lib.hid hr5; have HN5 := Lib.hid hn5; have HB5 := Lib.hid hb5; have HA5 := Lib.hid (fun a h => Nat.ne_of_lt (Nat.lt_of_lt_of_le hH2 (ha5 a h))); obtain ⟨y0, y1⟩ := HQ.out _ HB5.out; have HT6 := Lib.hid (HT5.out _ HB5.out); have q0 := HT6.out.c0; have q1 := HT6.out.c1; have qf := HT6.out.fr 0; have q2 := (HT6.out.set0 (.int .i64 p.to_)).c1; have q3 := (HT6.out.set0 (.int .i64 p.to_)).fr 1; clear hw5 hr5 hn5 hb5 ha5)
    all_goals
      go_wp2_with fail
      have HR := ((HT6.out.set0 (.int .i64 p.to_)).set1 (.string (str p.s))).blk
      refine bodyPost_ret (v := .tuple #[.slice A5 L.length c5, .agg #[.int .i64 p.to_, .string (str p.s)], .int .i64 0]) (results_mid16 (a := 4) (p := 5) (u := 6) (ty := 24) rfl _ _ w.heap.size 24 #[.int .i64 p.to_, .string (str p.s)] (0, 0) _ rfl HR packet_desc16 rfl (by kernel_rfl)) rfl ?_
      exact ⟨A5, c5, rfl, (HW5.out.two16 HA5.out _ _), ⟨HR5.out, HN5.out⟩, ((below_next HB02.out HB5.out).setCell (p := ⟨w.heap.size, 0, none⟩) (Nat.le_refl _) _).setCell (p := ⟨w.heap.size, 1, none⟩) (Nat.le_refl _) _⟩
  · have HC := WConcat_cut (W := w2) (c1 := c) (c2 := c - (kn + 1)) HX.out.1 HX.out.2.2.1 (HX.out.2.1 w2 HB02.out) (HX.out.2.2.2.1 w2 b off HB02.out rfl) ⟨by omega, by simp⟩ ⟨by omega, by simp⟩
    rw [HX.out.2.2.2.2] at HC
    have HC := Lib.hid HC
    clear HPt HX HT
    go_region_with (go_at_call 24; (with_reducible refine HC.out.mono ?_); rintro e w5 ⟨A5, c5, rfl, hw5, hr5, hn5, hb5, ha5⟩; have HW5 := Lib.hid hw5; have HR5 := Lib.hid hr5; have HN5 := Lib.hid hn5; have HB5 := Lib.hid hb5; have HA5 := Lib.hid (fun a h => Nat.ne_of_lt (Nat.lt_of_lt_of_le hH2 (ha5 a h))); obtain ⟨y0, y1⟩ := HQ.out _ HB5.out; have HT6 := Lib.hid (HT5.out _ HB5.out); have q0 := HT6.out.c0; have q1 := HT6.out.c1; have qf := HT6.out.fr 0; have q2 := (HT6.out.set0 (.int .i64 p.to_)).c1; have q3 := (HT6.out.set0 (.int .i64 p.to_)).fr 1; clear hw5 hr5 hn5 hb5 ha5)
    all_goals
      go_wp2_with fail
      have HR := ((HT6.out.set0 (.int .i64 p.to_)).set1 (.string (str p.s))).blk
      refine bodyPost_ret (v := .tuple #[.slice A5 L.length c5, .agg #[.int .i64 p.to_, .string (str p.s)], .int .i64 0]) (results_mid16 (a := 4) (p := 5) (u := 6) (ty := 24) rfl _ _ w.heap.size 24 #[.int .i64 p.to_, .string (str p.s)] (0, 0) _ rfl HR packet_desc16 rfl (by kernel_rfl)) rfl ?_
      exact ⟨A5, c5, rfl, (HW5.out.two16 HA5.out _ _), ⟨HR5.out, HN5.out⟩, ((below_next HB02.out HB5.out).setCell (p := ⟨w.heap.size, 0, none⟩) (Nat.le_refl _) _).setCell (p := ⟨w.heap.size, 1, none⟩) (Nat.le_refl _) _⟩
end Go.Proofs.Ytfcpgkbbocadpaa
