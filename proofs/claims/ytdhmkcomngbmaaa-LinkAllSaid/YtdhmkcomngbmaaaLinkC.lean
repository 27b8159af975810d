/- Contracts of meet and release of the package link. -/
import Derived.Test.YtdhmkcomngbmaaaLinkB
import Derived.Deep.CutRange
namespace Go.Proofs.Ytdhmkcomngbmaaa
open Go.RowKit

/-- What a call that answers an end leaves. -/
def EndIs (x : LEnd) (w : World) (v : Value) (w' : World) : Prop := ∃ A c, v = x.val A c ∧ Strs w' w'.heap.size A x.out ∧ (A = none → c = 0) ∧ x.out.length ≤ c ∧ Below w.heap.size w w'
/-- The address A' is none, or of a block from N on, or of A's block. -/
def Src (N : Nat) (A A' : Option Addr) : Prop := ∀ a', A' = some a' → N ≤ a'.block ∨ ∃ a, A = some a ∧ a.block = a'.block
theorem Src.refl (N : Nat) (A : Option Addr) : Src N A A := fun a' h => .inr ⟨a', h, rfl⟩
theorem Src.none_ (N : Nat) (A : Option Addr) : Src N A none := fun a' h => by cases h
theorem Src.trans {N : Nat} {A A' A'' : Option Addr} (h : Src N A A') (k : Src N A' A'') : Src N A A'' := fun a'' e => by
  rcases k a'' e with h1 | ⟨a', e1, e2⟩
  · exact .inl h1
  · rcases h a' e1 with h2 | ⟨a, e3, e4⟩
    · exact .inl (by omega)
    · exact .inr ⟨a, e3, by omega⟩
theorem Src.map (N : Nat) (A : Option Addr) (m : Nat) : Src N A (A.map (fun a => a.add m)) := fun a' h => by
  cases A with
  | none => cases h
  | some a =>
    injection h with h
    refine .inr ⟨a, rfl, ?_⟩
    rw [← h]
    obtain ⟨b, o, s⟩ := a
    cases s <;> (simp only [Addr.add]; split <;> rfl)
/-- .. whose pieces lie below a block. -/
def EndB (B : Nat) (A0 : Option Addr) (x : LEnd) (w : World) (v : Value) (w' : World) : Prop := ∃ A c, v = x.val A c ∧ Strs w' B A x.out ∧ (A = none → c = 0) ∧ x.out.length ≤ c ∧ Below w.heap.size w w' ∧ ∀ N, Src N A0 A
theorem EndB.of {B : Nat} {x : LEnd} {w w' : World} {A : Option Addr} {c : Nat} (h : Strs w B A x.out) (hB : B ≤ w.heap.size) (hn : A = none → c = 0) (hc : x.out.length ≤ c) (hb : Below w.heap.size w w') : EndB B A x w (x.val A c) w' := ⟨A, c, rfl, h.below (hb.mono hB), hn, hc, hb, fun N => Src.refl N A⟩
theorem EndB.none_ {B : Nat} {A0 : Option Addr} {x : LEnd} {w w' : World} (h : x.out = []) (hb : Below w.heap.size w w') : EndB B A0 x w (x.val none 0) w' := ⟨none, 0, rfl, by rw [h]; exact .inl rfl, fun _ => rfl, by rw [h]; simp, hb, fun N => Src.none_ N A0⟩
theorem EndIs.none_ {x : LEnd} {w w' : World} (h : x.out = []) (hb : Below w.heap.size w w') : EndIs x w (x.val none 0) w' := ⟨none, 0, rfl, by rw [h]; exact .inl rfl, fun _ => rfl, by rw [h]; simp, hb⟩

theorem below_news (w : World) (o o' : Obj) : Below w.heap.size w ((w.alloc o).alloc o') := (below_one _ _).trans ((below_one _ _).mono (by simp))

theorem Five.drew {w : World} {H : Nat} {a b c d e : Value} {ty : TypeId} (h : Five w H a b c d e ty) : Five w.drew H a b c d e ty := ⟨h.blk⟩
/-- Two blocks of five cells, made one behind the other: they stay. -/
theorem boxes5 (w : World) (a b c d e a' b' c' d' e' : Value) (t t' : TypeId) {W : World} (h : Below ((w.alloc (.cells #[a, b, c, d, e] t (0, 0))).alloc (.cells #[a', b', c', d', e'] t' (0, 0))).heap.size ((w.alloc (.cells #[a, b, c, d, e] t (0, 0))).alloc (.cells #[a', b', c', d', e'] t' (0, 0))) W) :
    Five W w.heap.size a b c d e t ∧ Five W (w.heap.size + 1) a' b' c' d' e' t' ∧ Below w.heap.size w W := by
  have h1 := Five.new (w.alloc (.cells #[a, b, c, d, e] t (0, 0))) a' b' c' d' e' t'
  rw [show (w.alloc (.cells #[a, b, c, d, e] t (0, 0))).heap.size = w.heap.size + 1 from by simp] at h1
  exact ⟨((Five.new w a b c d e t).below (below_one _ _)).below h, h1.below h, below_next (below_news _ _ _) h⟩

/-- P15.3, step 1, as the code does it: a packet's epoch that isn't below. -/
theorem metX_same {x : LEnd} {n : Int} (h : n = x.ot) : metX x n = x := by unfold metX; rw [if_neg (by omega)]
theorem metX_first {x : LEnd} {n : Int} (h : x.ot < n) (h0 : x.ot = 0) : metX x n = { x with ot := n, wa := 1 } := by unfold metX; rw [if_pos h, if_pos h0]
theorem metX_anew {x : LEnd} {n : Int} (h : x.ot < n) (h0 : x.ot ≠ 0) : metX x n = { x with ot := n, wa := 1, fi := 1, out := [] } := by unfold metX; rw [if_pos h, if_neg h0]

set_option maxHeartbeats 1000000 in
set_option maxRecDepth 100000 in
theorem meet_any (x : LEnd) (A : Option Addr) (c : Nat) (n : Int) (w : World) {B : Nat} (h : Strs w B A x.out) (hB : B ≤ w.heap.size) (hn : A = none → c = 0) (hc : x.out.length ≤ c) (hle : x.ot ≤ n) :
    Calls Try.prog 40 #[x.val A c, .int .i64 n] w fun e w' => ∃ v, e = .returned (.tuple #[v, .bool (decide (x.ot < n ∧ x.ot ≠ 0))]) ∧ EndB B A (metX x n) w v w' := by
  have H := Lib.hid h
  have HN := Lib.hid hn
  have HC := Lib.hid hc
  clear h hn hc
  by_cases g1 : n = x.ot
  · rw [metX_same g1, show decide (x.ot < n ∧ x.ot ≠ 0) = false from by rw [decide_eq_false_iff_not]; omega]
    have hq : (n == x.ot) = true := by rw [beq_iff_eq]; exact g1
    unfold LEnd.val
    go_enter Try.func40, Try.ntmps40
    go_wp2_with fail
    exact bodyPost_ret (v := .tuple #[x.val A c, .bool false]) (by simp [results, Try.results40, go_sem, LEnd.val]) rfl ⟨_, rfl, EndB.of H.out hB HN.out HC.out (below_news _ _ _)⟩
  · have hq : (n == x.ot) = false := by rw [beq_eq_false_iff_ne]; exact g1
    have hlt : x.ot < n := by omega
    by_cases g2 : x.ot = 0
    · have hq2 : (x.ot != 0) = false := by simp [g2]
      rw [metX_first hlt g2, show decide (x.ot < n ∧ x.ot ≠ 0) = false from by rw [decide_eq_false_iff_not]; omega]
      unfold LEnd.val
      go_enter Try.func40, Try.ntmps40
      go_wp2_with fail
      exact bodyPost_ret (v := .tuple #[LEnd.val ⟨x.ep, n, x.fi, 1, x.out⟩ A c, .bool false]) (by simp [results, Try.results40, go_sem, LEnd.val]) rfl ⟨_, rfl, EndB.of (x := ⟨x.ep, n, x.fi, 1, x.out⟩) H.out hB HN.out HC.out (below_news _ _ _)⟩
    · have hq2 : (x.ot != 0) = true := by simp [g2]
      rw [metX_anew hlt g2, show decide (x.ot < n ∧ x.ot ≠ 0) = true from by rw [decide_eq_true_iff]; omega]
      unfold LEnd.val
      go_enter Try.func40, Try.ntmps40
      go_wp2_with fail
      exact bodyPost_ret (v := .tuple #[LEnd.val ⟨x.ep, n, 1, 1, []⟩ none 0, .bool true]) (by simp [results, Try.results40, go_sem, LEnd.val]) rfl ⟨_, rfl, EndB.none_ rfl (below_news _ _ _)⟩

theorem ackedX_no {x : LEnd} {n : Int} (h : ¬ (x.fi ≤ n ∧ n ≤ x.fi + x.out.length)) : ackedX x n = x := by unfold ackedX; rw [if_neg h]
theorem ackedX_yes {x : LEnd} {n : Int} (h : x.fi ≤ n ∧ n ≤ x.fi + x.out.length) : ackedX x n = { x with fi := n, out := x.out.drop (n - x.fi).toNat } := by unfold ackedX; rw [if_pos h]
theorem Strs.drop {w : World} {B : Nat} {A : Option Addr} {xs : List (List UInt8)} (h : Strs w B A xs) (k : Nat) : Strs w B (A.map (fun a => a.add k)) (xs.drop k) := by
  rcases h with rfl | ⟨b, off, rfl, hb, hc⟩
  · exact .inl (by simp)
  · refine .inr ⟨b, off + k, by rw [Option.map_some, WideShapes.add_plain], hb, fun i hi => ?_⟩
    rw [List.length_drop] at hi
    rw [List.getElem_drop, show off + k + i = off + (k + i) from by omega]
    exact hc (k + i) (by omega)

set_option maxHeartbeats 1000000 in
set_option maxRecDepth 100000 in
theorem release_any (x : LEnd) (A : Option Addr) (c : Nat) (n : Nat) (w : World) {B : Nat} (h : Strs w B A x.out) (hB : B ≤ w.heap.size) (hn : A = none → c = 0) (hc : x.out.length ≤ c) (hx : x.Ok) :
    Calls Try.prog 42 #[x.val A c, .int .i64 n] w fun e w' => ∃ v, e = .returned v ∧ EndB B A (ackedX x n) w v w' := by
  have H := Lib.hid h
  have HN := Lib.hid hn
  have HC := Lib.hid hc
  have HX := Lib.hid (fun W => next_any x A c W (by have := hx.f2; omega) (by have := hx.f1; omega) (by have := hx.len; omega))
  clear h hn
  by_cases g1 : (n : Int) < x.fi
  · rw [ackedX_no (by omega)]
    unfold LEnd.val
    go_enter Try.func42, Try.ntmps42
    go_wp2_with fail
    exact bodyPost_ret (v := x.val A c) (by simp [results, Try.results42, go_sem, LEnd.val]) rfl ⟨_, rfl, EndB.of H.out hB HN.out HC.out (below_news _ _ _)⟩
  · by_cases g2 : x.fi + x.out.length < (n : Int)
    · rw [ackedX_no (by omega)]
      have HB := Lib.hid (fun W => boxes5 (W := W) w (.int .i64 x.ep) (.int .i64 x.ot) (.int .i64 x.fi) (.slice A x.out.length c) (.int .i64 x.wa) (.int .i64 0) (.int .i64 0) (.int .i64 0) (.slice none 0 0) (.int .i64 0) 24 24)
      unfold LEnd.val at HX ⊢
      go_enter Try.func42, Try.ntmps42
      go_wp2_with (go_at_call 33; refine (HX.out _).mono ?_; rintro e w2 ⟨rfl, hb2⟩; obtain ⟨hF0, hF1, hB2⟩ := HB.out _ hb2; have x0 := hF0.c0; have x1 := hF0.c1; have x2 := hF0.c2; have x3 := hF0.c3; have x4 := hF0.c4; have y0 := hF1.c0; have y1 := hF1.c1; have y2 := hF1.c2; have y3 := hF1.c3; have y4 := hF1.c4; have yf := hF1.fr; have HF1 := Lib.hid hF1; have HF0 := Lib.hid hF0; have HB2 := Lib.hid hB2; clear hF0 hF1 hB2 hb2)
      have HR := HF1.out.set (.int .i64 x.ep) (.int .i64 x.ot) (.int .i64 x.fi) (.slice A x.out.length c) (.int .i64 x.wa)
      have HE := below_five HB2.out (H := w.heap.size + 1) (by omega) (.int .i64 x.ep) (.int .i64 x.ot) (.int .i64 x.fi) (.slice A x.out.length c) (.int .i64 x.wa)
      have r0 := HR.c0
      have r1 := HR.c1
      have r2 := HR.c2
      have r3 := HR.c3
      have r4 := HR.c4
      unfold fiveSet at r0 r1 r2 r3 r4
      exact bodyPost_ret (v := x.val A c) (by simp [results, Try.results42, go_sem, LEnd.val, r0, r1, r2, r3, r4]) rfl ⟨_, rfl, EndB.of H.out hB HN.out HC.out HE⟩
    · rw [ackedX_yes (by omega)]
      have HB := Lib.hid (fun W => boxes5 (W := W) w (.int .i64 x.ep) (.int .i64 x.ot) (.int .i64 x.fi) (.slice A x.out.length c) (.int .i64 x.wa) (.int .i64 0) (.int .i64 0) (.int .i64 0) (.slice none 0 0) (.int .i64 0) 24 24)
      unfold LEnd.val at HX ⊢
      obtain ⟨m, hm⟩ : ∃ m, (n : Int) - x.fi = (m : Nat) := ⟨n - x.fi.toNat, by have := hx.f1; omega⟩
      rw [hm, Int.toNat_natCast]
      have hmn : m ≤ x.out.length := by omega
      have hml : m ≤ 64 := by have := hx.len; omega
      have hwm : IntKind.i64.wrap (m : Int) = (m : Int) := by rw [IntKind.wrap_i64]; omega
      have hm0 : (0 : Int) ≤ (m : Int) := by omega
      have hm1 : (m : Int) ≤ (x.out.length : Int) := by omega
      have HL : Hid ((x.out.drop m).length = x.out.length - m) := Lib.hid List.length_drop
      have HD : Hid (∀ W, Strs W B A x.out → Strs W B (if c = m then A else A.map (fun a => a.add m)) (x.out.drop m) ∧ ((if c = m then A else A.map (fun a => a.add m)) = none → c - m = 0) ∧ (x.out.drop m).length ≤ c - m) := Lib.hid (fun W hW => by
        rw [List.length_drop]
        have hc' := HC.out
        split
        · exact ⟨.inl (List.eq_nil_of_length_eq_zero (by rw [List.length_drop]; omega)), fun _ => by omega, by omega⟩
        · refine ⟨hW.drop m, fun e => ?_, by omega⟩
          cases A with
          | none => have := HN.out rfl; omega
          | some a => cases e)
      have HSr0 : Hid (∀ N, Src N A (if c = m then A else A.map (fun a => a.add m))) := Lib.hid (fun N => by split; exact Src.refl _ _; exact Src.map _ _ _)
      clear g1 g2 hc hx hml
      go_enter Try.func42, Try.ntmps42
      go_wp2_with (go_at_call 33; refine (HX.out _).mono ?_; rintro e w2 ⟨rfl, hb2⟩; obtain ⟨hF0, hF1, hB2⟩ := HB.out _ hb2; have x0 := hF0.c0; have x1 := hF0.c1; have x2 := hF0.c2; have x3 := hF0.c3; have x4 := hF0.c4; have xf := hF0.fr; have y0 := hF1.c0; have y1 := hF1.c1; have y2 := hF1.c2; have y3 := hF1.c3; have y4 := hF1.c4; have yf := hF1.fr; have HF1 := Lib.hid hF1; have HF0 := Lib.hid hF0; have HB2 := Lib.hid hB2; clear hF0 hF1 hB2 hb2)
      go_region
      generalize hA' : (if c = m then A else Option.map (fun a => a.add m) A) = A' at *
      have HSr : Hid (∀ N, Src N A A') := HSr0
      have HG0 := Lib.hid ((HF0.out.set2 (.int .i64 n)).set3 (.slice A' (x.out.length - m) (c - m))).drew
      have HG1 := Lib.hid ((HF1.out.far (p := ⟨w.heap.size, 2, none⟩) (by show w.heap.size + 1 ≠ w.heap.size; omega) (.int .i64 n)).far (p := ⟨w.heap.size, 3, none⟩) (by show w.heap.size + 1 ≠ w.heap.size; omega) (.slice A' (x.out.length - m) (c - m))).drew
      have HB3 := Lib.hid ((HB2.out.setCell (p := ⟨w.heap.size, 2, none⟩) (Nat.le_refl _) (.int .i64 n)).setCell (p := ⟨w.heap.size, 3, none⟩) (Nat.le_refl _) (.slice A' (x.out.length - m) (c - m))).drew
      clear x0 x1 x2 x3 x4 y0 y1 y2 y3 y4 xf yf HF0 HF1 HB2
      generalize ((w2.setCell ⟨w.heap.size, 2, none⟩ (.int .i64 n)).setCell ⟨w.heap.size, 3, none⟩ (.slice A' (x.out.length - m) (c - m))).drew = W3 at *
      have x0 := HG0.out.c0
      have x1 := HG0.out.c1
      have x2 := HG0.out.c2
      have x3 := HG0.out.c3
      have x4 := HG0.out.c4
      have y0 := HG1.out.c0
      have y1 := HG1.out.c1
      have y2 := HG1.out.c2
      have y3 := HG1.out.c3
      have y4 := HG1.out.c4
      have yf := HG1.out.fr
      go_wp2_with fail
      have HR := HG1.out.set (.int .i64 x.ep) (.int .i64 x.ot) (.int .i64 n) (.slice A' (x.out.length - m) (c - m)) (.int .i64 x.wa)
      have HE := below_five HB3.out (H := w.heap.size + 1) (by omega) (.int .i64 x.ep) (.int .i64 x.ot) (.int .i64 n) (.slice A' (x.out.length - m) (c - m)) (.int .i64 x.wa)
      have r0 := HR.c0
      have r1 := HR.c1
      have r2 := HR.c2
      have r3 := HR.c3
      have r4 := HR.c4
      unfold fiveSet at r0 r1 r2 r3 r4
      obtain ⟨d1, d2, d3⟩ := HD.out _ (H.out.below (HE.mono hB))
      exact bodyPost_ret (v := .agg #[.int .i64 x.ep, .int .i64 x.ot, .int .i64 n, .slice A' (x.out.length - m) (c - m), .int .i64 x.wa]) (by simp [results, Try.results42, go_sem, r0, r1, r2, r3, r4]) rfl ⟨_, rfl, A', c - m, by rw [LEnd.val, HL.out], d1, d2, d3, HE, fun N => HSr.out N⟩
end Go.Proofs.Ytdhmkcomngbmaaa
