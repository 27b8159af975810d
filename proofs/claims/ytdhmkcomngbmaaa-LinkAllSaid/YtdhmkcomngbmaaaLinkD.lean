/- Contracts of fits and open of the package link: a text is a packet, or none. -/
import Derived.Test.YtdhmkcomngbmaaaLinkC
namespace Go.Proofs.Ytdhmkcomngbmaaa
open Go.RowKit

/-- Is a text a packet, of whatever sender? -/
def PktS (s : List UInt8) : Prop := openE s = 0 ∧ IsPkt (openK s).toNat (openB s)
/-- The number k of a body may be read. -/
def Reads (b : List UInt8) (k : Nat) : Prop := 8 * k + 8 ≤ b.length ∧ num8 b k < 9223372036854775808
theorem reads_yes {b : List UInt8} {k : Nat} (h : Reads b k) : numE (b.drop (8 * k)) 8 = 0 ∧ numN (b.drop (8 * k)) 8 = (num8 b k : Int) ∧ numR (b.drop (8 * k)) 8 = b.drop (8 * (k + 1)) := by
  have hl : 8 ≤ (b.drop (8 * k)).length := by rw [List.length_drop]; have := h.1; omega
  have e : numE (b.drop (8 * k)) ((8 : Nat) : Int) = 0 := (numE_get (k := 8) (by omega) (by omega) hl).trans (getE_ok (by rw [List.length_take]; omega) (by rw [List.length_take]; omega) h.2)
  refine ⟨e, numN_ok (k := 8) e, (numR_ok (k := 8) e).trans ?_⟩
  rw [List.drop_drop]; rfl
theorem reads_no {b : List UInt8} {k : Nat} (h : ¬ Reads b k) : numE (b.drop (8 * k)) 8 ≠ 0 := by
  by_cases hl : 8 * k + 8 ≤ b.length
  · have hl' : 8 ≤ (b.drop (8 * k)).length := by rw [List.length_drop]; omega
    have hn : ¬ num8 b k < 9223372036854775808 := fun e => h ⟨hl, e⟩
    have e : numE (b.drop (8 * k)) ((8 : Nat) : Int) = 10 := (numE_get (k := 8) (by omega) (by omega) hl').trans (getE_big (by rw [List.length_take]; omega) (by rw [List.length_take]; omega) (by unfold num8 at hn; omega))
    intro e'
    have : numE (b.drop (8 * k)) ((8 : Nat) : Int) = 0 := e'
    omega
  · rw [numE_short (by omega) (by omega) (by rw [List.length_drop]; omega)]
    omega
theorem pkt_reads {k : Nat} {b : List UInt8} (h : IsPkt k b) : ∀ i, i < 4 → Reads b i := fun i hi => ⟨by have := h.2.1; omega, h.2.2.2.1 i hi⟩

/-- fits. -/
def fitsB (kind : Int) (num : Int) (p : List UInt8) : Bool := if kind = 1 then fitB p else if kind = 2 then decide (num = 0 ∧ p = []) else false
theorem fits_pkt {k : Nat} {b : List UInt8} (h : ∀ i, i < 4 → Reads b i) : fitsB (k : Int) (num8 b 2 : Int) (b.drop 32) = true ↔ IsPkt k b := by
  have h3 := (h 3 (by omega)).1
  have hd : (b.drop 32).length = b.length - 32 := List.length_drop
  unfold fitsB IsPkt
  by_cases h1 : (k : Int) = 1
  · rw [if_pos h1]
    simp only [fitB, Bool.not_eq_true', decide_eq_false_iff_not]
    constructor
    · exact fun e => ⟨by omega, by omega, by omega, fun i hi => (h i hi).2, fun e => by omega⟩
    · exact fun e => by have := e.2.2.1; omega
  · rw [if_neg h1]
    by_cases h2 : (k : Int) = 2
    · rw [if_pos h2, decide_eq_true_iff]
      constructor
      · rintro ⟨e1, e2⟩
        have : (b.drop 32).length = 0 := by rw [e2]; rfl
        exact ⟨by omega, by omega, by omega, fun i hi => (h i hi).2, fun _ => ⟨by omega, by omega⟩⟩
      · rintro e
        obtain ⟨e1, e2⟩ := e.2.2.2.2 (by omega)
        exact ⟨by omega, List.eq_nil_of_length_eq_zero (by omega)⟩
    · rw [if_neg h2]
      constructor
      · intro e; cases e
      · rintro ⟨e, _⟩; omega

theorem str_same_none (p : List UInt8) : (str p).toList.isEmpty = decide (p = []) := by
  rw [str_toList]
  cases p <;> simp

set_option maxHeartbeats 1000000 in
theorem fits_any (kind a b m e : Int) (p : List UInt8) (w : World) :
    Calls Try.prog 54 #[.int .i64 kind, .agg #[.int .i64 a, .int .i64 b, .int .i64 m, .int .i64 e, .string (str p)]] w fun e w' => e = .returned (.bool (fitsB kind m p)) ∧ Below w.heap.size w w' := by
  unfold fitsB
  have HB : Hid (Below w.heap.size w (w.alloc (.cells #[.int .i64 a, .int .i64 b, .int .i64 m, .int .i64 e, .string (str p)] 79))) := Lib.hid (below_one _ _)
  by_cases h1 : kind = 1
  · rw [if_pos h1]
    subst h1
    go_enter Try.func54, Try.ntmps54
    go_wp2_with (go_at_call 32; refine (isLong_any _ _).mono ?_; rintro e w' ⟨rfl, rfl⟩)
    go_ret
    exact ⟨rfl, HB.out⟩
  · rw [if_neg h1]
    have h1' : (kind == 1) = false := beq_eq_false_iff_ne.2 h1
    by_cases h2 : kind = 2
    · rw [if_pos h2]
      subst h2
      by_cases hm : m = 0
      · have hm' : (m == 0) = true := beq_iff_eq.2 hm
        have HP := Lib.hid (str_same_none p)
        rw [show decide (m = 0 ∧ p = []) = decide (p = []) from by simp [hm]]
        subst hm
        go_enter Try.func54, Try.ntmps54
        go_wp2
        go_ret
        exact ⟨congrArg (fun q => Ending.returned (.bool q)) HP.out, HB.out⟩
      · have hm' : (m == 0) = false := beq_eq_false_iff_ne.2 hm
        rw [show decide (m = 0 ∧ p = []) = false from by simp [hm]]
        go_enter Try.func54, Try.ntmps54
        go_wp2
        go_ret
        exact ⟨rfl, HB.out⟩
    · rw [if_neg h2]
      have h2' : (kind == 2) = false := beq_eq_false_iff_ne.2 h2
      go_enter Try.func54, Try.ntmps54
      go_wp2
      go_ret
      exact ⟨rfl, HB.out⟩

theorem Five.all {w : World} {H : Nat} {a b c d e : Value} {ty : TypeId} (h : Five w H a b c d e ty) : w.cell? ⟨H, 0, none⟩ = some a ∧ w.cell? ⟨H, 1, none⟩ = some b ∧ w.cell? ⟨H, 2, none⟩ = some c ∧ w.cell? ⟨H, 3, none⟩ = some d ∧ w.cell? ⟨H, 4, none⟩ = some e := ⟨h.c0, h.c1, h.c2, h.c3, h.c4⟩
theorem Five.far5 {w : World} {H K : Nat} {a b c d e : Value} {ty : TypeId} (h : Five w H a b c d e ty) (hp : H ≠ K) (v0 v1 v2 v3 v4 : Value) :
    (((((w.setCell ⟨K, 0, none⟩ v0).setCell ⟨K, 1, none⟩ v1).setCell ⟨K, 2, none⟩ v2).setCell ⟨K, 3, none⟩ v3).setCell ⟨K, 4, none⟩ v4).cell? ⟨H, 0, none⟩ = some a ∧ (((((w.setCell ⟨K, 0, none⟩ v0).setCell ⟨K, 1, none⟩ v1).setCell ⟨K, 2, none⟩ v2).setCell ⟨K, 3, none⟩ v3).setCell ⟨K, 4, none⟩ v4).cell? ⟨H, 1, none⟩ = some b ∧ (((((w.setCell ⟨K, 0, none⟩ v0).setCell ⟨K, 1, none⟩ v1).setCell ⟨K, 2, none⟩ v2).setCell ⟨K, 3, none⟩ v3).setCell ⟨K, 4, none⟩ v4).cell? ⟨H, 2, none⟩ = some c ∧ (((((w.setCell ⟨K, 0, none⟩ v0).setCell ⟨K, 1, none⟩ v1).setCell ⟨K, 2, none⟩ v2).setCell ⟨K, 3, none⟩ v3).setCell ⟨K, 4, none⟩ v4).cell? ⟨H, 3, none⟩ = some d ∧ (((((w.setCell ⟨K, 0, none⟩ v0).setCell ⟨K, 1, none⟩ v1).setCell ⟨K, 2, none⟩ v2).setCell ⟨K, 3, none⟩ v3).setCell ⟨K, 4, none⟩ v4).cell? ⟨H, 4, none⟩ = some e :=
  (h.farSet hp v0 v1 v2 v3 v4).all
/-- The world behind a draw. -/
def LatW.first (V : World) : LatW V := ⟨V.drew, (Below.refl _ _).drew⟩
/-- What lies in memory while a text is opened: the answer's block, the content's, the row of addresses. -/
structure OpAt (w : World) (C : Nat) (wd : World) (a b c d : Int) (p : List UInt8) : Prop where
  r : Five wd w.heap.size (.int .i64 0) (.int .i64 0) (.int .i64 0) (.int .i64 0) (.string ⟨#[]⟩) 79
  c : Five wd C (.int .i64 a) (.int .i64 b) (.int .i64 c) (.int .i64 d) (.string (str p)) 79
  row : wd.heap[C + 1]? = some (.cells #[.pointer (some ⟨C, 0, none⟩), .pointer (some ⟨C, 1, none⟩), .pointer (some ⟨C, 2, none⟩), .pointer (some ⟨C, 3, none⟩)] 105 (0, 0))
  lo : w.heap.size < C
  bel : Below w.heap.size w wd
section
variable {w wd w' : World} {C : Nat} {a b c d : Int} {p : List UInt8}
theorem OpAt.later (h : OpAt w C wd a b c d p) (hb : Below wd.heap.size wd w') : OpAt w C w' a b c d p :=
  ⟨h.r.below hb, h.c.below hb, (hb.block _ (heap_lt h.row)).trans h.row, h.lo, h.bel.trans (hb.mono h.bel.size)⟩
theorem OpAt.p0 (h : OpAt w C wd a b c d p) : wd.cell? ⟨C + 1, 0, none⟩ = some (.pointer (some ⟨C, 0, none⟩)) := by rw [Lib.cell_of_heap h.row]; rfl
theorem OpAt.p1 (h : OpAt w C wd a b c d p) : wd.cell? ⟨C + 1, 1, none⟩ = some (.pointer (some ⟨C, 1, none⟩)) := by rw [Lib.cell_of_heap h.row]; rfl
theorem OpAt.p2 (h : OpAt w C wd a b c d p) : wd.cell? ⟨C + 1, 2, none⟩ = some (.pointer (some ⟨C, 2, none⟩)) := by rw [Lib.cell_of_heap h.row]; rfl
theorem OpAt.p3 (h : OpAt w C wd a b c d p) : wd.cell? ⟨C + 1, 3, none⟩ = some (.pointer (some ⟨C, 3, none⟩)) := by rw [Lib.cell_of_heap h.row]; rfl
theorem OpAt.keep (_ : OpAt w C wd a b c d p) {j : Nat} (v : Value) : (wd.setCell ⟨C, j, none⟩ v).heap[C + 1]? = wd.heap[C + 1]? := Below.heap_setCell _ _ _ _ (by show C + 1 ≠ C; omega)
theorem OpAt.set0 (h : OpAt w C wd a b c d p) (n : Int) : OpAt w C (wd.setCell ⟨C, 0, none⟩ (.int .i64 n)) n b c d p := ⟨h.r.far (p := ⟨C, 0, none⟩) (by have := h.lo; show w.heap.size ≠ C; omega) _, h.c.set0 _, (h.keep _).trans h.row, h.lo, h.bel.setCell (p := ⟨C, 0, none⟩) (by have := h.lo; show w.heap.size ≤ C; omega) _⟩
theorem OpAt.set1 (h : OpAt w C wd a b c d p) (n : Int) : OpAt w C (wd.setCell ⟨C, 1, none⟩ (.int .i64 n)) a n c d p := ⟨h.r.far (p := ⟨C, 1, none⟩) (by have := h.lo; show w.heap.size ≠ C; omega) _, h.c.set1 _, (h.keep _).trans h.row, h.lo, h.bel.setCell (p := ⟨C, 1, none⟩) (by have := h.lo; show w.heap.size ≤ C; omega) _⟩
theorem OpAt.set2 (h : OpAt w C wd a b c d p) (n : Int) : OpAt w C (wd.setCell ⟨C, 2, none⟩ (.int .i64 n)) a b n d p := ⟨h.r.far (p := ⟨C, 2, none⟩) (by have := h.lo; show w.heap.size ≠ C; omega) _, h.c.set2 _, (h.keep _).trans h.row, h.lo, h.bel.setCell (p := ⟨C, 2, none⟩) (by have := h.lo; show w.heap.size ≤ C; omega) _⟩
theorem OpAt.set3 (h : OpAt w C wd a b c d p) (n : Int) : OpAt w C (wd.setCell ⟨C, 3, none⟩ (.int .i64 n)) a b c n p := ⟨h.r.far (p := ⟨C, 3, none⟩) (by have := h.lo; show w.heap.size ≠ C; omega) _, h.c.set3 _, (h.keep _).trans h.row, h.lo, h.bel.setCell (p := ⟨C, 3, none⟩) (by have := h.lo; show w.heap.size ≤ C; omega) _⟩
theorem OpAt.set4 (h : OpAt w C wd a b c d p) (q : List UInt8) : OpAt w C (wd.setCell ⟨C, 4, none⟩ (.string (str q))) a b c d q := ⟨h.r.far (p := ⟨C, 4, none⟩) (by have := h.lo; show w.heap.size ≠ C; omega) _, h.c.set4 _, (h.keep _).trans h.row, h.lo, h.bel.setCell (p := ⟨C, 4, none⟩) (by have := h.lo; show w.heap.size ≤ C; omega) _⟩
theorem OpAt.start {w1 : World} (h1 : Below (w.alloc (.cells #[.int .i64 0, .int .i64 0, .int .i64 0, .int .i64 0, .string ⟨#[]⟩] 79 (0, 0))).heap.size (w.alloc (.cells #[.int .i64 0, .int .i64 0, .int .i64 0, .int .i64 0, .string ⟨#[]⟩] 79 (0, 0))) w1) :
    OpAt w w1.heap.size ((w1.alloc (.cells #[.int .i64 0, .int .i64 0, .int .i64 0, .int .i64 0, .string ⟨#[]⟩] 79 (0, 0))).alloc (.cells #[.pointer (some ⟨w1.heap.size, 0, none⟩), .pointer (some ⟨w1.heap.size, 1, none⟩), .pointer (some ⟨w1.heap.size, 2, none⟩), .pointer (some ⟨w1.heap.size, 3, none⟩)] 105 (0, 0))) 0 0 0 0 [] := by
  have h0 := (Five.new w (.int .i64 0) (.int .i64 0) (.int .i64 0) (.int .i64 0) (.string ⟨#[]⟩) 79).below h1
  have hC := (Five.new w1 (.int .i64 0) (.int .i64 0) (.int .i64 0) (.int .i64 0) (.string ⟨#[]⟩) 79)
  have hP := heap_new (w1.alloc (.cells #[.int .i64 0, .int .i64 0, .int .i64 0, .int .i64 0, .string ⟨#[]⟩] 79 (0, 0))) (.cells #[.pointer (some ⟨w1.heap.size, 0, none⟩), .pointer (some ⟨w1.heap.size, 1, none⟩), .pointer (some ⟨w1.heap.size, 2, none⟩), .pointer (some ⟨w1.heap.size, 3, none⟩)] 105 (0, 0))
  rw [show (w1.alloc (.cells #[.int .i64 0, .int .i64 0, .int .i64 0, .int .i64 0, .string ⟨#[]⟩] 79 (0, 0))).heap.size = w1.heap.size + 1 from by simp] at hP
  refine ⟨(h0.below (below_one _ _)).below (below_one _ _), hC.below (below_one _ _), hP, h0.lt, ?_⟩
  exact below_next (below_next (below_one _ _) h1) (below_news _ _ _)
end

/-- What open answers. -/
def OpenIs (s : List UInt8) (w : World) (e : Ending) (w' : World) : Prop :=
  ∃ (k a b c d : Int) (p : List UInt8) (ok : Bool), e = .returned (.tuple #[.int .i64 k, .agg #[.int .i64 a, .int .i64 b, .int .i64 c, .int .i64 d, .string (str p)], .bool ok]) ∧ (ok = true ↔ PktS s) ∧
    (ok = true → k = (heardOf s).kind ∧ a = (heardOf s).n0 ∧ b = (heardOf s).n1 ∧ c = (heardOf s).n2 ∧ d = (heardOf s).n3 ∧ p = (heardOf s).piece) ∧ Below w.heap.size w w'
theorem OpenIs.no {s : List UInt8} {w w' : World} (h : ¬ PktS s) (hb : Below w.heap.size w w') : OpenIs s w (.returned (.tuple #[.int .i64 0, .agg #[.int .i64 0, .int .i64 0, .int .i64 0, .int .i64 0, .string ⟨#[]⟩], .bool false])) w' :=
  ⟨0, 0, 0, 0, 0, [], false, rfl, ⟨fun e => (by cases e), fun e => absurd e h⟩, fun e => (by cases e), hb⟩
theorem openK_nat (s : List UInt8) : ∃ k : Nat, openK s = k := by
  by_cases h : openE s = 0
  · exact ⟨_, openK_ok h⟩
  · exact ⟨0, openK_no h⟩
theorem openB_len (s : List UInt8) : (openB s).length ≤ 4096 := by
  by_cases h : openE s = 0
  · rw [openB_ok h, List.length_take]
    have := (openE_zero h).2.1
    omega
  · rw [openB_no h]; simp
theorem OpenIs.yes {s : List UInt8} {w w' : World} {K : Int} (he : openE s = 0) (hk : openK s = K) (h : ∀ i, i < 4 → Reads (openB s) i) (hb : Below w.heap.size w w') :
    OpenIs s w (.returned (.tuple #[.int .i64 K, .agg #[.int .i64 (num8 (openB s) 0), .int .i64 (num8 (openB s) 1), .int .i64 (num8 (openB s) 2), .int .i64 (num8 (openB s) 3), .string (str ((openB s).drop 32))], .bool (fitsB K (num8 (openB s) 2) ((openB s).drop 32))])) w' := by
  obtain ⟨k, hkn⟩ := openK_nat s
  subst hk
  refine ⟨_, _, _, _, _, _, _, rfl, ?_, fun _ => ⟨?_, rfl, rfl, rfl, rfl, rfl⟩, hb⟩
  · rw [hkn, fits_pkt h]
    unfold PktS
    rw [hkn, Int.toNat_natCast]
    exact ⟨fun e => ⟨he, e⟩, fun e => e.2⟩
  · show openK s = ((openK s).toNat : Int)
    rw [hkn, Int.toNat_natCast]
theorem not_pkt {s : List UInt8} {i : Nat} (hi : i < 4) (h : ¬ Reads (openB s) i) : ¬ PktS s := fun e => h (pkt_reads e.2 i hi)

set_option maxHeartbeats 4000000 in
set_option maxRecDepth 100000 in
theorem lopen_any (s : List UInt8) (w : World) (hs : s.length ≤ 281474976710656) :
    Calls Try.prog 39 #[.string (str s)] w (OpenIs s w) := by
  have HO : Hid (∀ W : World, Calls Try.prog 52 #[.string (str s)] W fun e w' => e = .returned (.tuple #[.int .i64 (openK s), .string (str (openB s)), .int .i64 (openE s)]) ∧ Below W.heap.size W w') := Lib.hid (fun W => by
    have := Open_any (str s) W (by rw [str_size]; unfold maxLen; omega)
    rwa [str_list] at this)
  have HNo := Lib.hid (fun w' => @OpenIs.no s w w')
  by_cases he : openE s = 0
  · rw [he] at HO
    have HY := Lib.hid (fun w' h1 h2 => @OpenIs.yes s w w' (openK s) he rfl h1 h2)
    have HNP := Lib.hid (fun i hi h => @not_pkt s i hi h)
    have HRN := Lib.hid (fun k => @reads_no (openB s) k)
    have HRY := Lib.hid (fun k => @reads_yes (openB s) k)
    have HNum : Hid (∀ k (W : World), Calls Try.prog 53 #[.string (str ((openB s).drop (8 * k))), .int .i64 8] W fun e w' => e = .returned (.tuple #[.int .i64 (numN ((openB s).drop (8 * k)) 8), .string (str (numR ((openB s).drop (8 * k)) 8)), .int .i64 (numE ((openB s).drop (8 * k)) 8)]) ∧ Below W.heap.size W w') := Lib.hid (fun k W => by
      have := Number_any (str ((openB s).drop (8 * k))) 8 W (by have := openB_len s; rw [str_size, List.length_drop]; unfold maxLen; omega)
      rwa [str_list] at this)
    have HZ : Hid ((openB s).drop (8 * 0) = openB s) := Lib.hid rfl
    generalize openK s = K at *
    generalize openB s = b at *
    clear he hs
    have HFi := Lib.hid (fun a b' m e p W => fits_any K a b' m e p W)
    go_enter Try.func39, Try.ntmps39
    go_wp2_with fail
    refine (HO.out _).mono ?_
    rintro e w1 ⟨rfl, hb1⟩
    have HA := Lib.hid (OpAt.start hb1)
    have hlo := HA.out.lo
    clear hb1 HO
    go_wp2_with fail
    obtain ⟨V, hV⟩ : ∃ V, (w1.alloc (.cells #[.int .i64 0, .int .i64 0, .int .i64 0, .int .i64 0, .string ⟨#[]⟩] 79 (0, 0))).alloc (.cells #[.pointer (some ⟨w1.heap.size, 0, none⟩), .pointer (some ⟨w1.heap.size, 1, none⟩), .pointer (some ⟨w1.heap.size, 2, none⟩), .pointer (some ⟨w1.heap.size, 3, none⟩)] 105 (0, 0)) = V := ⟨_, rfl⟩
    rw [hV] at HA
    (try rw [hV])
    clear hV
    generalize w1.heap.size = C at *
    refine wp_loop_rounds 5 ?_
    rw [rounds_succ]
    have c0 := HA.out.c.c0
    have c1 := HA.out.c.c1
    have c2 := HA.out.c.c2
    have c3 := HA.out.c.c3
    have c4 := HA.out.c.c4
    have cf := HA.out.c.fr
    have p0 := HA.out.p0
    have p1 := HA.out.p1
    have p2 := HA.out.p2
    have p3 := HA.out.p3
    have r0 := HA.out.r.c0
    have r1 := HA.out.r.c1
    have r2 := HA.out.r.c2
    have r3 := HA.out.r.c3
    have r4 := HA.out.r.c4
    have rf := HA.out.r.fr
    have hq := HNum.out 0
    rw [HZ.out] at hq
    have HQ := Lib.hid hq
    clear hq
    go_wp2_with fail
    refine (HQ.out _).mono ?_
    rintro e w2 ⟨rfl, hb⟩
    replace HA := Lib.hid (HA.out.later hb)
    clear hb HQ c0 c1 c2 c3 c4 cf p0 p1 p2 p3 r0 r1 r2 r3 r4 rf
    have c0 := HA.out.c.c0
    have c1 := HA.out.c.c1
    have c2 := HA.out.c.c2
    have c3 := HA.out.c.c3
    have c4 := HA.out.c.c4
    have cf := HA.out.c.fr
    have p0 := HA.out.p0
    have p1 := HA.out.p1
    have p2 := HA.out.p2
    have p3 := HA.out.p3
    have r0 := HA.out.r.c0
    have r1 := HA.out.r.c1
    have r2 := HA.out.r.c2
    have r3 := HA.out.r.c3
    have r4 := HA.out.r.c4
    have rf := HA.out.r.fr
    by_cases hR0 : Reads b 0
    case neg =>
      have hz := HRN.out 0 hR0
      rw [HZ.out] at hz
      have hgo : (numE b 8 != 0) = true := by simpa using hz
      have HP := Lib.hid (HNP.out _ (by omega) hR0)
      generalize numE b 8 = E at *
      generalize numN b 8 = Nm at *
      generalize numR b 8 = Rs at *
      have HE := HA.out.set0 Nm
      have HR := HE.r.set (.int .i64 0) (.int .i64 0) (.int .i64 0) (.int .i64 0) (.string ⟨#[]⟩)
      have HEnd := Lib.hid (below_five HE.bel (H := w.heap.size) (Nat.le_refl _) (.int .i64 0) (.int .i64 0) (.int .i64 0) (.int .i64 0) (.string ⟨#[]⟩))
      have t0 := HR.c0
      have t1 := HR.c1
      have t2 := HR.c2
      have t3 := HR.c3
      have t4 := HR.c4
      unfold fiveSet at t0 t1 t2 t3 t4 HEnd
      clear hR0 hz HE HR
      go_wp2_with fail
      exact bodyPost_ret (v := .tuple #[.int .i64 0, .agg #[.int .i64 0, .int .i64 0, .int .i64 0, .int .i64 0, .string ⟨#[]⟩], .bool false]) (by simp [results, Try.results39, go_sem, t0, t1, t2, t3, t4]) rfl (HNo.out _ HP.out HEnd.out)
    obtain ⟨e1, e2, e3⟩ := HRY.out 0 hR0
    rw [HZ.out] at e1 e2 e3
    rw [e1, e2, e3]
    clear e1 e2 e3
    replace HA := Lib.hid (HA.out.set0 (num8 b 0))
    go_wp2_with fail
    generalize w2.setCell ⟨C, 0, none⟩ (.int .i64 (num8 b 0)) = W0 at HA ⊢
    clear c0 c1 c2 c3 c4 cf p0 p1 p2 p3 r0 r1 r2 r3 r4 rf
    replace hR0 := Lib.hid hR0
    rw [rounds_succ]
    have c0 := HA.out.c.c0
    have c1 := HA.out.c.c1
    have c2 := HA.out.c.c2
    have c3 := HA.out.c.c3
    have c4 := HA.out.c.c4
    have cf := HA.out.c.fr
    have p0 := HA.out.p0
    have p1 := HA.out.p1
    have p2 := HA.out.p2
    have p3 := HA.out.p3
    have r0 := HA.out.r.c0
    have r1 := HA.out.r.c1
    have r2 := HA.out.r.c2
    have r3 := HA.out.r.c3
    have r4 := HA.out.r.c4
    have rf := HA.out.r.fr
    have hq := HNum.out 1
    have HQ := Lib.hid hq
    clear hq
    go_wp2_with fail
    refine (HQ.out _).mono ?_
    rintro e w3 ⟨rfl, hb⟩
    replace HA := Lib.hid (HA.out.later hb)
    clear hb HQ c0 c1 c2 c3 c4 cf p0 p1 p2 p3 r0 r1 r2 r3 r4 rf
    have c0 := HA.out.c.c0
    have c1 := HA.out.c.c1
    have c2 := HA.out.c.c2
    have c3 := HA.out.c.c3
    have c4 := HA.out.c.c4
    have cf := HA.out.c.fr
    have p0 := HA.out.p0
    have p1 := HA.out.p1
    have p2 := HA.out.p2
    have p3 := HA.out.p3
    have r0 := HA.out.r.c0
    have r1 := HA.out.r.c1
    have r2 := HA.out.r.c2
    have r3 := HA.out.r.c3
    have r4 := HA.out.r.c4
    have rf := HA.out.r.fr
    by_cases hR1 : Reads b 1
    case neg =>
      have hz := HRN.out 1 hR1
      have hgo : (numE (b.drop (8 * 1)) 8 != 0) = true := by simpa using hz
      have HP := Lib.hid (HNP.out _ (by omega) hR1)
      generalize numE (b.drop (8 * 1)) 8 = E at *
      generalize numN (b.drop (8 * 1)) 8 = Nm at *
      generalize numR (b.drop (8 * 1)) 8 = Rs at *
      have HE := HA.out.set1 Nm
      have HR := HE.r.set (.int .i64 0) (.int .i64 0) (.int .i64 0) (.int .i64 0) (.string ⟨#[]⟩)
      have HEnd := Lib.hid (below_five HE.bel (H := w.heap.size) (Nat.le_refl _) (.int .i64 0) (.int .i64 0) (.int .i64 0) (.int .i64 0) (.string ⟨#[]⟩))
      have t0 := HR.c0
      have t1 := HR.c1
      have t2 := HR.c2
      have t3 := HR.c3
      have t4 := HR.c4
      unfold fiveSet at t0 t1 t2 t3 t4 HEnd
      clear hR1 hz HE HR
      go_wp2_with fail
      exact bodyPost_ret (v := .tuple #[.int .i64 0, .agg #[.int .i64 0, .int .i64 0, .int .i64 0, .int .i64 0, .string ⟨#[]⟩], .bool false]) (by simp [results, Try.results39, go_sem, t0, t1, t2, t3, t4]) rfl (HNo.out _ HP.out HEnd.out)
    obtain ⟨e1, e2, e3⟩ := HRY.out 1 hR1
    rw [e1, e2, e3]
    clear e1 e2 e3
    replace HA := Lib.hid (HA.out.set1 (num8 b 1))
    go_wp2_with fail
    generalize w3.setCell ⟨C, 1, none⟩ (.int .i64 (num8 b 1)) = W1 at HA ⊢
    clear c0 c1 c2 c3 c4 cf p0 p1 p2 p3 r0 r1 r2 r3 r4 rf
    replace hR1 := Lib.hid hR1
    rw [rounds_succ]
    have c0 := HA.out.c.c0
    have c1 := HA.out.c.c1
    have c2 := HA.out.c.c2
    have c3 := HA.out.c.c3
    have c4 := HA.out.c.c4
    have cf := HA.out.c.fr
    have p0 := HA.out.p0
    have p1 := HA.out.p1
    have p2 := HA.out.p2
    have p3 := HA.out.p3
    have r0 := HA.out.r.c0
    have r1 := HA.out.r.c1
    have r2 := HA.out.r.c2
    have r3 := HA.out.r.c3
    have r4 := HA.out.r.c4
    have rf := HA.out.r.fr
    have hq := HNum.out 2
    have HQ := Lib.hid hq
    clear hq
    go_wp2_with fail
    refine (HQ.out _).mono ?_
    rintro e w4 ⟨rfl, hb⟩
    replace HA := Lib.hid (HA.out.later hb)
    clear hb HQ c0 c1 c2 c3 c4 cf p0 p1 p2 p3 r0 r1 r2 r3 r4 rf
    have c0 := HA.out.c.c0
    have c1 := HA.out.c.c1
    have c2 := HA.out.c.c2
    have c3 := HA.out.c.c3
    have c4 := HA.out.c.c4
    have cf := HA.out.c.fr
    have p0 := HA.out.p0
    have p1 := HA.out.p1
    have p2 := HA.out.p2
    have p3 := HA.out.p3
    have r0 := HA.out.r.c0
    have r1 := HA.out.r.c1
    have r2 := HA.out.r.c2
    have r3 := HA.out.r.c3
    have r4 := HA.out.r.c4
    have rf := HA.out.r.fr
    by_cases hR2 : Reads b 2
    case neg =>
      have hz := HRN.out 2 hR2
      have hgo : (numE (b.drop (8 * 2)) 8 != 0) = true := by simpa using hz
      have HP := Lib.hid (HNP.out _ (by omega) hR2)
      generalize numE (b.drop (8 * 2)) 8 = E at *
      generalize numN (b.drop (8 * 2)) 8 = Nm at *
      generalize numR (b.drop (8 * 2)) 8 = Rs at *
      have HE := HA.out.set2 Nm
      have HR := HE.r.set (.int .i64 0) (.int .i64 0) (.int .i64 0) (.int .i64 0) (.string ⟨#[]⟩)
      have HEnd := Lib.hid (below_five HE.bel (H := w.heap.size) (Nat.le_refl _) (.int .i64 0) (.int .i64 0) (.int .i64 0) (.int .i64 0) (.string ⟨#[]⟩))
      have t0 := HR.c0
      have t1 := HR.c1
      have t2 := HR.c2
      have t3 := HR.c3
      have t4 := HR.c4
      unfold fiveSet at t0 t1 t2 t3 t4 HEnd
      clear hR2 hz HE HR
      go_wp2_with fail
      exact bodyPost_ret (v := .tuple #[.int .i64 0, .agg #[.int .i64 0, .int .i64 0, .int .i64 0, .int .i64 0, .string ⟨#[]⟩], .bool false]) (by simp [results, Try.results39, go_sem, t0, t1, t2, t3, t4]) rfl (HNo.out _ HP.out HEnd.out)
    obtain ⟨e1, e2, e3⟩ := HRY.out 2 hR2
    rw [e1, e2, e3]
    clear e1 e2 e3
    replace HA := Lib.hid (HA.out.set2 (num8 b 2))
    go_wp2_with fail
    generalize w4.setCell ⟨C, 2, none⟩ (.int .i64 (num8 b 2)) = W2 at HA ⊢
    clear c0 c1 c2 c3 c4 cf p0 p1 p2 p3 r0 r1 r2 r3 r4 rf
    replace hR2 := Lib.hid hR2
    rw [rounds_succ]
    have c0 := HA.out.c.c0
    have c1 := HA.out.c.c1
    have c2 := HA.out.c.c2
    have c3 := HA.out.c.c3
    have c4 := HA.out.c.c4
    have cf := HA.out.c.fr
    have p0 := HA.out.p0
    have p1 := HA.out.p1
    have p2 := HA.out.p2
    have p3 := HA.out.p3
    have r0 := HA.out.r.c0
    have r1 := HA.out.r.c1
    have r2 := HA.out.r.c2
    have r3 := HA.out.r.c3
    have r4 := HA.out.r.c4
    have rf := HA.out.r.fr
    have hq := HNum.out 3
    have HQ := Lib.hid hq
    clear hq
    go_wp2_with fail
    refine (HQ.out _).mono ?_
    rintro e w5 ⟨rfl, hb⟩
    replace HA := Lib.hid (HA.out.later hb)
    clear hb HQ c0 c1 c2 c3 c4 cf p0 p1 p2 p3 r0 r1 r2 r3 r4 rf
    have c0 := HA.out.c.c0
    have c1 := HA.out.c.c1
    have c2 := HA.out.c.c2
    have c3 := HA.out.c.c3
    have c4 := HA.out.c.c4
    have cf := HA.out.c.fr
    have p0 := HA.out.p0
    have p1 := HA.out.p1
    have p2 := HA.out.p2
    have p3 := HA.out.p3
    have r0 := HA.out.r.c0
    have r1 := HA.out.r.c1
    have r2 := HA.out.r.c2
    have r3 := HA.out.r.c3
    have r4 := HA.out.r.c4
    have rf := HA.out.r.fr
    by_cases hR3 : Reads b 3
    case neg =>
      have hz := HRN.out 3 hR3
      have hgo : (numE (b.drop (8 * 3)) 8 != 0) = true := by simpa using hz
      have HP := Lib.hid (HNP.out _ (by omega) hR3)
      generalize numE (b.drop (8 * 3)) 8 = E at *
      generalize numN (b.drop (8 * 3)) 8 = Nm at *
      generalize numR (b.drop (8 * 3)) 8 = Rs at *
      have HE := HA.out.set3 Nm
      have HR := HE.r.set (.int .i64 0) (.int .i64 0) (.int .i64 0) (.int .i64 0) (.string ⟨#[]⟩)
      have HEnd := Lib.hid (below_five HE.bel (H := w.heap.size) (Nat.le_refl _) (.int .i64 0) (.int .i64 0) (.int .i64 0) (.int .i64 0) (.string ⟨#[]⟩))
      have t0 := HR.c0
      have t1 := HR.c1
      have t2 := HR.c2
      have t3 := HR.c3
      have t4 := HR.c4
      unfold fiveSet at t0 t1 t2 t3 t4 HEnd
      clear hR3 hz HE HR
      go_wp2_with fail
      exact bodyPost_ret (v := .tuple #[.int .i64 0, .agg #[.int .i64 0, .int .i64 0, .int .i64 0, .int .i64 0, .string ⟨#[]⟩], .bool false]) (by simp [results, Try.results39, go_sem, t0, t1, t2, t3, t4]) rfl (HNo.out _ HP.out HEnd.out)
    obtain ⟨e1, e2, e3⟩ := HRY.out 3 hR3
    rw [e1, e2, e3]
    clear e1 e2 e3
    replace HA := Lib.hid (HA.out.set3 (num8 b 3))
    go_wp2_with fail
    generalize w5.setCell ⟨C, 3, none⟩ (.int .i64 (num8 b 3)) = W3 at HA ⊢
    clear c0 c1 c2 c3 c4 cf p0 p1 p2 p3 r0 r1 r2 r3 r4 rf
    replace hR3 := Lib.hid hR3
    rw [rounds_succ]
    have c0 := HA.out.c.c0
    have c1 := HA.out.c.c1
    have c2 := HA.out.c.c2
    have c3 := HA.out.c.c3
    have c4 := HA.out.c.c4
    have cf := HA.out.c.fr
    have p0 := HA.out.p0
    have p1 := HA.out.p1
    have p2 := HA.out.p2
    have p3 := HA.out.p3
    have r0 := HA.out.r.c0
    have r1 := HA.out.r.c1
    have r2 := HA.out.r.c2
    have r3 := HA.out.r.c3
    have r4 := HA.out.r.c4
    have rf := HA.out.r.fr
    go_wp2_with fail
    replace HA := Lib.hid (HA.out.set4 (b.drop (8 * (3 + 1))))
    (try rw [show 8 * (3 + 1) = 32 from rfl] at HA)
    (try rw [show 8 * (3 + 1) = 32 from rfl])
    generalize W3.setCell ⟨C, 4, none⟩ (.string (str (b.drop 32))) = W4 at HA ⊢
    clear c0 c1 c2 c3 c4 cf p0 p1 p2 p3 r0 r1 r2 r3 r4 rf
    have HR4 : Hid (∀ i, i < 4 → Reads b i) := Lib.hid (fun i hi => by match i, hi with | 0, _ => exact hR0.out | 1, _ => exact hR1.out | 2, _ => exact hR2.out | 3, _ => exact hR3.out)
    have HYY := Lib.hid (fun w' => HY.out w' HR4.out)
    clear HY hR0 hR1 hR2 hR3 HR4 HNo HNP HRN HRY HNum HZ
    generalize b.drop 32 = pc at *
    generalize num8 b 0 = n0 at *
    generalize num8 b 1 = n1 at *
    generalize num8 b 2 = n2 at *
    generalize num8 b 3 = n3 at *
    have x0 := fun z : LatW W4 => (HA.out.c.lat z).c0
    have x1 := fun z : LatW W4 => (HA.out.c.lat z).c1
    have x2 := fun z : LatW W4 => (HA.out.c.lat z).c2
    have x3 := fun z : LatW W4 => (HA.out.c.lat z).c3
    have x4 := fun z : LatW W4 => (HA.out.c.lat z).c4
    have y0 := fun z : LatW W4 => (HA.out.r.lat z).c0
    have y1 := fun z : LatW W4 => (HA.out.r.lat z).c1
    have y2 := fun z : LatW W4 => (HA.out.r.lat z).c2
    have y3 := fun z : LatW W4 => (HA.out.r.lat z).c3
    have y4 := fun z : LatW W4 => (HA.out.r.lat z).c4
    have yf := fun z : LatW W4 => (HA.out.r.lat z).fr
    have hd0 := HA.out.c.drew.all
    have hne : C ≠ w.heap.size := by omega
    go_region_held3 (fun w' => w'.cell? ⟨C, 0, none⟩ = some (.int .i64 n0) ∧ w'.cell? ⟨C, 1, none⟩ = some (.int .i64 n1) ∧ w'.cell? ⟨C, 2, none⟩ = some (.int .i64 n2) ∧ w'.cell? ⟨C, 3, none⟩ = some (.int .i64 n3) ∧ w'.cell? ⟨C, 4, none⟩ = some (.string (str pc))) (first | with_reducible exact ⟨x0 z4, x1 z4, x2 z4, x3 z4, x4 z4⟩ | with_reducible exact hd0 | with_reducible exact (HA.out.c.lat z4).far5 hne _ _ _ _ _) (first | (go_at_call 54; refine (HFi.out _ _ _ _ _ _).mono ?_; rintro e w9 ⟨rfl, hb9⟩; obtain ⟨z4, hz4⟩ := LatW.later (LatW.first W4) hb9; subst hz4; clear hb9))
    all_goals
      go_wp2_with fail
      have HR := (HA.out.r.lat z4).set (.int .i64 n0) (.int .i64 n1) (.int .i64 n2) (.int .i64 n3) (.string (str pc))
      have HEnd := Lib.hid (below_five (lat_end HA.out.bel z4) (H := w.heap.size) (Nat.le_refl _) (.int .i64 n0) (.int .i64 n1) (.int .i64 n2) (.int .i64 n3) (.string (str pc)))
      have t0 := HR.c0
      have t1 := HR.c1
      have t2 := HR.c2
      have t3 := HR.c3
      have t4 := HR.c4
      unfold fiveSet at t0 t1 t2 t3 t4 HEnd
      exact bodyPost_ret (v := .tuple #[.int .i64 K, .agg #[.int .i64 n0, .int .i64 n1, .int .i64 n2, .int .i64 n3, .string (str pc)], .bool (fitsB K n2 pc)]) (by simp [results, Try.results39, go_sem, t0, t1, t2, t3, t4]) rfl (HYY.out _ HEnd.out)
  · have HP : Hid (¬ PktS s) := Lib.hid (fun e => he e.1)
    have hgo : (openE s != 0) = true := by simpa using he
    generalize openK s = K at *
    generalize openB s = b at *
    generalize openE s = E at *
    go_enter Try.func39, Try.ntmps39
    go_wp2_with fail
    refine (HO.out _).mono ?_
    rintro e w1 ⟨rfl, hb1⟩
    have hF := (Five.new w (.int .i64 0) (.int .i64 0) (.int .i64 0) (.int .i64 0) (.string ⟨#[]⟩) 79).below hb1
    have r0 := hF.c0
    have r1 := hF.c1
    have r2 := hF.c2
    have r3 := hF.c3
    have r4 := hF.c4
    have rf := hF.fr
    have HR := hF.set (.int .i64 0) (.int .i64 0) (.int .i64 0) (.int .i64 0) (.string ⟨#[]⟩)
    have HEnd := Lib.hid (below_five (below_next (below_one _ _) hb1) (H := w.heap.size) (Nat.le_refl _) (.int .i64 0) (.int .i64 0) (.int .i64 0) (.int .i64 0) (.string ⟨#[]⟩))
    have t0 := HR.c0
    have t1 := HR.c1
    have t2 := HR.c2
    have t3 := HR.c3
    have t4 := HR.c4
    unfold fiveSet at t0 t1 t2 t3 t4 HEnd
    clear hF HR hb1 he
    go_wp2_with fail
    exact bodyPost_ret (v := .tuple #[.int .i64 0, .agg #[.int .i64 0, .int .i64 0, .int .i64 0, .int .i64 0, .string ⟨#[]⟩], .bool false]) (by simp [results, Try.results39, go_sem, t0, t1, t2, t3, t4]) rfl (HNo.out _ HP.out HEnd.out)
end Go.Proofs.Ytdhmkcomngbmaaa
