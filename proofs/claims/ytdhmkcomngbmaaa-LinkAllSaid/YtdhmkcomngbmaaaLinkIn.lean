/- What a line holds, plain: few pieces, and none too long: so its acts may be done. The contracts of line and begins. The contract of line. -/
import Derived.Test.YtdhmkcomngbmaaaLinkAc
import Derived.Test.YtdhmkcomngbmaaaLinkQ
import Derived.Test.YtdhmkcomngbmaaaLinkM
namespace Go.Proofs.Ytdhmkcomngbmaaa
open Go.RowKit

/-- A turned packet isn't too long. -/
def BadLe (l : Line) : Prop := ∀ q ∈ l.net, q.bad = true → q.s.length ≤ 10000
theorem gen_len {S : Site} {i : Nat} {s : List UInt8} (h : Gen S i s) : s.length ≤ 600 := by
  obtain ⟨kind, ot, num, wa, piece, rfl, hk, _, _, _, h1, h2⟩ := h
  rw [frameOf_length, pktL_length]
  rcases hk with hk | hk
  · obtain ⟨_, _, _, h3⟩ := h1 hk; omega
  · rw [(h2 hk).2]; simp
theorem BadLe.send {l : Line} (h : BadLe l) {p : Pk} (hp : p.bad = true → p.s.length ≤ 10000) : BadLe (l.send p) := by
  unfold Line.send
  split
  · intro q hq hb
    rcases List.mem_append.1 hq with e | e
    · exact h q e hb
    · rw [List.mem_singleton.1 e] at hb ⊢; exact hp hb
  · exact h
theorem BadLe.gone {l : Line} (h : BadLe l) (k : Nat) : BadLe (l.gone k) := fun q hq hb => by
  rcases List.mem_append.1 hq with e | e
  · exact h q (List.mem_of_mem_take e) hb
  · exact h q (List.mem_of_mem_drop e) hb
theorem BadLe.st {l : Line} (h : BadLe l) (st : Nat → Site) : BadLe ⟨st, l.net⟩ := h
theorem BadLe.comes {l : Line} (h : BadLe l) (p : Pk) : BadLe (l.comes p) := (h.st _).send (fun e => by cases e)
theorem BadLe.puts {l : Line} (h : BadLe l) (who : Nat) (piece : List UInt8) : BadLe (l.puts who piece) := by
  unfold Line.puts
  split
  · exact (h.st _).send (fun e => by cases e)
  · exact h
theorem BadLe.sends (who : Nat) : ∀ (ps : List (List UInt8)) {l : Line}, BadLe l → BadLe (l.sends who ps)
  | [], _, h => h
  | s :: ps, _, h => BadLe.sends who ps (h.send (p := ⟨1 - who, s, false⟩) (fun e => by cases e))
theorem BadLe.turn {l : Line} {N : Nat} (h : BadLe l) (ho : LineOk l N) (k j : Nat) : BadLe (l.turn k j) := by
  unfold Line.turn
  split
  · rename_i p hp
    split
    · exact h
    · rename_i hb
      have hb' : p.bad = false := by simpa using hb
      have hpo := ho.net p (List.mem_of_getElem? hp)
      have hl := gen_len (hpo.gen hb')
      intro q hq hqb
      rcases List.mem_or_eq_of_mem_set hq with e | e
      · exact h q e hqb
      · rw [e]
        show (turnS p.s _).length ≤ 10000
        unfold turnS
        rw [List.length_set]; omega
  · exact h
theorem BadLe.act {l : Line} {N : Nat} (h : BadLe l) (ho : LineOk l N) (kind n : Nat) (piece : List UInt8) : BadLe (actL l kind n piece) := by
  unfold actL
  split
  · exact h.puts 0 piece
  split
  · exact h.puts 1 piece
  split
  · exact BadLe.sends _ _ h
  split
  · exact h
  · rename_i p hp
    split
    · exact h.send (fun hb => h p (List.mem_of_getElem? hp) hb)
    split
    · exact h.turn ho _ _
    split
    · exact h.gone _
    · exact (h.gone _).comes p
/-- So a line holds little. -/
theorem LineOk.in_ {l : Line} {N : Nat} (h : LineOk l N) (hb : BadLe l) (hN : N ≤ 1000) : LnIn l where
  net := h.len
  each := fun q hq => by
    have hp := h.net q hq
    cases e : q.bad with
    | true => exact hb q hq e
    | false => have := gen_len (hp.gen e); omega
  put := fun i hi => by
    have h0 := h.p0
    have h1 := h.p1
    rcases (show i = 0 ∨ i = 1 by omega) with rfl | rfl <;> omega
  came := fun i hi => by
    have h0 := h.p0
    have h1 := h.p1
    have := (h.at_ hi).came_le
    rcases (show i = 0 ∨ i = 1 by omega) with rfl | rfl <;> (simp at this; omega)
  ok := fun i hi => (h.at_ hi).ok
  to2 := fun q hq => (h.net q hq).to2
  ne := fun q hq => (h.net q hq).ne
theorem badLe_new : BadLe lineNew := fun q hq => by cases hq
end Go.Proofs.Ytdhmkcomngbmaaa

namespace Go.Proofs.Ytdhmkcomngbmaaa
open Go.RowKit

theorem Strs.take15 {w : World} {B : Nat} {A : Option Addr} {xs : List (List UInt8)} (h : Strs w B A xs) (k : Nat) : Strs w B A (xs.take k) := by
  rcases h with h | ⟨b, off, hA, hlt, hc⟩
  · exact .inl (by rw [h, List.take_nil])
  · refine .inr ⟨b, off, hA, hlt, fun i hi => ?_⟩
    have hi2 : i < xs.length := by rw [List.length_take] at hi; omega
    rw [hc i hi2, List.getElem_take]

set_option maxHeartbeats 1000000 in
set_option maxRecDepth 100000 in
theorem begins_yes (A1 A2 : Option Addr) (c1 c2 : Nat) (xs ys : List (List UInt8)) (w : World) (h1 : Strs w w.heap.size A1 xs) (h2 : Strs w w.heap.size A2 ys) (he : xs = ys.take xs.length) (hc : ys.length ≤ c2) (hl : ys.length ≤ 10000) :
    Calls Try.prog 26 #[.slice A1 xs.length c1, .slice A2 ys.length c2] w fun e w' => e = .returned (.bool true) ∧ Below w.heap.size w w' := by
  have hle : xs.length ≤ ys.length := by
    have := congrArg List.length he
    rw [List.length_take] at this
    omega
  have hS := Same_yes A1 A2 c1 c2 w.heap.size w.heap.size xs w (by unfold maxLen; omega) h1 (by rw [he]; exact h2.take15 _)
  obtain ⟨n, hn⟩ : ∃ n, xs.length = n := ⟨_, rfl⟩
  obtain ⟨k, hk⟩ : ∃ k, ys.length = k := ⟨_, rfl⟩
  rw [hn] at hS hle ⊢
  rw [hk] at hle hc hl ⊢
  have HS := Lib.hid hS
  have hS2 := Lib.hid (show Calls Try.prog 19 #[.slice A1 n c1, .slice A2 n c2] w fun e w' => e = .returned (.bool true) ∧ Below w.heap.size w w' from HS.out)
  clear hS he h1 h2 hn hk
  have hle2 : (n : Int) ≤ (k : Int) := by omega
  have hnc : (n : Int) ≤ (c2 : Int) := by omega
  have hn0 : (0 : Int) ≤ (n : Int) := by omega
  go_enter Try.func26, Try.ntmps26
  go_wp2_with (go_at_call 19; (with_reducible refine HS.out.mono ?_); rintro e w9 ⟨rfl, hb9⟩)
  go_ret
  exact ⟨rfl, hb9⟩
end Go.Proofs.Ytdhmkcomngbmaaa

namespace Go.Proofs.Ytdhmkcomngbmaaa
open Go.RowKit

/-- A line's block: two ends, no rows. -/
def z15 (x y : LEnd) : Array Value := #[.int .i64 x.ep, .int .i64 x.ot, .int .i64 x.fi, .slice none 0 0, .int .i64 x.wa, .int .i64 y.ep, .int .i64 y.ot, .int .i64 y.fi, .slice none 0 0, .int .i64 y.wa, .slice none 0 0, .slice none 0 0, .slice none 0 0, .slice none 0 0, .slice none 0 0]
def nil15 : LnM := ⟨fun _ => none, fun _ => 0, fun _ => .slice none 0 0⟩
theorem line_nil {H : Nat} {w : World} (h : w.heap[H]? = some (.cells (z15 (LEnd.new_ 3) (LEnd.new_ 4)) 61 (0, 0))) : LnAt w.heap.size H w lineNew nil15 where
  blk := h
  lo := heap_lt h
  net := World.ownsRow_nil _ _ _ _
  put := fun _ _ => World.ownsRow_nil _ _ _ _
  came := fun _ _ => World.ownsRow_nil _ _ _ _
  out := fun _ _ => ⟨.inl rfl, fun _ => rfl, Nat.le_refl _⟩
  ins := fun _ _ a ha => by cases ha
  dj := fun i j _ _ _ g e => by cases e
  off := fun i j _ _ g a e => by cases e
theorem z15_row {w : World} {H : Nat} {x y : LEnd} (h : w.heap[H]? = some (.cells (z15 x y) 61 (0, 0))) :
    w.cell? ⟨H, 0, none⟩ = some (.int .i64 x.ep) ∧ w.cell? ⟨H, 1, none⟩ = some (.int .i64 x.ot) ∧ w.cell? ⟨H, 2, none⟩ = some (.int .i64 x.fi) ∧ w.cell? ⟨H, 3, none⟩ = some (.slice none 0 0) ∧ w.cell? ⟨H, 4, none⟩ = some (.int .i64 x.wa) ∧
    w.cell? ⟨H, 5, none⟩ = some (.int .i64 y.ep) ∧ w.cell? ⟨H, 6, none⟩ = some (.int .i64 y.ot) ∧ w.cell? ⟨H, 7, none⟩ = some (.int .i64 y.fi) ∧ w.cell? ⟨H, 8, none⟩ = some (.slice none 0 0) ∧ w.cell? ⟨H, 9, none⟩ = some (.int .i64 y.wa) :=
  have hc := Lib.cell_of_heap h
  ⟨hc 0, hc 1, hc 2, hc 3, hc 4, hc 5, hc 6, hc 7, hc 8, hc 9⟩
theorem z15_set0 {w : World} {H : Nat} {x y : LEnd} (h : w.heap[H]? = some (.cells (z15 x y) 61 (0, 0))) (z : LEnd) : (endSet w H 0 1 2 3 4 z none 0).heap[H]? = some (.cells ((((((z15 x y).setIfInBounds 0 (.int .i64 z.ep)).setIfInBounds 1 (.int .i64 z.ot)).setIfInBounds 2 (.int .i64 z.fi)).setIfInBounds 3 (.slice none z.out.length 0)).setIfInBounds 4 (.int .i64 z.wa)) 61 (0, 0)) := endSet_heap h 0 1 2 3 4 z none 0
theorem z15_new0 {w : World} {H : Nat} {x y : LEnd} (h : w.heap[H]? = some (.cells (z15 x y) 61 (0, 0))) (n : Int) : (endSet w H 0 1 2 3 4 (LEnd.new_ n) none 0).heap[H]? = some (.cells (z15 (LEnd.new_ n) y) 61 (0, 0)) := z15_set0 h _
theorem z15_new1 {w : World} {H : Nat} {x y : LEnd} (h : w.heap[H]? = some (.cells (z15 x y) 61 (0, 0))) (n : Int) : (endSet w H 5 6 7 8 9 (LEnd.new_ n) none 0).heap[H]? = some (.cells (z15 x (LEnd.new_ n)) 61 (0, 0)) := endSet_heap h 5 6 7 8 9 _ none 0

set_option maxHeartbeats 1000000 in
set_option maxRecDepth 100000 in
theorem line_any (w : World) :
    Calls Try.prog 24 #[] w fun e w' => ∃ H m, e = .returned (.tuple #[.pointer (some ⟨H, 0, none⟩), .bool true]) ∧ w.heap.size ≤ H ∧ LnAt w'.heap.size H w' lineNew m ∧ Below w.heap.size w w' := by
  obtain ⟨V, hV⟩ : ∃ V, V = w.alloc (.cells (z15 ⟨0, 0, 0, 0, []⟩ ⟨0, 0, 0, 0, []⟩) 61) := ⟨_, rfl⟩
  have HZ : Hid (V.heap[w.heap.size]? = some (.cells (z15 ⟨0, 0, 0, 0, []⟩ ⟨0, 0, 0, 0, []⟩) 61 (0, 0))) := Lib.hid (by rw [hV]; exact heap_new _ _)
  have HBV : Hid (Below w.heap.size w V) := Lib.hid (by rw [hV]; exact below_one _ _)
  unfold z15 at hV
  dsimp only at hV
  have HV := Lib.hid hV
  have HN1 := Lib.hid (fun W => New_ok 3 W (by omega))
  have HN2 := Lib.hid (fun W => New_ok 4 W (by omega))
  have hne : ∀ (k : Nat), w.heap.size < k → w.heap.size ≠ k := fun k h => by omega
  clear hV
  go_enter Try.func24, Try.ntmps24
  go_wp2_with fail
  rw [← HV.out]
  refine wp_loop_rounds 3 ?_
  rw [rounds_succ]
  go_upto_region 9 with (go_at_call 23; (with_reducible refine (HN1.out _).mono ?_); rintro e w2 ⟨rfl, hb2⟩; dsimp only [LEnd.val, LEnd.new_, List.length_nil]; have HZ2 := Lib.hid ((hb2.block w.heap.size (heap_lt HZ.out)).trans HZ.out); have HB2 := Lib.hid (HBV.out.trans (hb2.mono HBV.out.size)); have hl2 := heap_lt HZ2.out; obtain ⟨x0, x1, x2, x3, x4, x5, x6, x7, x8, x9⟩ := z15_row HZ2.out; have xf := Lib.frozen_of_heap HZ2.out; have hne2 := hne _ hl2; clear hb2)
  have HYr := Lib.hid ((below_one (endSet w2 w.heap.size 0 1 2 3 4 (LEnd.new_ 3) none 0) (.cells #[.int .i64 3, .int .i64 0, .int .i64 1, .slice none 0 0, .int .i64 1] 24)).block w.heap.size (by rw [endSet_size]; exact hl2) |>.trans (z15_new0 HZ2.out 3))
  have HYb := Lib.hid ((below_endSet HB2.out (Nat.le_refl _) 0 1 2 3 4 (LEnd.new_ 3) none 0).alloc (by rw [endSet_size]; exact HB2.out.size) (.cells #[.int .i64 3, .int .i64 0, .int .i64 1, .slice none 0 0, .int .i64 1] 24))
  unfold endSet LEnd.new_ at HYr HYb
  dsimp only [List.length_nil] at HYr HYb
  generalize ((((((w2.setCell ⟨w.heap.size, 0, none⟩ (.int .i64 3)).setCell ⟨w.heap.size, 1, none⟩ (.int .i64 0)).setCell ⟨w.heap.size, 2, none⟩ (.int .i64 1)).setCell ⟨w.heap.size, 3, none⟩ (.slice none 0 0)).setCell ⟨w.heap.size, 4, none⟩ (.int .i64 1)).alloc (.cells #[.int .i64 3, .int .i64 0, .int .i64 1, .slice none 0 0, .int .i64 1] 24)) = Y at HYr HYb ⊢
  clear x0 x1 x2 x3 x4 x5 x6 x7 x8 x9 xf hne2 hl2 HZ2 HB2 HZ HBV
  go_wp2_with fail
  rw [rounds_succ]
  go_upto_region 9 with (go_at_call 23; (with_reducible refine (HN2.out _).mono ?_); rintro e w4 ⟨rfl, hb4⟩; dsimp only [LEnd.val, LEnd.new_, List.length_nil]; have HZ4 := Lib.hid ((hb4.block w.heap.size (heap_lt HYr.out)).trans HYr.out); have HB4 := Lib.hid (HYb.out.trans (hb4.mono HYb.out.size)); have hl4 := heap_lt HZ4.out; obtain ⟨x0, x1, x2, x3, x4, x5, x6, x7, x8, x9⟩ := z15_row HZ4.out; have xf := Lib.frozen_of_heap HZ4.out; have hne4 := hne _ hl4; clear hb4)
  have HWr := Lib.hid ((below_one (endSet w4 w.heap.size 5 6 7 8 9 (LEnd.new_ 4) none 0) (.cells #[.int .i64 4, .int .i64 0, .int .i64 1, .slice none 0 0, .int .i64 1] 24)).block w.heap.size (by rw [endSet_size]; exact hl4) |>.trans (z15_new1 HZ4.out 4))
  have HWb := Lib.hid ((below_endSet HB4.out (Nat.le_refl _) 5 6 7 8 9 (LEnd.new_ 4) none 0).alloc (by rw [endSet_size]; exact HB4.out.size) (.cells #[.int .i64 4, .int .i64 0, .int .i64 1, .slice none 0 0, .int .i64 1] 24))
  have HLn := Lib.hid (line_nil HWr.out)
  clear HWr
  unfold endSet LEnd.new_ at HLn HWb
  dsimp only [List.length_nil] at HLn HWb
  generalize ((((((w4.setCell ⟨w.heap.size, 5, none⟩ (.int .i64 4)).setCell ⟨w.heap.size, 6, none⟩ (.int .i64 0)).setCell ⟨w.heap.size, 7, none⟩ (.int .i64 1)).setCell ⟨w.heap.size, 8, none⟩ (.slice none 0 0)).setCell ⟨w.heap.size, 9, none⟩ (.int .i64 1)).alloc (.cells #[.int .i64 4, .int .i64 0, .int .i64 1, .slice none 0 0, .int .i64 1] 24)) = W at HLn HWb ⊢
  clear x0 x1 x2 x3 x4 x5 x6 x7 x8 x9 xf hne4 hl4 HZ4 HB4 HYr HYb
  go_wp2_with fail
  rw [rounds_succ]
  go_wp2_with fail
  exact bodyPost_ret (v := .tuple #[.pointer (some ⟨w.heap.size, 0, none⟩), .bool true]) (by simp [results, Try.results24, go_sem]) rfl ⟨_, _, rfl, Nat.le_refl _, HLn.out, HWb.out⟩
end Go.Proofs.Ytdhmkcomngbmaaa
