/- Contract of the document's TakeLine. -/
import Derived.Test.YtkpoeigoocbgeaaMsgB
namespace Go.Proofs.Ytkpoeigoocbgeaa
open Go.RowKit

theorem brsOf_at : ∀ {n : Nat} {r : List UInt8} {k : Nat}, k < n → (brsOf n r)[k]? = some (brOf (r.drop (16 * k)))
  | 0, r, k, h => by omega
  | n + 1, r, 0, h => rfl
  | n + 1, r, k + 1, h => by
    show (brsOf n (r.drop 16))[k]? = _
    rw [brsOf_at (by omega), List.drop_drop]
    congr 3
    omega
theorem brsOf_take {n k : Nat} {r : List UInt8} (h : k < n) : (brsOf n r).take (k + 1) = (brsOf n r).take k ++ [brOf (r.drop (16 * k))] := by
  have hl : k < (brsOf n r).length := by rw [brsOf_length]; exact h
  rw [List.take_succ_eq_append_getElem hl]
  have := brsOf_at (r := r) h
  rw [List.getElem?_eq_getElem hl] at this
  simp only [Option.some.injEq] at this
  rw [this]
theorem atOk_iff (s : List UInt8) (k w : Nat) : atOk s k w = true ↔ k + w ≤ s.length ∧ dec ((s.drop k).take w) < 9223372036854775808 := by unfold atOk; simp
theorem atN_ok {s : List UInt8} {k w : Nat} (h : atOk s k w = true) : atN s k w = dec ((s.drop k).take w) := by unfold atN; rw [if_pos h]
theorem atN_lt (s : List UInt8) (k : Nat) : atN s k 1 < 256 := by
  unfold atN
  split
  · exact dec_take_lt256 _ 1
  · omega
/-- Where a number lacks, or is none, there is no line. -/
theorem ln_none {s : List UInt8} {k : Nat} (h : atOk s k 1 = false) : lnOk (s.drop k) = false := by
  rw [Bool.eq_false_iff]
  intro e
  unfold lnOk at e
  rw [Bool.and_eq_true, decide_eq_true_iff, List.length_drop] at e
  have : atOk s k 1 = true := (atOk_iff _ _ _).2 ⟨by omega, Nat.lt_trans (dec_take_lt256 _ 1) (by omega)⟩
  rw [h] at this
  cases this
theorem drop_mid (s : List UInt8) (k i : Nat) : ((s.drop k).drop 1).drop (16 * i) = s.drop (k + 1 + 16 * i) := by rw [List.drop_drop, List.drop_drop]; congr 1; omega
theorem ln_bad {s : List UInt8} {k i : Nat} (hi : i < lnN (s.drop k)) (h : ¬ (atOk s (k + 1 + 16 * i) 8 = true ∧ atOk s (k + 9 + 16 * i) 8 = true)) : lnOk (s.drop k) = false := by
  rw [Bool.eq_false_iff]
  intro e
  unfold lnOk at e
  rw [Bool.and_eq_true, decide_eq_true_iff, List.length_drop] at e
  obtain ⟨⟨h1, h2⟩, h3⟩ := e
  have hf := (lined_fit h3).1
  have hb := brsOf_at (r := (s.drop k).drop 1) hi
  have hm := hf _ (List.mem_of_getElem? hb)
  rw [drop_mid] at hm
  unfold brOf at hm
  dsimp only at hm
  refine h ⟨(atOk_iff _ _ _).2 ⟨by omega, by omega⟩, (atOk_iff _ _ _).2 ⟨by omega, ?_⟩⟩
  have e2 : (s.drop (k + 1 + 16 * i)).drop 8 = s.drop (k + 9 + 16 * i) := by rw [List.drop_drop]; congr 1; omega
  rw [e2] at hm
  omega
theorem ln_branch {s : List UInt8} {k i : Nat} (h1 : atOk s (k + 1 + 16 * i) 8 = true) (h2 : atOk s (k + 9 + 16 * i) 8 = true) : brOf (((s.drop k).drop 1).drop (16 * i)) = ((atN s (k + 1 + 16 * i) 8 : Int), (atN s (k + 9 + 16 * i) 8 : Int)) := by
  rw [drop_mid, atN_ok h1, atN_ok h2]
  unfold brOf
  have e2 : (s.drop (k + 1 + 16 * i)).drop 8 = s.drop (k + 9 + 16 * i) := by rw [List.drop_drop]; congr 1; omega
  rw [e2]
theorem ln_all {s : List UInt8} {k : Nat} (h0 : k + 1 ≤ s.length) (h : k + 1 + 16 * lnN (s.drop k) ≤ s.length) : lnOk (s.drop k) = lined (lnL (s.drop k)) := by
  unfold lnOk lnL
  rw [decide_eq_true ⟨by rw [List.length_drop]; omega, by rw [List.length_drop]; omega⟩, Bool.true_and]

/-- What TakeLine answers. -/
def LnEnd17 (r : List UInt8) (k : Nat) (w : World) (e : Ending) (w' : World) : Prop :=
  (lnOk r = true ∧ ∃ A c, e = .returned (.tuple #[.slice A (lnN r) c, .int .i64 ((k : Int) + 1 + 16 * (lnN r : Int)), .bool true]) ∧ BrsAt w' w'.heap.size A (lnL r) ∧ Below w.heap.size w w') ∨
  (lnOk r = false ∧ ∃ v i, e = .returned (.tuple #[v, .int .i64 i, .bool false]) ∧ Below w.heap.size w w')
theorem Try.infoBr17 : (Try.prog.info? 76).map (fun i => (i.zero, i.size, i.bytes)) = some (some (.agg #[.int .i64 0, .int .i64 0]), 2, 16) := by kernel_rfl
theorem cell_two17 (w : World) (x y : Value) (t : TypeId) : ∀ j u, [x, y][j]? = some u → (w.alloc (.cells #[x, y] t)).cell? ((⟨w.heap.size, 0, none⟩ : Addr).add j) = some u := by
  intro j u hj
  exact World.news_of_block (cs := #[x, y]) (t := t) (fr := (0, 0)) (heap_new w _) j u (by simpa using hj)

set_option maxHeartbeats 2000000 in
set_option maxRecDepth 100000 in
theorem takeLine17_any (s : List UInt8) (k : Nat) (w : World) (hk : k ≤ 1125899906842624) (hs : s.length ≤ 1152921504606846976) :
    Calls Try.prog 14 #[.string (str s), .int .i64 (k : Int)] w (LnEnd17 (s.drop k) k w) := by
  have HA0 := Lib.hid (at17_any s k 1 w (by omega) (by omega) (by omega) hs)
  rw [show ((1 : Nat) : Int) = 1 from rfl] at HA0
  by_cases h0 : atOk s k 1 = true
  case neg =>
    have h0' : atOk s k 1 = false := by rw [Bool.eq_false_iff]; exact h0
    have HE : Hid (∀ v i w', Below w.heap.size w w' → LnEnd17 (s.drop k) k w (.returned (.tuple #[v, .int .i64 i, .bool false])) w') := Lib.hid (fun v i w' hb => .inr ⟨ln_none h0', v, i, rfl, hb⟩)
    rw [h0'] at HA0
    clear h0 h0'
    go_enter Try.func14, Try.ntmps14
    go_wp2_with (go_at_call 38; (with_reducible refine HA0.out.mono ?_); rintro e w1 ⟨rfl, rfl⟩)
    go_ret3
    exact HE.out _ _ _ (Below.refl _ _)
  have hlen0 := ((atOk_iff _ _ _).1 h0).1
  have hN : atN s k 1 = lnN (s.drop k) := atN_ok h0
  have hn256 : lnN (s.drop k) < 256 := by rw [← hN]; exact atN_lt s k
  rw [h0, hN] at HA0
  have HBad := Lib.hid (fun i (hi : i < lnN (s.drop k)) h => @ln_bad s k i hi h)
  have HBr := Lib.hid (fun i h1 h2 => @ln_branch s k i h1 h2)
  have HAll := Lib.hid (@ln_all s k hlen0)
  have HTk := Lib.hid (fun i (h : i < lnN (s.drop k)) => @brsOf_take (lnN (s.drop k)) i ((s.drop k).drop 1) h)
  have HLl : Hid ((lnL (s.drop k)).length = lnN (s.drop k)) := Lib.hid (brsOf_length _ _)
  have HTa : Hid ((brsOf (lnN (s.drop k)) ((s.drop k).drop 1)).take (lnN (s.drop k)) = lnL (s.drop k)) := Lib.hid (List.take_of_length_le (by rw [brsOf_length]; omega))
  have HAt := Lib.hid (fun (i : Nat) (w : World) (hi : i ≤ 2305843009213693952 / 2) => at17_any s i 8 w (by omega) (by omega) (by omega) hs)
  rw [show ((8 : Nat) : Int) = 8 from rfl] at HAt
  have HY : Hid (lnOk (s.drop k) = true → ∀ A c w', BrsAt w' w'.heap.size A (lnL (s.drop k)) → Below w.heap.size w w' → LnEnd17 (s.drop k) k w (.returned (.tuple #[.slice A (lnN (s.drop k)) c, .int .i64 ((k : Int) + 1 + 16 * (lnN (s.drop k) : Int)), .bool true])) w') := Lib.hid (fun h A c w' h1 h2 => .inl ⟨h, A, c, rfl, h1, h2⟩)
  obtain ⟨n, hn⟩ : ∃ n, lnN (s.drop k) = n := ⟨_, rfl⟩
  rw [hn] at HA0 hn256 HBad HAll HTk HLl HTa HY
  obtain ⟨LL, hLL⟩ : ∃ LL, brsOf n ((s.drop k).drop 1) = LL := ⟨_, rfl⟩
  rw [hLL] at HTk HTa
  obtain ⟨i0, hi0, hz0, hz1, hz2⟩ := info_parts Try.infoBr17
  clear h0 hN hn hLL
  go_enter Try.func14, Try.ntmps14
  go_wp2_with (go_at_call 38; (with_reducible refine HA0.out.mono ?_); rintro e w1 ⟨rfl, rfl⟩)
  go_loopw [9, 10] (fun v i wr => ∃ (j : Nat) (A' : Option Addr) (c' : Nat), j ≤ n ∧ i = .int .i64 j ∧ v = .slice A' j c' ∧ Hid (j = 0 ∨ k + 1 + 16 * j ≤ s.length) ∧ Hid (wr.ownsRow w.heap.size 76 2 (.slice A' j c') j (brCells (LL.take j))) ∧ Hid (Below w.heap.size w wr)) (fun _ i _ => n - (intOf i).toNat)
  case atStart => exact ⟨0, none, 0, by omega, rfl, rfl, Lib.hid (.inl rfl), Lib.hid (World.ownsRow_nil _ _ _ _), Lib.hid (Below.refl _ _)⟩
  case round =>
    obtain ⟨j, A', c', hj, rfl, rfl, HR, HO, HB⟩ := hrel
    have hwz : w.heap.size ≤ wr.heap.size := HB.out.size
    by_cases hjn : j < n
    · have hjn2 : (j : Int) < (n : Int) := by omega
      have w1 : IntKind.i64.wrap ((k : Int) + 1) = (k : Int) + 1 := by rw [IntKind.wrap_i64]; omega
      have w2 : IntKind.i64.wrap (16 * (j : Int)) = 16 * (j : Int) := by rw [IntKind.wrap_i64]; omega
      have w3 : IntKind.i64.wrap ((k : Int) + 1 + 16 * (j : Int)) = ((k + 1 + 16 * j : Nat) : Int) := by rw [IntKind.wrap_i64]; omega
      have w4 : IntKind.i64.wrap ((k : Int) + 9) = (k : Int) + 9 := by rw [IntKind.wrap_i64]; omega
      have w5 : IntKind.i64.wrap ((k : Int) + 9 + 16 * (j : Int)) = ((k + 9 + 16 * j : Nat) : Int) := by rw [IntKind.wrap_i64]; omega
      have HA1 := Lib.hid (HAt.out (k + 1 + 16 * j) wr (by omega))
      have HA2 := Lib.hid (HAt.out (k + 9 + 16 * j) wr (by omega))
      have HBj := Lib.hid (HBad.out j hjn)
      have HBr2 := Lib.hid (HBr.out j)
      have HTj := Lib.hid (HTk.out j hjn)
      have hof : atOk s (k + 9 + 16 * j) 8 = true → k + 1 + 16 * (j + 1) ≤ s.length := fun h => by have := ((atOk_iff _ _ _).1 h).1; omega
      have HOf := Lib.hid hof
      obtain ⟨n1, hn1⟩ : ∃ x, atN s (k + 1 + 16 * j) 8 = x := ⟨_, rfl⟩
      obtain ⟨n2, hn2⟩ : ∃ x, atN s (k + 9 + 16 * j) 8 = x := ⟨_, rfl⟩
      rw [hn1] at HA1
      rw [hn2] at HA2
      rw [hn1, hn2] at HBr2
      obtain ⟨K1, hK1⟩ : ∃ x, k + 1 + 16 * j = x := ⟨_, rfl⟩
      obtain ⟨K2, hK2⟩ : ∃ x, k + 9 + 16 * j = x := ⟨_, rfl⟩
      rw [hK1] at HA1 HBj HBr2 w3
      rw [hK2] at HA2 HBj HBr2 HOf w5
      clear hn1 hn2 hof hK1 hK2
      by_cases o1 : atOk s K1 8 = true
      case neg =>
        have o1' : atOk s K1 8 = false := by rw [Bool.eq_false_iff]; exact o1
        have HE := Lib.hid (HBj.out (fun e => o1 e.1))
        rw [o1'] at HA1
        clear o1 o1'
        cases o2 : atOk s K2 8 <;> rw [o2] at HA2 <;> clear o2 <;> (
          go_wp2_with (first | (go_at_call 38; (with_reducible refine HA1.out.mono ?_); rintro e w9 ⟨rfl, rfl⟩) | (go_at_call 38; (with_reducible refine HA2.out.mono ?_); rintro e w9 ⟨rfl, rfl⟩))
          go_ret3
          exact .inr ⟨HE.out, _, _, rfl, HB.out⟩)
      by_cases o2 : atOk s K2 8 = true
      case neg =>
        have o2' : atOk s K2 8 = false := by rw [Bool.eq_false_iff]; exact o2
        have HE := Lib.hid (HBj.out (fun e => o2 e.2))
        rw [o1] at HA1
        rw [o2'] at HA2
        clear o1 o2 o2'
        go_wp2_with (first | (go_at_call 38; (with_reducible refine HA1.out.mono ?_); rintro e w9 ⟨rfl, rfl⟩) | (go_at_call 38; (with_reducible refine HA2.out.mono ?_); rintro e w9 ⟨rfl, rfl⟩))
        go_ret3
        exact .inr ⟨HE.out, _, _, rfl, HB.out⟩
      have HLen := Lib.hid (HOf.out o2)
      have HEq := Lib.hid (HBr2.out o1 o2)
      rw [o1] at HA1
      rw [o2] at HA2
      have HCs : Hid (brCells (LL.take (j + 1)) = brCells (LL.take j) ++ [.int .i64 (n1 : Int), .int .i64 (n2 : Int)]) := Lib.hid (by rw [HTj.out, brCells_append, HEq.out]; rfl)
      have HNew := Lib.hid (cell_two17 wr (.int .i64 (n1 : Int)) (.int .i64 (n2 : Int)) 76)
      have HB3 := Lib.hid (HB.out.alloc hwz (.cells #[.int .i64 (n1 : Int), .int .i64 (n2 : Int)] 76))
      have HO3 := Lib.hid (HO.out.alloc (.cells #[.int .i64 (n1 : Int), .int .i64 (n2 : Int)] 76))
      clear o1 o2
      go_wp2_with (first
        | (go_at_call 38; (with_reducible refine HA1.out.mono ?_); rintro e w9 ⟨rfl, rfl⟩)
        | (go_at_call 38; (with_reducible refine HA2.out.mono ?_); rintro e w9 ⟨rfl, rfl⟩)
        | (at_builtin; refine wpList_append_lies _ rfl (.tmp 54) (.tmp 58) 22 rfl w.heap.size 76 i0 (.agg #[.int .i64 0, .int .i64 0]) 2 16 Try.underlying22 hi0 hz0 hz1 hz2 rfl (by decide) (.slice A' j c') j (brCells (LL.take j)) rfl HO3.out ⟨wr.heap.size, 0, none⟩ 1 1 [.int .i64 (n1 : Int), .int .i64 (n2 : Int)] rfl rfl HNew.out (by simp [Value.oneCell']) (by omega) ?d1 ?d2 HB3.out.size _ rfl ?_))
      case d1 => unfold maxLen; omega
      case d2 => omega
      intro g cap w7 hown hg7 _ _
      have HB7 := Lib.hid (HB3.out.grown hg7 HB3.out.size (fun q hq => (HO3.out.lt q hq).1))
      rw [← HCs.out] at hown
      have HO7 := Lib.hid hown
      clear hown hg7
      go_wp2_with fail
      go_roundw
      case rel => exact ⟨j + 1, some ⟨g, 0, none⟩, cap, by omega, by go_num, rfl, Lib.hid (.inr HLen.out), HO7, HB7⟩
      case measure => simp [intOf]; omega
    · obtain rfl : j = n := by omega
      have hjn2 : ¬ (j : Int) < (j : Int) := by omega
      have w1 : IntKind.i64.wrap ((k : Int) + 1) = (k : Int) + 1 := by rw [IntKind.wrap_i64]; omega
      have w2 : IntKind.i64.wrap (16 * (j : Int)) = 16 * (j : Int) := by rw [IntKind.wrap_i64]; omega
      have w3 : IntKind.i64.wrap ((k : Int) + 1 + 16 * (j : Int)) = (k : Int) + 1 + 16 * (j : Int) := by rw [IntKind.wrap_i64]; omega
      have hall := HAll.out (by rcases HR.out with h | h <;> omega)
      have hown := HO.out
      rw [HTa.out] at hown
      obtain ⟨A9, c9, he9, _, hl9⟩ := own_lies hown
      simp only [Value.slice.injEq] at he9
      obtain ⟨rfl, _, rfl⟩ := he9
      have hba := BrsAt.of_lies hl9
      have HBa := Lib.hid hba
      have hln := lined17_any (c := c') hba (by rw [HLl.out]; omega)
      rw [HLl.out, ← hall] at hln
      have HLn := Lib.hid hln
      clear hall hown hl9 hba hln
      cases hok : lnOk (s.drop k) with
      | true =>
        have HOk := Lib.hid hok
        rw [hok] at HLn
        clear hok
        go_wp2_with (go_at_call 11; (with_reducible refine HLn.out.mono ?_); rintro e w9 ⟨rfl, hb9⟩; have HB9 := Lib.hid hb9; clear hb9)
        go_ret3
        exact HY.out HOk.out A' c' _ (HBa.out.next HB9.out) (below_next HB.out HB9.out)
      | false =>
        have HOk := Lib.hid hok
        rw [hok] at HLn
        clear hok
        go_wp2_with (go_at_call 11; (with_reducible refine HLn.out.mono ?_); rintro e w9 ⟨rfl, hb9⟩; have HB9 := Lib.hid hb9; clear hb9)
        go_ret3
        exact .inr ⟨HOk.out, _, _, rfl, below_next HB.out HB9.out⟩
end Go.Proofs.Ytkpoeigoocbgeaa
