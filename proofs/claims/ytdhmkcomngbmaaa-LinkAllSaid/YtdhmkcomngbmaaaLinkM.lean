/- The laws of link: small contracts (Small, few, ref, New, the fixed answer); what is compared. -/
import Derived.Test.YtdhmkcomngbmaaaLinkK
namespace Go.Proofs.Ytdhmkcomngbmaaa
open Go.RowKit

set_option maxHeartbeats 800000 in
theorem Small15_any (A : Option Addr) (c n many bytes : Nat) (xs : List (List UInt8)) (w : World) (hl : xs.length = n) (hn : n ≤ maxLen) (hm : many ≤ 1073741824) (hby : bytes ≤ 1073741824) (hx : ∀ x ∈ xs, x.length ≤ maxLen) (h : Strs w w.heap.size A xs) :
    Calls Try.prog 31 #[.slice A n c, .int .i64 many, .int .i64 bytes] w fun e w' => e = .returned (.bool (small xs many bytes)) ∧ w = w' := by
  have HL := Lib.hid hl
  clear hl
  unfold maxLen at hn
  by_cases hbig : many < n
  · have HS : Hid (small xs many bytes = false) := Lib.hid (by unfold small; rw [HL.out]; simp; omega)
    go_enter Try.func31, Try.ntmps31
    go_wp2
    go_ret
    rw [HS.out]
    exact ⟨rfl, rfl⟩
  · go_enter Try.func31, Try.ntmps31
    go_wp2
    go_loop [7, 8] (fun z i => ∃ k t : Nat, k ≤ n ∧ i = .int .i64 k ∧ z = .int .i64 t ∧ t ≤ bytes ∧ Hid (t = total (xs.take k))) (fun _ i => n - (intOf i).toNat)
    case atStart => exact ⟨0, 0, by omega, rfl, rfl, by omega, Lib.hid (by simp [total])⟩
    case round =>
      obtain ⟨k, t, hk, rfl, rfl, htb, HT⟩ := hrel
      by_cases hlt : k < n
      · have hkl : k < xs.length := by rw [HL.out]; exact hlt
        obtain ⟨xb, xo, rfl, hxb, hc⟩ := h.at_ hkl
        have hxm := hx _ (List.getElem_mem hkl)
        have HT2 := Lib.hid (total_take hkl)
        have hle := total_take_le xs (k + 1)
        generalize xs[k] = x at hc hxm HT2
        have hi0 : (0 : Int) ≤ (k : Int) := by omega
        have hi1 : (k : Int) < (n : Int) := by omega
        unfold txt at hc
        unfold maxLen at hxm
        have hxs : (str x).size = x.length := str_size x
        by_cases hov : bytes < x.length
        · have HS : Hid (small xs many bytes = false) := Lib.hid (by have := HT2.out; unfold small; simp; omega)
          have hb : bytes < (str x).size := by omega
          clear hxs hkl hle hov hx
          go_wp2
          go_ret
          rw [HS.out]
          exact ⟨rfl, rfl⟩
        · have hb : (str x).size ≤ bytes := by omega
          by_cases hov2 : bytes < t + x.length
          · have HS : Hid (small xs many bytes = false) := Lib.hid (by have := HT2.out; have := HT.out; unfold small; simp; omega)
            have hb2 : bytes < t + (str x).size := by omega
            clear hxs hkl hle hov hov2 hx
            go_wp2
            go_ret
            rw [HS.out]
            exact ⟨rfl, rfl⟩
          · have hb2 : t + (str x).size ≤ bytes := by omega
            have HT3 : Hid (t + (str x).size = total (xs.take (k + 1))) := Lib.hid (by rw [HT2.out, HT.out, hxs])
            clear hxs hkl hle hov hov2 hx
            go_wp2
            go_round
            case rel => exact ⟨k + 1, t + (str x).size, by omega, by go_num, by go_num, hb2, HT3⟩
            case measure => simp [intOf]; omega
      · have HS : Hid (small xs many bytes = true) := Lib.hid (by
          have e : xs.take k = xs := List.take_of_length_le (by rw [HL.out]; omega)
          have := HT.out
          rw [e] at this
          have := HL.out
          unfold small; simp; omega)
        clear hx
        go_wp2
        go_ret
        rw [HS.out]
        exact ⟨rfl, rfl⟩


theorem wp_region_in15 {P : Program} {id : Nat} {Q : Exit → Act → World → Prop} {a : Act} {V w : World} {l : List Oper} (hw : Below V.heap.size V w) (hm : P.follows .mixedOrders = true) (hB : Region.lexB .any l.toArray = true)
    (h : wpQuiet P l.toArray (fun w' => ∃ p : LatW V, w' = p.wd) (fun a' => ∀ w', (∃ p : LatW V, w' = p.wd) → Q .normal a' w') l a) : (Code.region id l.toArray true).wp P Q a w :=
  wp_region_quiet (C := fun w' => ∃ p : LatW V, w' = p.wd) hm hB ⟨⟨w.drew, hw.drew⟩, rfl⟩ (by simpa using h)

def fewB (x : LEnd) : Bool := small x.out 100 131072
theorem few_any (x : LEnd) (A : Option Addr) (c : Nat) (w : World) (h : Strs w w.heap.size A x.out) (hl : x.out.length ≤ maxLen) (hx : ∀ p ∈ x.out, p.length ≤ maxLen) :
    Calls Try.prog 10 #[x.val A c] w fun e w' => e = .returned (.bool (fewB x)) ∧ Below w.heap.size w w' := by
  have hb := below_one w (.cells #[.int .i64 x.ep, .int .i64 x.ot, .int .i64 x.fi, .slice A x.out.length c, .int .i64 x.wa] 24)
  have HS := Lib.hid (Small15_any A c x.out.length 100 131072 x.out _ rfl hl (by omega) (by omega) hx (h.next hb))
  have HB := Lib.hid hb
  rw [show small x.out 100 131072 = fewB x from rfl] at HS
  generalize fewB x = r at *
  clear h hl hx hb
  obtain ⟨ep, ot, fi, wa, out⟩ := x
  unfold LEnd.val
  simp only at HS HB ⊢
  generalize out.length = n at *
  go_enter Try.func10, Try.ntmps10
  go_wp2_with (go_at_call 31; refine HS.out.mono ?_; rintro e w' ⟨rfl, rfl⟩)
  go_ret
  exact ⟨rfl, HB.out⟩
theorem ref_any (x : LEnd) (A : Option Addr) (c : Nat) (w : World) :
    Calls Try.prog 16 #[x.val A c] w fun e w' => e = .returned (x.rval A c) ∧ Below w.heap.size w w' := by
  obtain ⟨ep, ot, fi, wa, out⟩ := x
  unfold LEnd.val LEnd.rval
  simp only
  generalize out.length = n at *
  go_enter Try.func16, Try.ntmps16
  go_wp2_with fail
  exact bodyPost_ret (v := .agg #[.int .i64 ep, .int .i64 ot, .int .i64 fi, .int .i64 wa, .slice A n c]) (by simp [results, Try.results16, go_sem]) rfl ⟨rfl, below_news _ _ _⟩

def LEnd.new_ (n : Int) : LEnd := ⟨n, 0, 1, 1, []⟩
theorem New_ok (n : Int) (w : World) (h : 1 ≤ n ∧ n ≤ 1099511627776) :
    Calls Try.prog 23 #[.int .i64 n] w fun e w' => e = .returned (.tuple #[(LEnd.new_ n).val none 0, .int .i64 0]) ∧ Below w.heap.size w w' := by
  have G := Lib.hid ((isN_iff n).2 h)
  go_enter Try.func23, Try.ntmps23
  go_wp2_with (go_at_call 36; refine (isNum_any _ _).mono ?_; rw [G.out]; rintro e w9 ⟨rfl, hw9⟩; subst hw9)
  exact bodyPost_ret (v := .tuple #[.agg #[.int .i64 n, .int .i64 0, .int .i64 1, .slice none 0 0, .int .i64 1], .int .i64 0]) (by simp [results, Try.results23, go_sem]) rfl ⟨rfl, below_one _ _⟩
theorem New_no (n : Int) (w : World) (h : ¬ (1 ≤ n ∧ n ≤ 1099511627776)) :
    Calls Try.prog 23 #[.int .i64 n] w fun e w' => e = .returned (.tuple #[LEnd.none_.val none 0, .int .i64 1]) ∧ Below w.heap.size w w' := by
  have G : Hid (isN n = false) := Lib.hid (by rw [Bool.eq_false_iff]; exact fun e => h ((isN_iff n).1 e))
  go_enter Try.func23, Try.ntmps23
  go_wp2_with (go_at_call 36; refine (isNum_any _ _).mono ?_; rw [G.out]; rintro e w9 ⟨rfl, hw9⟩; subst hw9)
  exact bodyPost_ret (v := .tuple #[.agg #[.int .i64 0, .int .i64 0, .int .i64 0, .slice none 0 0, .int .i64 0], .int .i64 1]) (by simp [results, Try.results23, go_sem]) rfl ⟨rfl, below_one _ _⟩
theorem new_ok15 {n : Int} (h : 1 ≤ n ∧ n ≤ 1099511627776) : (LEnd.new_ n).Ok := ⟨h.1, h.2, by show (0 : Int) ≤ 0; omega, by show (0 : Int) ≤ _; omega, by show (1 : Int) ≤ 1; omega, by show (1 : Int) ≤ _; omega, by show (1 : Int) ≤ 1; omega, by show (1 : Int) ≤ _; omega, by simp [LEnd.new_], fun p hp => by cases hp⟩

set_option maxHeartbeats 1000000 in
set_option maxRecDepth 100000 in
theorem awake15_any (w : World) : Calls Try.prog 11 #[] w fun e w' => e = .returned (.bool true) ∧ Below w.heap.size w w' := by
  have hok : (LEnd.new_ 1).Ok := new_ok15 ⟨by omega, by omega⟩
  have hpe : putE15 (LEnd.new_ 1) [97] = 0 := by decide
  have HP := Lib.hid (fun W => LPut_yes (LEnd.new_ 1) none 0 [97] W (.inl rfl) (fun _ => rfl) hok hpe)
  have hok2 : (putX (LEnd.new_ 1) [97]).Ok := (put_stays hok hpe).1
  have HT := Lib.hid (fun A c W h => LTick_ok (putX (LEnd.new_ 1) [97]) A c W h hok2)
  have hsl : (putS (LEnd.new_ 1) [97]).length = 40 := by
    unfold putS
    rw [if_pos (by simp [LEnd.new_])]
    unfold pktB
    rw [frameOf_length, pktL_length]; rfl
  have htl : (tickL (putX (LEnd.new_ 1) [97])).length = 1 := by rw [tickL_len15]; rfl
  have hol : (putX (LEnd.new_ 1) [97]).out.length = 1 := rfl
  obtain ⟨hn1, hn2, hn3, hn4, hn5⟩ : (putX (LEnd.new_ 1) [97]).ep = 1 ∧ (putX (LEnd.new_ 1) [97]).ot = 0 ∧ (putX (LEnd.new_ 1) [97]).fi = 1 ∧ (putX (LEnd.new_ 1) [97]).wa = 1 ∧ True := ⟨rfl, rfl, rfl, rfl, trivial⟩
  clear hok hpe hok2
  generalize putX (LEnd.new_ 1) [97] = y at *
  generalize putS (LEnd.new_ 1) [97] = s at *
  have hsz : ((str s).size : Int) = 40 := by rw [str_size, hsl]; rfl
  unfold EndErr EndIs at HP
  unfold TxtsIs at HT
  simp only [LEnd.val, LEnd.new_, List.length_nil, hol, hn1, hn2, hn3, hn4] at HP
  simp only [LEnd.val, htl, hol, hn1, hn2, hn3, hn4] at HT
  clear hol hn1 hn2 hn3 hn4 hn5 htl hsl
  go_enter Try.func11, Try.ntmps11
  go_wp2_with fail
  refine (New_ok 1 _ ⟨by omega, by omega⟩).mono ?_
  rintro e w1 ⟨rfl, hb1⟩
  simp only [LEnd.val, LEnd.new_, List.length_nil]
  have HF1 := Five.new w1 (.int .i64 1) (.int .i64 0) (.int .i64 1) (.slice none 0 0) (.int .i64 1) 24
  have HB1 := Lib.hid (below_next hb1 (below_one w1 (.cells #[.int .i64 1, .int .i64 0, .int .i64 1, .slice none 0 0, .int .i64 1] 24)))
  clear hb1
  go_wp2_with fail
  refine (HP.out _).mono ?_
  rintro e w2 ⟨v, rfl, A2, c2, rfl, hs2, hn2, hc2, hb2⟩
  have HF1 := Lib.hid (HF1.below hb2)
  have HB2 := Lib.hid (below_next HB1.out hb2)
  have HS2 := Lib.hid hs2
  have HF2 := Lib.hid (Five.new w2 (.int .i64 1) (.int .i64 0) (.int .i64 1) (.slice A2 1 c2) (.int .i64 1) 24)
  have HT2 := Lib.hid (HT.out A2 c2 _ (HS2.out.next (below_one w2 (.cells #[.int .i64 1, .int .i64 0, .int .i64 1, .slice A2 1 c2, .int .i64 1] 24))))
  have hX1 := HF1.out.below (below_one w2 (.cells #[.int .i64 1, .int .i64 0, .int .i64 1, .slice A2 1 c2, .int .i64 1] 24))
  clear hs2 hn2 hc2 hb2 HP HT
  go_upto_region 3 with fail
  obtain ⟨W3, hW3⟩ : ∃ W3, w2.alloc (.cells #[.int .i64 1, .int .i64 0, .int .i64 1, .slice A2 1 c2, .int .i64 1] 24) = W3 := ⟨_, rfl⟩
  rw [hW3] at HF2 HT2 hX1
  rw [hW3]
  have HB3 : Hid (Below w.heap.size w W3) := Lib.hid (by rw [← hW3]; exact below_next HB2.out (below_one _ _))
  clear hW3
  have x4 := hX1.c4
  have y0 := HF2.out.c0
  have y1 := HF2.out.c1
  have y2 := HF2.out.c2
  have y3 := HF2.out.c3
  have y4 := HF2.out.c4
  go_wp2_with fail
  refine HT2.out.mono ?_
  rintro e w3 ⟨A3, c3, rfl, hs3, hn3, hc3, hb3⟩
  clear x4 y0 y1 y2 y3 y4
  go_wp2_with fail
  go_ret
  exact ⟨rfl, below_next HB3.out hb3⟩

/-! ### Two answers compared -/
set_option maxRecDepth 100000 in
theorem eqlIn_came (a b : ByteArray) (h r : Bool) (w : World) : (Op.equalIn 10000 42 (.agg #[.string a, .bool h, .string b, .bool r]) (.agg #[.string a, .bool h, .string b, .bool r])).run Try.prog w = .ok true w := by
  rw [run_equalIn_struct w 9999 42 _ _ (by kernel_rfl) (by kernel_rfl)]
  have hf : (Try.prog.fieldsOf 42).toList.map (fun f => (f.name, f.type, f.offset)) = [("Piece", 9, 0), ("Has", 4, 1), ("Reply", 9, 2), ("Anew", 4, 3)] := by kernel_rfl
  obtain ⟨fs, hfs⟩ : ∃ fs, (Try.prog.fieldsOf 42).toList = fs := ⟨_, rfl⟩
  rw [hfs] at hf ⊢
  match fs, hf with
  | [f1, f2, f3, f4], hf =>
    simp only [List.map_cons, List.map_nil, List.cons.injEq, Prod.mk.injEq, and_true] at hf
    obtain ⟨⟨a1, a2, a3⟩, ⟨b1, b2, b3⟩, ⟨c1, c2, c3⟩, ⟨d1, d2, d3⟩⟩ := hf
    simp only [Op.eqFields, a1, a2, a3, b1, b2, b3, c1, c2, c3, d1, d2, d3]
    have q1 := run_equalIn_string (P := Try.prog) w 9998 9 a a Try.underlying9
    have q2 := run_equalIn_bool (P := Try.prog) w 9998 4 h h Try.underlying4
    have q3 := run_equalIn_string (P := Try.prog) w 9998 9 b b Try.underlying9
    have q4 := run_equalIn_bool (P := Try.prog) w 9998 4 r r Try.underlying4
    simp only [beq_self_eq_true] at q1 q2 q3 q4
    simp [part, q1, q2, q3, q4, Try.isAgg9, Try.isAgg4, Sem.run_bind, Result.andThen]
theorem eql_came (a b : ByteArray) (h r : Bool) (w : World) : (binOp .eql 42 (.agg #[.string a, .bool h, .string b, .bool r]) (.agg #[.string a, .bool h, .string b, .bool r])).run Try.prog w = .ok (.bool true) w := by
  rw [run_eql_struct, eqlIn_came]; rfl
theorem guard_came (op : BinOp) (x y : Operand) (xs ys : Array Value) (w : World) : (eqGuard op 42 x y (.agg xs) (.agg ys)).run Try.prog w = .ok () w := run_eqGuard_agg w op _ x y xs ys (by kernel_rfl)
end Go.Proofs.Ytdhmkcomngbmaaa
