/- Folded writes: contracts of the document's less, Equal, Bytes and SameMarks; of Bytes and Folded. -/
import Derived.Test.YtpmllckfijfehaaFoldD
import Derived.Test.YtpmllckfijfehaaVolN
namespace Go.Proofs.Ytpmllckfijfehaa
open Go.Shelf Go.RowKit Go.Lib Go.Sort

set_option maxHeartbeats 1000000 in
set_option maxRecDepth 100000 in
theorem less_any (x y : Wr) (W : World) : Calls Try.prog 44 #[.agg #[.int .i64 x.vol, .int .i64 x.block, .string x.data], .agg #[.int .i64 y.vol, .int .i64 y.block, .string y.data]] W fun e w' => e = .returned (.bool (ltW x y)) ∧ ∃ q os', w' = grow (W.drewN q) os' := by
  obtain ⟨v1, b1, s1⟩ := x
  obtain ⟨v2, b2, s2⟩ := y
  simp only
  by_cases h1 : v1 < v2
  · rw [show ltW ⟨v1, b1, s1⟩ ⟨v2, b2, s2⟩ = true from by rw [ltW_iff]; exact Or.inl h1]
    go_enter Try.func44, Try.ntmps44
    go_wp2
    go_ret
    exact ⟨rfl, 0, _, by rw [alloc_eq_grow, alloc_eq_grow, grow_grow]; rfl⟩
  · by_cases h2 : v1 = v2
    · subst h2
      by_cases h3 : b1 < b2
      · rw [show ltW ⟨v1, b1, s1⟩ ⟨v1, b2, s2⟩ = true from by rw [ltW_iff]; exact Or.inr ⟨rfl, h3⟩]
        go_enter Try.func44, Try.ntmps44
        go_wp2
        go_ret
        exact ⟨rfl, 0, _, by rw [alloc_eq_grow, alloc_eq_grow, grow_grow]; rfl⟩
      · rw [show ltW ⟨v1, b1, s1⟩ ⟨v1, b2, s2⟩ = false from by rw [ltW_not]; simp only; omega]
        go_enter Try.func44, Try.ntmps44
        go_wp2
        go_ret
        exact ⟨rfl, 0, _, by rw [alloc_eq_grow, alloc_eq_grow, grow_grow]; rfl⟩
    · rw [show ltW ⟨v1, b1, s1⟩ ⟨v2, b2, s2⟩ = false from by rw [ltW_not]; simp only; omega]
      have h2' : (v1 == v2) = false := by rw [beq_eq_false_iff_ne]; exact h2
      go_enter Try.func44, Try.ntmps44
      go_wp2
      go_ret
      exact ⟨rfl, 0, _, by rw [alloc_eq_grow, alloc_eq_grow, grow_grow]; rfl⟩

/-- The same writes? -/
noncomputable def eqW (a b : List Wr) : Bool := @decide (a = b) (Classical.propDecidable _)
theorem eqW_self (a : List Wr) : eqW a a = true := by unfold eqW; exact @decide_eq_true _ (Classical.propDecidable _) rfl
theorem eqW_ne {a b : List Wr} (h : a ≠ b) : eqW a b = false := by unfold eqW; exact @decide_eq_false _ (Classical.propDecidable _) h

def sameW (x y : Wr) : Bool := (x.vol == y.vol) && ((x.block == y.block) && (x.data.toList == y.data.toList))
theorem sameW_self (x : Wr) : sameW x x = true := by simp [sameW]
theorem sameW_ne {x y : Wr} (h : x ≠ y) : sameW x y = false := by
  rw [Bool.eq_false_iff]
  intro e
  simp only [sameW, Bool.and_eq_true, beq_iff_eq] at e
  refine h (wr_ext e.1 e.2.1 ?_)
  have := e.2.2
  rw [bytes_list, bytes_list] at this
  rw [← str_of x.data, ← str_of y.data, this]
set_option maxRecDepth 100000 in
theorem eqlIn_write (x y : Wr) (w : World) : (Op.equalIn 10000 61 (.agg #[.int .i64 x.vol, .int .i64 x.block, .string x.data]) (.agg #[.int .i64 y.vol, .int .i64 y.block, .string y.data])).run Try.prog w = .ok (sameW x y) w := by
  rw [run_equalIn_struct w 9999 61 _ _ (by kernel_rfl) (by kernel_rfl)]
  have hf : (Try.prog.fieldsOf 61).toList.map (fun f => (f.name, f.type, f.offset)) = [("Vol", 3, 0), ("Block", 3, 1), ("Data", 9, 2)] := by kernel_rfl
  obtain ⟨fs, hfs⟩ : ∃ fs, (Try.prog.fieldsOf 61).toList = fs := ⟨_, rfl⟩
  rw [hfs] at hf ⊢
  match fs, hf with
  | [f1, f2, f3], hf =>
    simp only [List.map_cons, List.map_nil, List.cons.injEq, Prod.mk.injEq, and_true] at hf
    obtain ⟨⟨a1, a2, a3⟩, ⟨b1, b2, b3⟩, ⟨c1, c2, c3⟩⟩ := hf
    simp only [Op.eqFields, a1, a2, a3, b1, b2, b3, c1, c2, c3]
    have q1 := run_equalIn_int (P := Try.prog) w 9998 3 .i64 .i64 x.vol y.vol Try.underlying3
    have q2 := run_equalIn_int (P := Try.prog) w 9998 3 .i64 .i64 x.block y.block Try.underlying3
    have q3 := run_equalIn_string (P := Try.prog) w 9998 9 x.data y.data Try.underlying9
    unfold sameW
    cases h1 : x.vol == y.vol <;> rw [h1] at q1 <;> cases h2 : x.block == y.block <;> rw [h2] at q2 <;> cases h3 : x.data.toList == y.data.toList <;> rw [h3] at q3 <;> simp [part, q1, q2, q3, Try.isAgg3, Try.isAgg9, Sem.run_bind, Result.andThen]

theorem neq_write (x y : Wr) (w : World) : (binOp .neq 61 (.agg #[.int .i64 x.vol, .int .i64 x.block, .string x.data]) (.agg #[.int .i64 y.vol, .int .i64 y.block, .string y.data])).run Try.prog w = .ok (.bool (!sameW x y)) w := by
  rw [run_neq_struct, eqlIn_write]; rfl
theorem eql_write (x y : Wr) (w : World) : (binOp .eql 61 (.agg #[.int .i64 x.vol, .int .i64 x.block, .string x.data]) (.agg #[.int .i64 y.vol, .int .i64 y.block, .string y.data])).run Try.prog w = .ok (.bool (sameW x y)) w := by
  rw [run_eql_struct, eqlIn_write]; rfl
theorem guard_write (op : BinOp) (x y : Operand) (xs ys : Array Value) (w : World) : (eqGuard op 61 x y (.agg xs) (.agg ys)).run Try.prog w = .ok () w := run_eqGuard_agg w op _ x y xs ys (by kernel_rfl)

set_option maxHeartbeats 2000000 in
set_option maxRecDepth 100000 in
theorem RefEqW_any {w : World} {A1 A2 : Option Addr} {c1 c2 : Nat} {xs ys : List Wr} (h1 : WrsAt w w.heap.size A1 xs) (h2 : WrsAt w w.heap.size A2 ys) (hl1 : xs.length ≤ 9223372036854775807) :
    Calls Try.prog 25 #[.slice A1 xs.length c1, .slice A2 ys.length c2] w fun e w' => e = .returned (.bool (eqW xs ys)) ∧ Below w.heap.size w w' := by
  by_cases hlen : xs.length = ys.length
  · have H1 := Lib.hid h1
    have H2 := Lib.hid h2
    have mixed : Try.prog.follows .mixedOrders = true := by kernel_rfl
    obtain ⟨n, hn⟩ : ∃ n, xs.length = n := ⟨_, rfl⟩
    have HN1 := Lib.hid hn
    have HN2 : Hid (ys.length = n) := Lib.hid (by rw [← hlen]; exact hn)
    rw [← hlen, hn]
    rw [hn] at hl1
    clear h1 h2 hn hlen
    go_enter Try.func25, Try.ntmps25
    go_wp2
    go_loopg [5] n (fun kx i wr => ∃ k : Nat, k ≤ n ∧ n - k ≤ kx ∧ i = .int .i64 k ∧ Hid (xs.take k = ys.take k) ∧ Hid (Below w.heap.size w wr))
    case atStart => exact ⟨0, Nat.zero_le _, by omega, rfl, Lib.hid (by simp), Lib.hid (Below.refl _ _)⟩
    case round =>
      obtain ⟨k, hk, hkx, rfl, HK, HB⟩ := hrel
      by_cases hlt : k < n
      · have hk1 : k < xs.length := by rw [HN1.out]; exact hlt
        have hk2 : k < ys.length := by rw [HN2.out]; exact hlt
        obtain ⟨b1, o1, hA1, _, x1, x2, x3⟩ := H1.out.at_ HB.out hk1
        obtain ⟨b2, o2, hA2, _, y1, y2, y3⟩ := H2.out.at_ HB.out hk2
        subst hA1
        subst hA2
        have HNo : Hid (xs[k] ≠ ys[k] → eqW xs ys = false) := Lib.hid (fun h => eqW_ne (ne_at hk1 hk2 h))
        have HYes : Hid (xs[k] = ys[k] → xs.take (k + 1) = ys.take (k + 1)) := Lib.hid (fun h => take_eq_step HK.out hk1 hk2 h)
        obtain ⟨u, hu⟩ : ∃ u, xs[k] = u := ⟨_, rfl⟩
        obtain ⟨v, hv⟩ : ∃ v, ys[k] = v := ⟨_, rfl⟩
        rw [hu] at x1 x2 x3 HNo HYes
        rw [hv] at y1 y2 y3 HNo HYes
        clear hu hv hk1 hk2 HK
        obtain ⟨i1, j1, s1⟩ := u
        obtain ⟨i2, j2, s2⟩ := v
        simp only at x1 x2 x3 y1 y2 y3
        have hk0 : (0 : Int) ≤ (k : Int) := Int.natCast_nonneg _
        have hk8 : (k : Int) < (n : Int) := by omega
        have hne := neq_write ⟨i1, j1, s1⟩ ⟨i2, j2, s2⟩
        have hgd := guard_write
        simp only at hne
        by_cases he : (⟨i1, j1, s1⟩ : Wr) = ⟨i2, j2, s2⟩
        · have HE := Lib.hid (HYes.out he)
          rw [he, sameW_self] at hne
          simp only [Bool.not_true] at hne
          have e1 : i1 = i2 := congrArg Wr.vol he
          have e2 : j1 = j2 := congrArg Wr.block he
          have e3 : s1 = s2 := congrArg Wr.data he
          subst e1
          subst e2
          subst e3
          clear he HYes HNo
          go_wp2_with fail
          go_quiet (fail)
          go_wp2_with fail
          go_roundg (n - (k + 1))
          case measure => omega
          case rel => exact ⟨k + 1, by omega, Nat.le_refl _, by go_num, HE, Lib.hid (HB.out.trans ⟨rfl, rfl, rfl, Nat.le_refl _, fun _ _ => rfl⟩)⟩
        · have HE := Lib.hid (HNo.out he)
          rw [sameW_ne he] at hne
          simp only [Bool.not_false] at hne
          clear he HYes HNo
          go_wp2_with fail
          go_quiet (fail)
          go_wp2_with fail
          go_ret
          exact ⟨by rw [HE.out]; rfl, HB.out.trans ⟨rfl, rfl, rfl, Nat.le_refl _, fun _ _ => rfl⟩⟩
      · have hltz : ¬ (k : Int) < (n : Int) := by omega
        have HE : Hid (eqW xs ys = true) := Lib.hid (by rw [take_eq_all HK.out (by rw [HN1.out]; omega) (by rw [HN2.out]; omega)]; exact eqW_self _)
        go_wp2_with fail
        go_ret
        exact ⟨by rw [HE.out]; rfl, HB.out⟩
  · have hlz : ((xs.length : Int) != (ys.length : Int)) = true := by rw [bne_iff_ne]; omega
    have HE : Hid (eqW xs ys = false) := Lib.hid (eqW_ne (fun e => hlen (by rw [e])))
    clear h1 h2 hlen
    go_enter Try.func25, Try.ntmps25
    go_wp2
    go_ret
    exact ⟨by rw [HE.out]; rfl, Below.refl _ _⟩
end Go.Proofs.Ytpmllckfijfehaa
