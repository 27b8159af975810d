/- Bitmaps: contracts of the document's Equal and Join. -/
import Derived.Test.YtpefhocjnkbklaaDirN
import Derived.Test.YtpefhocjnkbklaaVolsPartsW
namespace Go.Proofs.Ytpefhocjnkbklaa
open Go.RowKit

/-- The same bits? -/
noncomputable def eqBt (a b : List Bt) : Bool := @decide (a = b) (Classical.propDecidable _)
theorem eqBt_self (a : List Bt) : eqBt a a = true := by unfold eqBt; exact @decide_eq_true _ (Classical.propDecidable _) rfl
theorem eqBt_ne {a b : List Bt} (h : a ≠ b) : eqBt a b = false := by unfold eqBt; exact @decide_eq_false _ (Classical.propDecidable _) h
def sameBt (x y : Bt) : Bool := (x.vol == y.vol) && (x.mask == y.mask)
theorem sameBt_self (x : Bt) : sameBt x x = true := by simp [sameBt]
theorem sameBt_ne {x y : Bt} (h : x ≠ y) : sameBt x y = false := by
  rw [Bool.eq_false_iff]
  intro e
  simp only [sameBt, Bool.and_eq_true, beq_iff_eq] at e
  exact h (Bt.ext_ e.1 e.2)
set_option maxRecDepth 100000 in
theorem eqlIn_bits (x y : Bt) (w : World) : (Op.equalIn 10000 66 (.agg #[.int .i64 x.vol, .int .u64 x.mask]) (.agg #[.int .i64 y.vol, .int .u64 y.mask])).run Try.prog w = .ok (sameBt x y) w := by
  rw [run_equalIn_struct w 9999 66 _ _ (by kernel_rfl) (by kernel_rfl)]
  have hf : (Try.prog.fieldsOf 66).toList.map (fun f => (f.name, f.type, f.offset)) = [("Vol", 3, 0), ("Mask", 64, 1)] := by kernel_rfl
  obtain ⟨fs, hfs⟩ : ∃ fs, (Try.prog.fieldsOf 66).toList = fs := ⟨_, rfl⟩
  rw [hfs] at hf ⊢
  match fs, hf with
  | [f1, f2], hf =>
    simp only [List.map_cons, List.map_nil, List.cons.injEq, Prod.mk.injEq, and_true] at hf
    obtain ⟨⟨a1, a2, a3⟩, ⟨b1, b2, b3⟩⟩ := hf
    simp only [Op.eqFields, a1, a2, a3, b1, b2, b3]
    have q1 := run_equalIn_int (P := Try.prog) w 9998 3 .i64 .i64 x.vol y.vol Try.underlying3
    have q2 := run_equalIn_int (P := Try.prog) w 9998 64 .u64 .u64 x.mask y.mask Try.underlying64
    unfold sameBt
    cases h1 : x.vol == y.vol <;> rw [h1] at q1 <;> cases h2 : x.mask == y.mask <;> rw [h2] at q2 <;> simp [part, q1, q2, Try.isAgg3, Try.isAgg64, Sem.run_bind, Result.andThen]
theorem neq_bits (x y : Bt) (w : World) : (binOp .neq 66 (.agg #[.int .i64 x.vol, .int .u64 x.mask]) (.agg #[.int .i64 y.vol, .int .u64 y.mask])).run Try.prog w = .ok (.bool (!sameBt x y)) w := by
  rw [run_neq_struct, eqlIn_bits]; rfl
theorem eql_bits (x y : Bt) (w : World) : (binOp .eql 66 (.agg #[.int .i64 x.vol, .int .u64 x.mask]) (.agg #[.int .i64 y.vol, .int .u64 y.mask])).run Try.prog w = .ok (.bool (sameBt x y)) w := by
  rw [run_eql_struct, eqlIn_bits]; rfl
theorem guard_bits (op : BinOp) (x y : Operand) (xs ys : Array Value) (w : World) : (eqGuard op 66 x y (.agg xs) (.agg ys)).run Try.prog w = .ok () w := run_eqGuard_agg w op _ x y xs ys (by kernel_rfl)

set_option maxHeartbeats 2000000 in
set_option maxRecDepth 100000 in
theorem DocEqual_any {w : World} {A1 A2 : Option Addr} {c1 c2 : Nat} {xs ys : List Bt} (h1 : BtsAt w w.heap.size A1 xs) (h2 : BtsAt w w.heap.size A2 ys) (hl1 : xs.length ≤ 9223372036854775807) :
    Calls Try.prog 18 #[.slice A1 xs.length c1, .slice A2 ys.length c2] w fun e w' => e = .returned (.bool (eqBt xs ys)) ∧ Below w.heap.size w w' := by
  by_cases hlen : xs.length = ys.length
  · have H1 := Lib.hid h1
    have H2 := Lib.hid h2
    have mixed : Try.prog.follows .mixedOrders = true := by kernel_rfl
    obtain ⟨n, hn⟩ : ∃ n, xs.length = n := ⟨_, rfl⟩
    have HN1 := Lib.hid hn
    have HN2 : Hid (ys.length = n) := Lib.hid (by rw [← hlen]; exact hn)
    rw [← hlen, hn]
    rw [hn] at hl1
    clear h1 h2 hn hlen
    go_enter Try.func18, Try.ntmps18
    go_wp2
    go_loopg [5] n (fun kx i wr => ∃ k : Nat, k ≤ n ∧ n - k ≤ kx ∧ i = .int .i64 k ∧ Hid (xs.take k = ys.take k) ∧ Hid (Below w.heap.size w wr))
    case atStart => exact ⟨0, Nat.zero_le _, by omega, rfl, Lib.hid (by simp), Lib.hid (Below.refl _ _)⟩
    case round =>
      obtain ⟨k, hk, hkx, rfl, HK, HB⟩ := hrel
      by_cases hlt : k < n
      · have hk1 : k < xs.length := by rw [HN1.out]; exact hlt
        have hk2 : k < ys.length := by rw [HN2.out]; exact hlt
        obtain ⟨b1, o1, hA1, _, x1, x2⟩ := H1.out.at_ HB.out hk1
        obtain ⟨b2, o2, hA2, _, y1, y2⟩ := H2.out.at_ HB.out hk2
        subst hA1
        subst hA2
        have HNo : Hid (xs[k] ≠ ys[k] → eqBt xs ys = false) := Lib.hid (fun h => eqBt_ne (ne_at hk1 hk2 h))
        have HYes : Hid (xs[k] = ys[k] → xs.take (k + 1) = ys.take (k + 1)) := Lib.hid (fun h => take_eq_step HK.out hk1 hk2 h)
        obtain ⟨u, hu⟩ : ∃ u, xs[k] = u := ⟨_, rfl⟩
        obtain ⟨v, hv⟩ : ∃ v, ys[k] = v := ⟨_, rfl⟩
        rw [hu] at x1 x2 HNo HYes
        rw [hv] at y1 y2 HNo HYes
        clear hu hv hk1 hk2 HK
        obtain ⟨i1, j1⟩ := u
        obtain ⟨i2, j2⟩ := v
        simp only at x1 x2 y1 y2
        have hk0 : (0 : Int) ≤ (k : Int) := Int.natCast_nonneg _
        have hk8 : (k : Int) < (n : Int) := by omega
        have hne := neq_bits ⟨i1, j1⟩ ⟨i2, j2⟩
        have hgd := guard_bits
        simp only at hne
        by_cases he : (⟨i1, j1⟩ : Bt) = ⟨i2, j2⟩
        · have HE := Lib.hid (HYes.out he)
          rw [he, sameBt_self] at hne
          simp only [Bool.not_true] at hne
          have e1 : i1 = i2 := congrArg Bt.vol he
          have e2 : j1 = j2 := congrArg Bt.mask he
          subst e1
          subst e2
          clear he HYes HNo
          go_wp2_with fail
          go_quiet (fail)
          go_wp2_with fail
          go_roundg (n - (k + 1))
          case measure => omega
          case rel => exact ⟨k + 1, by omega, Nat.le_refl _, by go_num, HE, Lib.hid (HB.out.trans ⟨rfl, rfl, rfl, Nat.le_refl _, fun _ _ => rfl⟩)⟩
        · have HE := Lib.hid (HNo.out he)
          rw [sameBt_ne he] at hne
          simp only [Bool.not_false] at hne
          clear he HYes HNo
          go_wp2_with fail
          go_quiet (fail)
          go_wp2_with fail
          go_ret
          exact ⟨by rw [HE.out]; rfl, HB.out.trans ⟨rfl, rfl, rfl, Nat.le_refl _, fun _ _ => rfl⟩⟩
      · have hltz : ¬ (k : Int) < (n : Int) := by omega
        have HE : Hid (eqBt xs ys = true) := Lib.hid (by rw [take_eq_all HK.out (by rw [HN1.out]; omega) (by rw [HN2.out]; omega)]; exact eqBt_self _)
        go_wp2_with fail
        go_ret
        exact ⟨by rw [HE.out]; rfl, HB.out⟩
  · have hlz : ((xs.length : Int) != (ys.length : Int)) = true := by rw [bne_iff_ne]; omega
    have HE : Hid (eqBt xs ys = false) := Lib.hid (eqBt_ne (fun e => hlen (by rw [e])))
    clear h1 h2 hlen
    go_enter Try.func18, Try.ntmps18
    go_wp2
    go_ret
    exact ⟨by rw [HE.out]; rfl, Below.refl _ _⟩

theorem mkCells_one (ms : List Mk) : ∀ u ∈ mkCells ms, u.oneCell' = true := by
  induction ms with
  | nil => simp [mkCells]
  | cons x ms ih =>
    intro u hu
    simp only [mkCells, List.mem_cons] at hu
    rcases hu with rfl | rfl | hu
    · rfl
    · rfl
    · exact ih u hu

set_option maxHeartbeats 4000000 in
set_option maxRecDepth 100000 in
theorem DocJoin_any {w : World} {A1 A2 : Option Addr} {c1 c2 : Nat} {a b : List Bt} (h1 : BtsAt w w.heap.size A1 a) (h2 : BtsAt w w.heap.size A2 b) (hf1 : BtsFit a) (hf2 : BtsFit b) :
    Calls Try.prog 20 #[.slice A1 a.length c1, .slice A2 b.length c2] w (BtsEnd (joinR a b) (.bool (bitsOk a && bitsOk b)) w) := by
  have H1 := Lib.hid h1
  have H2 := Lib.hid h2
  have F1 := Lib.hid hf1
  have F2 := Lib.hid hf2
  clear h1 h2 hf1 hf2
  cases ha : bitsOk a with
  | false =>
    rw [(joinE_a ha).2]
    have HR : Hid (∀ c, Calls Try.prog 11 #[.slice A1 a.length c] w fun e w' => e = .returned (.bool false) ∧ Below w.heap.size w w') := Lib.hid (fun c => by
      refine (DocRight_any H1.out F1.out.1).mono ?_; rw [ha]; exact fun _ _ h => h)
    clear ha
    go_enter Try.func20, Try.ntmps20
    go_wp2_with (go_at_call 11; refine (HR.out _).mono ?_; rintro e w1 ⟨rfl, hb⟩; replace hb := Lib.hid hb)
    go_ret2
    exact BtsEnd.none_ _ hb.out
  | true =>
    have HR : Hid (∀ c, Calls Try.prog 11 #[.slice A1 a.length c] w fun e w' => e = .returned (.bool true) ∧ Below w.heap.size w w') := Lib.hid (fun c => by
      refine (DocRight_any H1.out F1.out.1).mono ?_; rw [ha]; exact fun _ _ h => h)
    cases hb : bitsOk b with
    | false =>
      rw [(joinE_b hb).2]
      have HR2 : Hid (∀ c w1, Below w.heap.size w w1 → Calls Try.prog 11 #[.slice A2 b.length c] w1 fun e w' => e = .returned (.bool false) ∧ Below w.heap.size w w') := Lib.hid (fun c w1 h => by
        refine (DocRight_any (H2.out.next h) F2.out.1).mono ?_; rw [hb]; exact fun _ _ h3 => ⟨h3.1, below_next h h3.2⟩)
      clear ha hb
      go_enter Try.func20, Try.ntmps20
      go_wp2_with fail
      refine (HR.out _).mono ?_
      rintro e w1 ⟨rfl, hb1⟩
      replace hb1 := Lib.hid hb1
      go_wp2_with fail
      refine (HR2.out _ _ hb1.out).mono ?_
      rintro e w2 ⟨rfl, hb2⟩
      replace hb2 := Lib.hid hb2
      go_wp2_with fail
      go_ret2
      exact BtsEnd.none_ _ hb2.out
    | true =>
      rw [(joinE_ok ha hb).2]
      have HR2 : Hid (∀ c w1, Below w.heap.size w w1 → Calls Try.prog 11 #[.slice A2 b.length c] w1 fun e w' => e = .returned (.bool true) ∧ Below w.heap.size w w') := Lib.hid (fun c w1 h => by
        refine (DocRight_any (H2.out.next h) F2.out.1).mono ?_; rw [hb]; exact fun _ _ h3 => ⟨h3.1, below_next h h3.2⟩)
      have HL1 : Hid (∀ c w1, Below w.heap.size w w1 → Calls Try.prog 17 #[.slice A1 a.length c] w1 (MksRow (listM a) w1)) := Lib.hid (fun c w1 h => by
        have := DocList_any (c := c) (H1.out.next h) F1.out
        rw [marksM_is ha] at this; exact this)
      have HL2 : Hid (∀ c w1, Below w.heap.size w w1 → Calls Try.prog 17 #[.slice A2 b.length c] w1 (MksRow (listM b) w1)) := Lib.hid (fun c w1 h => by
        have := DocList_any (c := c) (H2.out.next h) F2.out
        rw [marksM_is hb] at this; exact this)
      have hla : (listM a).length ≤ 8160 := by rw [← countM_is ha]; exact countM_le a
      have hlb : (listM b).length ≤ 8160 := by rw [← countM_is hb]; exact countM_le b
      have HJ : Hid (ofM (listM a ++ listM b) = joinM a b ∧ mayAll (listM a ++ listM b) = true) := Lib.hid ⟨join_of ha hb, by rw [mayAll_append, listM_may ha, listM_may hb]; rfl⟩
      obtain ⟨xs, hxs⟩ : ∃ xs, listM a = xs := ⟨_, rfl⟩
      obtain ⟨ys, hys⟩ : ∃ ys, listM b = ys := ⟨_, rfl⟩
      rw [hxs] at HL1 hla HJ
      rw [hys] at HL2 hlb HJ
      obtain ⟨n1, hn1⟩ : ∃ n, xs.length = n := ⟨_, rfl⟩
      obtain ⟨n2, hn2⟩ : ∃ n, ys.length = n := ⟨_, rfl⟩
      rw [hn1] at hla
      rw [hn2] at hlb
      have HN1 := Lib.hid hn1
      have HN2 := Lib.hid hn2
      obtain ⟨i0, hi0, hz0, hz1, hz2⟩ := info_parts Try.infoMk
      clear ha hb hxs hys hn1 hn2
      go_enter Try.func20, Try.ntmps20
      go_wp2_with fail
      refine (HR.out _).mono ?_
      rintro e w1 ⟨rfl, hb1⟩
      replace hb1 := Lib.hid hb1
      go_wp2_with fail
      refine (HR2.out _ _ hb1.out).mono ?_
      rintro e w2 ⟨rfl, hb2⟩
      replace hb2 := Lib.hid hb2
      go_wp2_with fail
      refine (HL1.out _ _ hb2.out).mono ?_
      rintro e w3 ⟨A3, c3, rfl, hl3, hn3, hb3⟩
      have HB3 := Lib.hid (below_next hb2.out hb3)
      have HL3 := Lib.hid hl3
      have HX3 := Lib.hid hn3
      rw [HN1.out]
      clear hl3 hn3 hb3
      go_wp2_with (at_builtin; refine wpList_append_rows rfl (.tmp 15) (.tmp 17) 31 rfl w3.heap.size 34 i0 (.agg #[.int .i64 0, .int .i64 0]) 2 16 Try.underlying31 hi0 hz0 hz1 hz2 rfl (by decide) (.slice none 0 0) 0 [] rfl (World.ownsRow_nil _ _ _ _) A3 n1 c3 (mkCells xs) rfl (by rw [mkCells_length, HN1.out]) w3.heap.size HL3.out HX3.out.1 (mkCells_one _) ?k1 ?k2 (Nat.le_refl _) ?_)
      case k1 => unfold maxLen; omega
      case k2 => omega
      intro v4 w4 ho4 hg4
      have HB4 : Hid (Below w3.heap.size w3 w4) := Lib.hid ((Below.refl _ _).grown hg4 (Nat.le_refl _) (fun k hk => by simp [Value.ownBlock] at hk))
      have HO4 : Hid (w4.ownsRow w3.heap.size 34 2 v4 n1 (mkCells xs)) := Lib.hid (by simpa using ho4)
      obtain ⟨A4, d4, hv4, hxx⟩ := own_lies HO4.out
      clear hxx ho4 hg4
      subst hv4
      have HBW4 : Hid (Below w.heap.size w w4) := Lib.hid (below_next HB3.out HB4.out)
      go_wp2_with fail
      refine (HL2.out _ _ HBW4.out).mono ?_
      rintro e w5 ⟨A5, c5, rfl, hl5, hn5, hb5⟩
      have HB5 := Lib.hid (HB4.out.trans (hb5.mono HB4.out.size))
      have HBW5 := Lib.hid (below_next HBW4.out hb5)
      have HO5 := Lib.hid (own_kept HO4.out hb5)
      have HL5 := Lib.hid hl5
      have HX5 := Lib.hid hn5
      rw [HN2.out]
      clear hl5 hn5 hb5
      go_wp2_with (at_builtin; refine wpList_append_rows rfl (.tmp 18) (.tmp 20) 31 rfl w3.heap.size 34 i0 (.agg #[.int .i64 0, .int .i64 0]) 2 16 Try.underlying31 hi0 hz0 hz1 hz2 rfl (by decide) (.slice A4 n1 d4) n1 (mkCells xs) rfl HO5.out A5 n2 c5 (mkCells ys) rfl (by rw [mkCells_length, HN2.out]) w5.heap.size HL5.out HX5.out.1 (mkCells_one _) ?k3 ?k4 HB5.out.size ?_)
      case k3 => unfold maxLen; omega
      case k4 => omega
      intro v6 w6 ho6 hg6
      have HB6 : Hid (Below w3.heap.size w3 w6) := Lib.hid (HB5.out.grown hg6 HB5.out.size (fun k hk => (HO5.out.lt k hk).1))
      have HBW6 : Hid (Below w.heap.size w w6) := Lib.hid (HB3.out.trans (HB6.out.mono HB3.out.size))
      rw [← mkCells_append] at ho6
      obtain ⟨A6, d6, hv6, _, hl6⟩ := own_lies ho6
      have HM6 := Lib.hid (MksAt.of_lies hl6)
      clear ho6 hg6 hl6
      subst hv6
      have HOf : Hid (∀ d, Calls Try.prog 16 #[.slice A6 (n1 + n2) d] w6 (BtsEnd (joinM a b) (.bool true) w6)) := Lib.hid (fun d => by
        have := DocOf_any (c := d) HM6.out (by rw [List.length_append, HN1.out, HN2.out]; omega)
        rw [HJ.out.1, HJ.out.2, List.length_append, HN1.out, HN2.out] at this
        exact this)
      go_wp2_with fail
      refine (HOf.out _).mono ?_
      rintro e w7 ⟨A7, c7, rfl, hA7, hb7⟩
      have HE : Hid (BtsEnd (joinM a b) (.bool true) w (.returned (.tuple #[.slice A7 (joinM a b).length c7, .bool true])) w7) := Lib.hid ⟨A7, c7, rfl, hA7, below_next HBW6.out hb7⟩
      clear hA7 hb7
      go_wp2_with fail
      go_ret2
      exact HE.out
end Go.Proofs.Ytpefhocjnkbklaa
