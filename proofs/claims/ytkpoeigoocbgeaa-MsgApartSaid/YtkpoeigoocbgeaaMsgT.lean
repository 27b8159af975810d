/- Contract of the document's Parse. -/
import Derived.Test.YtkpoeigoocbgeaaMsgS
namespace Go.Proofs.Ytkpoeigoocbgeaa
open Go.RowKit

set_option maxHeartbeats 8000000 in
set_option maxRecDepth 100000 in
theorem parse17_any (s : List UInt8) (w : World) (hs : s.length ≤ 140737488355328) :
    Calls Try.prog 29 #[.string (str s)] w (ParEnd s w) := by
  obtain ⟨H0, hH0⟩ : ∃ H, w.heap.size = H := ⟨_, rfl⟩
  obtain ⟨V, hV⟩ : ∃ V, V = (w.alloc (.cells zMg 52)).alloc (.cells zMg 52) := ⟨_, rfl⟩
  have hb1 := below_one w (.cells zMg 52)
  have hb2 := below_one (w.alloc (.cells zMg 52)) (.cells zMg 52)
  have h1 := heap_new w (.cells zMg 52)
  have h2 := heap_new (w.alloc (.cells zMg 52)) (.cells zMg 52)
  rw [show (w.alloc (.cells zMg 52)).heap.size = H0 + 1 from by rw [← hH0]; simp] at h2
  rw [hH0] at h1
  have hb0 := below_next hb1 hb2
  have h1' : V.heap[H0]? = some (.cells zMg 52 (0, 0)) := by rw [hV, hb2.block H0 (by rw [← hH0]; simp)]; exact h1
  rw [← hV] at hb0 h2
  have hVs : V.heap.size = H0 + 2 := by rw [hV, ← hH0]; simp
  have HB0 := Lib.hid hb0
  have HR0 := Lib.hid h1'
  have HX0 := Lib.hid h2
  have HVs := Lib.hid hVs
  have HV := Lib.hid (show (w.alloc (.cells #[.int .i64 0, .int .i64 0, .slice none 0 0, .int .i64 0, .int .i64 0, .int .i64 0, .bool false, .slice none 0 0, .int .i64 0, .slice none 0 0, .slice none 0 0, .int .i64 0, .int .i64 0, .slice none 0 0] 52)).alloc (.cells #[.int .i64 0, .int .i64 0, .slice none 0 0, .int .i64 0, .int .i64 0, .int .i64 0, .bool false, .slice none 0 0, .int .i64 0, .slice none 0 0, .slice none 0 0, .int .i64 0, .int .i64 0, .slice none 0 0] 52) = V from by rw [hV]; rfl)
  have HH0 := Lib.hid hH0
  obtain ⟨T, hT⟩ : ∃ T, str s = T := ⟨_, rfl⟩
  have hsz : T.size = s.length := by rw [← hT, str_size]
  have HSz := Lib.hid hsz
  obtain ⟨n1, hn1⟩ : ∃ n, lnN (s.drop 9) = n := ⟨_, rfl⟩
  have hn1lt : n1 < 256 := by rw [← hn1]; exact lnN_lt _
  obtain ⟨n2, hn2⟩ : ∃ n, lnN (s.drop (pP s + 25)) = n := ⟨_, rfl⟩
  have hn2lt : n2 < 256 := by rw [← hn2]; exact lnN_lt _
  obtain ⟨Pp, hP⟩ : ∃ p, pP s = p := ⟨_, rfl⟩
  obtain ⟨Q, hQ⟩ : ∃ q, pQ s = q := ⟨_, rfl⟩
  have hP1 : Pp = 10 + 16 * n1 := by rw [← hP, ← hn1]; rfl
  have hQ1 : Q = Pp + 26 + 16 * n2 := by rw [← hQ, ← hn2, ← hP]; rfl
  have hPlt : Pp ≤ 5000 := by omega
  have hQlt : Q ≤ 10000 := by omega
  have HP1 := Lib.hid hP1
  have HQ1 := Lib.hid hQ1
  have HPq := Lib.hid (And.intro hP hQ)
  have HL1 := Lib.hid (fun W => takeLine17_any s 9 W (by omega) (by omega))
  have HL2 := Lib.hid (fun W => takeLine17_any s (Pp + 25) W (by omega) (by omega))
  have HNo := Lib.hid (@cand_not s)
  have HAt := Lib.hid (fun (k : Nat) (W : World) (hk : k ≤ 1000000) => at17_any s k 8 W (by omega) (by omega) (by omega) (by omega))
  unfold LnEnd17 at HL1 HL2
  rw [show ((9 : Nat) : Int) = 9 from rfl] at HL1
  rw [show ((Pp + 25 : Nat) : Int) = (Pp : Int) + 25 from by omega] at HL2
  rw [hT] at HL1 HL2 HAt ⊢
  have E1 : Hid ((9 : Int) + 1 + 16 * ((n1 : Nat) : Int) = (Pp : Int)) := Lib.hid (by omega)
  have E2 : Hid ((Pp : Int) + 25 + 1 + 16 * ((n2 : Nat) : Int) = (Q : Int)) := Lib.hid (by omega)
  have hw25 : IntKind.i64.wrap ((Pp : Int) + 25) = (Pp : Int) + 25 := by rw [IntKind.wrap_i64]; omega
  clear hb1 hb2 h1 h2 hb0 h1' hVs hV hH0 hP1 hQ1
  have hFail : ∀ (W : World) (HX : W.heap[H0]? = some (.cells zMg 52 (0, 0))), (W.setRow H0 zMg).heap[H0]? = some (.cells zMg 52 (0, 0)) := fun W HX => setRow_heap W H0 zMg zMg _ _ HX
  have HFail := Lib.hid hFail
  clear hFail
  obtain ⟨l1, hl1⟩ : ∃ l, lnL (s.drop 9) = l := ⟨_, rfl⟩
  obtain ⟨l2, hl2⟩ : ∃ l, lnL (s.drop (Pp + 25)) = l := ⟨_, rfl⟩
  have hl1n : l1.length = n1 := by rw [← hl1, lnL_length, hn1]
  have hl2n : l2.length = n2 := by rw [← hl2, lnL_length, ← hn2, hP]
  by_cases q1 : lnOk (s.drop 9) = true
  case neg =>
    rw [Bool.not_eq_true] at q1
    have HNt : Hid (∀ m, ¬ Told s m) := Lib.hid (HNo.out (fun ws hc => by have := hc.line; rw [q1] at this; cases this))
    have HLf : Hid (∀ W, Calls Try.prog 14 #[.string T, .int .i64 9] W fun e w' => ∃ v i, e = .returned (.tuple #[v, .int .i64 i, .bool false]) ∧ Below W.heap.size W w') := Lib.hid (fun W => (HL1.out W).mono (fun e w' h => by
      rcases h with ⟨h, _⟩ | ⟨_, h⟩
      · rw [q1] at h; cases h
      · exact h))
    clear HL1 HL2 HAt q1 hl1 hl2 hl1n hl2n hn1 hn2 hP hQ hT hsz
    go_enter Try.func29, Try.ntmps29
    go_upto_region 2 with fail
    rw [HV.out, HH0.out]
    go_upto_region 4 with (go_at_call 14; (with_reducible refine (HLf.out _).mono ?_); rintro e w2 ⟨v, i, rfl, hb2⟩; have HB2 := Lib.hid hb2; clear hb2)
    have HR2 := Lib.hid ((HB2.out.block H0 (by rw [HVs.out]; omega)).trans HR0.out)
    have HX2 := Lib.hid ((HB2.out.block (H0 + 1) (by rw [HVs.out]; omega)).trans HX0.out)
    go_wp2_with (first
      | (refine wpList_load_row rfl 52 (.tmp 4) rfl (H0 + 1) rfl 52 zMg (0, 0) _ HX2.out msg_desc17 rfl zMg_info ?_)
      | (refine wpList_store_row rfl 52 (.tmp 2) (.tmp 25) rfl H0 zMg rfl rfl 52 zMg HR2.out zMg_info rfl zMg_one ?_))
    have HRr := setRow_heap w2 H0 zMg zMg 52 (0, 0) HR2.out
    refine bodyPost_ret (v := .tuple #[.agg zMg, .bool false]) (results_cell17 (p := 2) (u := 3) (ty := 52) rfl _ _ H0 52 zMg (0, 0) _ rfl HRr msg_desc17 rfl zMg_info) rfl ?_
    exact .inr ⟨HNt.out, rfl, below_setRow (below_next HB0.out HB2.out) (Nat.le_of_eq HH0.out) _⟩
  have HLa : Hid (∀ W, Calls Try.prog 14 #[.string T, .int .i64 9] W fun e w' => ∃ A c, e = .returned (.tuple #[.slice A l1.length c, .int .i64 (Pp : Int), .bool true]) ∧ BrsAt w' w'.heap.size A l1 ∧ Below W.heap.size W w') := Lib.hid (fun W => (HL1.out W).mono (fun e w' h => by
    rcases h with ⟨_, A, c, rfl, h1, h2⟩ | ⟨h, _⟩
    · refine ⟨A, c, ?_, by rw [← hl1]; exact h1, h2⟩
      rw [hn1, hl1n, E1.out]
    · rw [q1] at h; cases h))
  have q1' := Lib.hid q1
  clear HL1 q1
  by_cases q2 : lnOk (s.drop (Pp + 25)) = true
  case neg =>
    rw [Bool.not_eq_true] at q2
    have HNt : Hid (∀ m, ¬ Told s m) := Lib.hid (HNo.out (fun ws hc => by have := hc.anc; rw [hP, q2] at this; cases this))
    have HLf : Hid (∀ W, Calls Try.prog 14 #[.string T, .int .i64 ((Pp : Int) + 25)] W fun e w' => ∃ v i, e = .returned (.tuple #[v, .int .i64 i, .bool false]) ∧ Below W.heap.size W w') := Lib.hid (fun W => (HL2.out W).mono (fun e w' h => by
      rcases h with ⟨h, _⟩ | ⟨_, h⟩
      · rw [q2] at h; cases h
      · exact h))
    clear HL2 HAt q2 hl1 hl2 hl1n hl2n hn1 hn2 hP hQ hT hsz
    go_enter Try.func29, Try.ntmps29
    go_upto_region 2 with fail
    rw [HV.out, HH0.out]
    go_upto_region 5 with (go_at_call 14; (with_reducible refine (HLa.out _).mono ?_); rintro e w2 ⟨lA, lC, rfl, ha2, hb2⟩; have HA2 := Lib.hid ha2; have HB2 := Lib.hid hb2; clear ha2 hb2)
    go_upto_region 7 with (go_at_call 14; (with_reducible refine (HLf.out _).mono ?_); rintro e w3 ⟨v, i, rfl, hb3⟩; have HB3 := Lib.hid (below_next HB2.out hb3); clear hb3)
    have HR2 := Lib.hid ((HB3.out.block H0 (by rw [HVs.out]; omega)).trans HR0.out)
    have HX2 := Lib.hid ((HB3.out.block (H0 + 1) (by rw [HVs.out]; omega)).trans HX0.out)
    go_wp2_with (first
      | (refine wpList_load_row rfl 52 (.tmp 4) rfl (H0 + 1) rfl 52 zMg (0, 0) _ HX2.out msg_desc17 rfl zMg_info ?_)
      | (refine wpList_store_row rfl 52 (.tmp 2) (.tmp 43) rfl H0 zMg rfl rfl 52 zMg HR2.out zMg_info rfl zMg_one ?_))
    have HRr := setRow_heap w3 H0 zMg zMg 52 (0, 0) HR2.out
    refine bodyPost_ret (v := .tuple #[.agg zMg, .bool false]) (results_cell17 (p := 2) (u := 3) (ty := 52) rfl _ _ H0 52 zMg (0, 0) _ rfl HRr msg_desc17 rfl zMg_info) rfl ?_
    exact .inr ⟨HNt.out, rfl, below_setRow (below_next HB0.out HB3.out) (Nat.le_of_eq HH0.out) _⟩
  have HLb : Hid (∀ W, Calls Try.prog 14 #[.string T, .int .i64 ((Pp : Int) + 25)] W fun e w' => ∃ A c, e = .returned (.tuple #[.slice A l2.length c, .int .i64 (Q : Int), .bool true]) ∧ BrsAt w' w'.heap.size A l2 ∧ Below W.heap.size W w') := Lib.hid (fun W => (HL2.out W).mono (fun e w' h => by
    rcases h with ⟨_, A, c, rfl, h1, h2⟩ | ⟨h, _⟩
    · refine ⟨A, c, ?_, by rw [← hl2]; exact h1, h2⟩
      rw [hl2n, ← E2.out, ← hn2, hP]
    · rw [q2] at h; cases h))
  have q2' := Lib.hid q2
  clear HL2 q2
  have hwQ8 : IntKind.i64.wrap ((Q : Int) + 8) = (Q : Int) + 8 := by rw [IntKind.wrap_i64]; omega
  by_cases q3 : s.length < Q + 8
  · have HNt : Hid (∀ m, ¬ Told s m) := Lib.hid (HNo.out (fun ws hc => by have := hc.len; rw [hQ] at this; omega))
    have q3' : (T.size : Int) < (Q : Int) + 8 := by omega
    clear HAt q3 hl1 hl2 hl1n hl2n hn1 hn2 hP hQ hT hsz
    go_enter Try.func29, Try.ntmps29
    go_upto_region 2 with fail
    rw [HV.out, HH0.out]
    go_upto_region 5 with (go_at_call 14; (with_reducible refine (HLa.out _).mono ?_); rintro e w2 ⟨lA, lC, rfl, ha2, hb2⟩; have HA2 := Lib.hid ha2; have HB2 := Lib.hid hb2; clear ha2 hb2)
    go_upto_region 7 with (go_at_call 14; (with_reducible refine (HLb.out _).mono ?_); rintro e w3 ⟨aA, aC, rfl, ha3, hb3⟩; have HA3 := Lib.hid ha3; have hB3 := Lib.hid hb3; have HB3 := Lib.hid (below_next HB2.out hb3); clear ha3 hb3)
    have HR2 := Lib.hid ((HB3.out.block H0 (by rw [HVs.out]; omega)).trans HR0.out)
    have HX2 := Lib.hid ((HB3.out.block (H0 + 1) (by rw [HVs.out]; omega)).trans HX0.out)
    go_wp2_with (first
      | (refine wpList_load_row rfl 52 (.tmp 4) rfl (H0 + 1) rfl 52 zMg (0, 0) _ HX2.out msg_desc17 rfl zMg_info ?_)
      | (refine wpList_store_row rfl 52 (.tmp 2) (.tmp 43) rfl H0 zMg rfl rfl 52 zMg HR2.out zMg_info rfl zMg_one ?_))
    have HRr := setRow_heap w3 H0 zMg zMg 52 (0, 0) HR2.out
    refine bodyPost_ret (v := .tuple #[.agg zMg, .bool false]) (results_cell17 (p := 2) (u := 3) (ty := 52) rfl _ _ H0 52 zMg (0, 0) _ rfl HRr msg_desc17 rfl zMg_info) rfl ?_
    exact .inr ⟨HNt.out, rfl, below_setRow (below_next HB0.out HB3.out) (Nat.le_of_eq HH0.out) _⟩
  have q3' : ¬ (T.size : Int) < (Q : Int) + 8 := by omega
  have q3'' : Q + 8 ≤ T.size := by omega
  obtain ⟨D, hD⟩ : ∃ D, s.drop (Q + 8) = D := ⟨_, rfl⟩
  have HDx : T.extract (Q + 8) T.size = str D := by rw [← hD, ← hT]; exact extract_drop_str _ _
  have HBp := Lib.hid (fun W => DbParse_any D W (by rw [← hD, List.length_drop]; omega))
  obtain ⟨bm, hbm⟩ : ∃ b, parM D = b := ⟨_, rfl⟩
  obtain ⟨R, hR⟩ : ∃ R, parR D = R := ⟨_, rfl⟩
  obtain ⟨RT, hRT⟩ : ∃ R', str R = R' := ⟨_, rfl⟩
  have hRsz : RT.size = R.length := by rw [← hRT, str_size]
  obtain ⟨pe, hpe⟩ : ∃ e, parE D = e := ⟨_, rfl⟩
  rw [hbm, hR, hRT, hpe] at HBp
  by_cases q4 : pe = 0
  case neg =>
    have HNt : Hid (∀ m, ¬ Told s m) := Lib.hid (HNo.out (fun ws hc => by have := hc.bits; rw [hQ, hD, hpe] at this; exact q4 this))
    have q4' : (pe != 0) = true := by rw [bne_iff_ne]; exact q4
    clear HAt q3 q4 hl1 hl2 hl1n hl2n hn1 hn2 hP hQ hT hsz hD hbm hR hRT hpe hRsz
    go_enter Try.func29, Try.ntmps29
    go_upto_region 2 with fail
    rw [HV.out, HH0.out]
    go_upto_region 5 with (go_at_call 14; (with_reducible refine (HLa.out _).mono ?_); rintro e w2 ⟨lA, lC, rfl, ha2, hb2⟩; have HA2 := Lib.hid ha2; have HB2 := Lib.hid hb2; clear ha2 hb2)
    go_upto_region 8 with (go_at_call 14; (with_reducible refine (HLb.out _).mono ?_); rintro e w3 ⟨aA, aC, rfl, ha3, hb3⟩; have HA3 := Lib.hid ha3; have hB3 := Lib.hid hb3; have HB3 := Lib.hid (below_next HB2.out hb3); clear ha3 hb3)
    go_upto_region 10 with (go_at_call 63; (with_reducible refine (HBp.out _).mono ?_); rintro e w4 ⟨bA, bC, rfl, ha4, hb4⟩; have HA4 := Lib.hid ha4; have hB4 := Lib.hid hb4; have HB4 := Lib.hid (below_next HB3.out hb4); clear ha4 hb4)
    have HR2 := Lib.hid ((HB4.out.block H0 (by rw [HVs.out]; omega)).trans HR0.out)
    have HX2 := Lib.hid ((HB4.out.block (H0 + 1) (by rw [HVs.out]; omega)).trans HX0.out)
    go_wp2_with (first
      | (refine wpList_load_row rfl 52 (.tmp 4) rfl (H0 + 1) rfl 52 zMg (0, 0) _ HX2.out msg_desc17 rfl zMg_info ?_)
      | (refine wpList_store_row rfl 52 (.tmp 2) (.tmp 60) rfl H0 zMg rfl rfl 52 zMg HR2.out zMg_info rfl zMg_one ?_))
    have HRr := setRow_heap w4 H0 zMg zMg 52 (0, 0) HR2.out
    refine bodyPost_ret (v := .tuple #[.agg zMg, .bool false]) (results_cell17 (p := 2) (u := 3) (ty := 52) rfl _ _ H0 52 zMg (0, 0) _ rfl HRr msg_desc17 rfl zMg_info) rfl ?_
    exact .inr ⟨HNt.out, rfl, below_setRow (below_next HB0.out HB4.out) (Nat.le_of_eq HH0.out) _⟩
  subst q4
  by_cases q5 : R.length = 0
  · have HNt : Hid (∀ m, ¬ Told s m) := Lib.hid (HNo.out (fun ws hc => by have := hc.rest; unfold pR at this; rw [hQ, hD, hR] at this; exact this (List.length_eq_zero_iff.1 q5)))
    have q5' : ((RT.size : Int) == 0) = true := by rw [beq_iff_eq]; omega
    have q5'' : (RT.size : Int) = 0 := by omega
    clear HAt q3 q5 hl1 hl2 hl1n hl2n hn1 hn2 hP hQ hT hsz hD hbm hR hRT hpe hRsz
    go_enter Try.func29, Try.ntmps29
    go_upto_region 2 with fail
    rw [HV.out, HH0.out]
    go_upto_region 5 with (go_at_call 14; (with_reducible refine (HLa.out _).mono ?_); rintro e w2 ⟨lA, lC, rfl, ha2, hb2⟩; have HA2 := Lib.hid ha2; have HB2 := Lib.hid hb2; clear ha2 hb2)
    go_upto_region 8 with (go_at_call 14; (with_reducible refine (HLb.out _).mono ?_); rintro e w3 ⟨aA, aC, rfl, ha3, hb3⟩; have HA3 := Lib.hid ha3; have hB3 := Lib.hid hb3; have HB3 := Lib.hid (below_next HB2.out hb3); clear ha3 hb3)
    go_upto_region 10 with (go_at_call 63; (with_reducible refine (HBp.out _).mono ?_); rintro e w4 ⟨bA, bC, rfl, ha4, hb4⟩; have HA4 := Lib.hid ha4; have hB4 := Lib.hid hb4; have HB4 := Lib.hid (below_next HB3.out hb4); clear ha4 hb4)
    have HR2 := Lib.hid ((HB4.out.block H0 (by rw [HVs.out]; omega)).trans HR0.out)
    have HX2 := Lib.hid ((HB4.out.block (H0 + 1) (by rw [HVs.out]; omega)).trans HX0.out)
    go_wp2_with (first
      | (refine wpList_load_row rfl 52 (.tmp 4) rfl (H0 + 1) rfl 52 zMg (0, 0) _ HX2.out msg_desc17 rfl zMg_info ?_)
      | (refine wpList_store_row rfl 52 (.tmp 2) (.tmp 60) rfl H0 zMg rfl rfl 52 zMg HR2.out zMg_info rfl zMg_one ?_))
    have HRr := setRow_heap w4 H0 zMg zMg 52 (0, 0) HR2.out
    refine bodyPost_ret (v := .tuple #[.agg zMg, .bool false]) (results_cell17 (p := 2) (u := 3) (ty := 52) rfl _ _ H0 52 zMg (0, 0) _ rfl HRr msg_desc17 rfl zMg_info) rfl ?_
    exact .inr ⟨HNt.out, rfl, below_setRow (below_next HB0.out HB4.out) (Nat.le_of_eq HH0.out) _⟩
  have hR1 : 0 < RT.size := by omega
  have hRle : R.length ≤ s.length := by
    have := parR_le D
    rw [hR, ← hD, List.length_drop] at this
    omega
  obtain ⟨N, hN⟩ : ∃ N, dec (R.take 1) = N := ⟨_, rfl⟩
  have hNlt : N < 256 := by rw [← hN]; exact dec_take_lt256 R 1
  have hRl : RT.data.toList = R := by rw [← hRT]; rfl
  have hbN : RT[0].toNat = N := by
    have h0 : 0 < R.length := by omega
    rw [← hN, show R.take 1 = (R.drop 0).take 1 from rfl, dec_byte h0]
    subst hRT
    rfl
  have hwN : IntKind.i64.wrap (N : Int) = (N : Int) := by rw [IntKind.wrap_i64]; omega
  have hw1N : IntKind.i64.wrap (1 + (N : Int)) = 1 + (N : Int) := by rw [IntKind.wrap_i64]; omega
  have hw17 : IntKind.i64.wrap (1 + (N : Int) + 16) = 1 + (N : Int) + 16 := by rw [IntKind.wrap_i64]; omega
  have HWt := Lib.hid (fun W => takeWrites17_any R (1 + N + 16) W (by omega) (by omega))
  rw [hRT, show ((1 + N + 16 : Nat) : Int) = 1 + (N : Int) + 16 from by omega] at HWt
  unfold WsEnd17 at HWt
  have HpN : Hid (pN s = N ∧ pR s = R) := Lib.hid (by unfold pN pR; rw [hQ, hD, hR, hN]; exact ⟨rfl, rfl⟩)
  clear hN
  have GO : True := trivial
  by_cases q6 : ∃ ws, wsAt (R.drop (1 + N + 16)) = some (ws, []) ∧ writable ws = true
  case neg =>
    have HNt : Hid (∀ m, ¬ Told s m) := Lib.hid (fun m hm => by
      have hc := (told_cand hm).1.ws
      rw [HpN.out.1, HpN.out.2] at hc
      exact q6 ⟨m.ws, hc, (writable_iff _).2 hm.1.ws⟩)
    have HWf : Hid (∀ W, Calls Try.prog 20 #[.string RT, .int .i64 (1 + (N : Int) + 16)] W fun e w' => ∃ v i b, e = .returned (.tuple #[v, .int .i64 i, .bool b]) ∧ (b = true → i ≠ RT.size) ∧ Below W.heap.size W w') := Lib.hid (fun W => (HWt.out W).mono (fun e w' h => by
      rcases h with ⟨ws, rest, A, c, h1, h2, rfl, _, hb⟩ | ⟨_, v, i, rfl, hb⟩
      · refine ⟨_, _, _, rfl, fun _ he => q6 ⟨ws, ?_, h2⟩, hb⟩
        have hl := congrArg List.length (ws_bytes h1)
        rw [List.length_drop, List.length_append] at hl
        have hwl : 2 ≤ (writesB ws).length := by unfold writesB; rw [List.length_append, enc_length]; omega
        have hr0 : rest.length = 0 := by rw [List.length_drop] at he; omega
        rw [h1, List.length_eq_zero_iff.1 hr0]
      · exact ⟨_, _, _, rfl, fun h => (by cases h), hb⟩))
    clear HWt HAt q3 q5 hl1 hl2 hl1n hl2n hn1 hn2 hP hQ hT hsz hD hbm hR hRT hpe hRl q6
    go_enter Try.func29, Try.ntmps29
    go_upto_region 2 with fail
    rw [HV.out, HH0.out]
    go_upto_region 5 with (go_at_call 14; (with_reducible refine (HLa.out _).mono ?_); rintro e w2 ⟨lA, lC, rfl, ha2, hb2⟩; have HA2 := Lib.hid ha2; have HB2 := Lib.hid hb2; clear ha2 hb2)
    go_upto_region 8 with (go_at_call 14; (with_reducible refine (HLb.out _).mono ?_); rintro e w3 ⟨aA, aC, rfl, ha3, hb3⟩; have HA3 := Lib.hid ha3; have hB3 := Lib.hid hb3; have HB3 := Lib.hid (below_next HB2.out hb3); clear ha3 hb3)
    go_upto_region 12 with (go_at_call 63; (with_reducible refine (HBp.out _).mono ?_); rintro e w4 ⟨bA, bC, rfl, ha4, hb4⟩; have HA4 := Lib.hid ha4; have hB4 := Lib.hid hb4; have HB4 := Lib.hid (below_next HB3.out hb4); clear ha4 hb4)
    go_upto_region 13 with (go_at_call 20; (with_reducible refine (HWf.out _).mono ?_); rintro e w5 ⟨v, i, b, rfl, hne, hb5⟩; have HNe := Lib.hid hne; have HB5 := Lib.hid (below_next HB4.out hb5); clear hb5 hne)
    cases b with
    | false =>
      go_upto_region 14 with fail
      have HR2 := Lib.hid ((HB5.out.block H0 (by rw [HVs.out]; omega)).trans HR0.out)
      have HX2 := Lib.hid ((HB5.out.block (H0 + 1) (by rw [HVs.out]; omega)).trans HX0.out)
      go_wp2_with (first
        | (refine wpList_load_row rfl 52 (.tmp 4) rfl (H0 + 1) rfl 52 zMg (0, 0) _ HX2.out msg_desc17 rfl zMg_info ?_)
        | (refine wpList_store_row rfl 52 (.tmp 2) (.tmp 81) rfl H0 zMg rfl rfl 52 zMg HR2.out zMg_info rfl zMg_one ?_))
      have HRr := setRow_heap w5 H0 zMg zMg 52 (0, 0) HR2.out
      refine bodyPost_ret (v := .tuple #[.agg zMg, .bool false]) (results_cell17 (p := 2) (u := 3) (ty := 52) rfl _ _ H0 52 zMg (0, 0) _ rfl HRr msg_desc17 rfl zMg_info) rfl ?_
      exact .inr ⟨HNt.out, rfl, below_setRow (below_next HB0.out HB5.out) (Nat.le_of_eq HH0.out) _⟩
    | true =>
      have hne : i ≠ (RT.size : Int) := HNe.out rfl
      have hne2 : (i != (RT.size : Int)) = true := by rw [bne_iff_ne]; exact hne
      go_upto_region 14 with fail
      have HR2 := Lib.hid ((HB5.out.block H0 (by rw [HVs.out]; omega)).trans HR0.out)
      have HX2 := Lib.hid ((HB5.out.block (H0 + 1) (by rw [HVs.out]; omega)).trans HX0.out)
      go_wp2_with (first
        | (refine wpList_load_row rfl 52 (.tmp 4) rfl (H0 + 1) rfl 52 zMg (0, 0) _ HX2.out msg_desc17 rfl zMg_info ?_)
        | (refine wpList_store_row rfl 52 (.tmp 2) (.tmp 81) rfl H0 zMg rfl rfl 52 zMg HR2.out zMg_info rfl zMg_one ?_))
      have HRr := setRow_heap w5 H0 zMg zMg 52 (0, 0) HR2.out
      refine bodyPost_ret (v := .tuple #[.agg zMg, .bool false]) (results_cell17 (p := 2) (u := 3) (ty := 52) rfl _ _ H0 52 zMg (0, 0) _ rfl HRr msg_desc17 rfl zMg_info) rfl ?_
      exact .inr ⟨HNt.out, rfl, below_setRow (below_next HB0.out HB5.out) (Nat.le_of_eq HH0.out) _⟩
  obtain ⟨ws, q6a, q6b⟩ := q6
  have HWb : Hid (∀ W, Calls Try.prog 20 #[.string RT, .int .i64 (1 + (N : Int) + 16)] W fun e w' => ∃ A c, e = .returned (.tuple #[.slice A ws.length c, .int .i64 (RT.size : Int), .bool true]) ∧ WrsAt w' w'.heap.size A ws ∧ Below W.heap.size W w') := Lib.hid (fun W => (HWt.out W).mono (fun e w' h => by
    rcases h with ⟨ws', rest, A, c, h1, h2, rfl, h3, hb⟩ | ⟨h, _⟩
    · rw [q6a] at h1
      simp only [Option.some.injEq, Prod.mk.injEq] at h1
      obtain ⟨rfl, rfl⟩ := h1
      refine ⟨A, c, ?_, h3, hb⟩
      have hl : 2 ≤ (R.drop (1 + N + 16)).length := by
        have hl := congrArg List.length (ws_bytes q6a)
        rw [List.length_append] at hl
        have hwl : 2 ≤ (writesB ws).length := by unfold writesB; rw [List.length_append, enc_length]; omega
        omega
      rw [List.length_drop] at hl
      rw [show 1 + N + 16 + ((R.drop (1 + N + 16)).length - ([] : List UInt8).length) = RT.size from by rw [List.length_drop, List.length_nil]; omega]
    · have := h _ _ q6a
      rw [q6b] at this; cases this))
  have hRlen : 1 + N + 16 + 2 ≤ RT.size := by
    have hl := congrArg List.length (ws_bytes q6a)
    rw [List.length_append, List.length_drop] at hl
    have hwl : 2 ≤ (writesB ws).length := by unfold writesB; rw [List.length_append, enc_length]; omega
    omega
  have HOk : Hid (CandOk s ws) := Lib.hid (by
    refine ⟨q1'.out, by rw [hP]; exact q2'.out, by rw [hQ]; omega, by rw [hQ, hD]; exact hpe, by rw [HpN.out.2]; intro e; rw [e] at q5; exact q5 rfl, by rw [HpN.out.1, HpN.out.2]; exact q6a⟩)
  obtain ⟨SZ, hSZ⟩ : ∃ S, (((R.drop 1).take N).map (fun c => (c.toNat : Int))) = S := ⟨_, rfl⟩
  have hSZl : SZ.length = N := by rw [← hSZ, List.length_map, List.length_take, List.length_drop]; omega
  have HSzAt : Hid (∀ k (h : k < SZ.length) (h2 : 1 + k < RT.size), SZ[k] = (RT[1 + k].toNat : Int)) := Lib.hid (fun k h h2 => by
    subst hSZ hRT
    simp only [List.getElem_map, List.getElem_take, List.getElem_drop]
    rfl)
  have HCd : Hid (lnL (s.drop 9) = l1 ∧ lnL (s.drop (pP s + 25)) = l2 ∧ parM (s.drop (pQ s + 8)) = bm ∧ ((pR s).drop 1).take (pN s) = (R.drop 1).take N) := Lib.hid (by
    rw [HpN.out.1, HpN.out.2, hQ, hP, hD]
    exact ⟨hl1, hl2, hbm, rfl⟩)
  have HWo := Lib.hid ((writable_iff _).1 q6b)
  have HBo := Lib.hid (parM_ok hpe)
  rw [hbm] at HBo
  have HLo1 : Hid (lined l1 = true) := Lib.hid (by rw [← hl1]; exact (ln_bytes q1'.out).1)
  have HLo2 : Hid (lined l2 = true) := Lib.hid (by rw [← hl2]; exact (ln_bytes q2'.out).1)
  have HSZ := Lib.hid hSZ
  have HD := Lib.hid (And.intro hD (And.intro hR hRT))
  have HT := Lib.hid hT
  have HRsz := Lib.hid hRsz
  obtain ⟨i0, hi0, hz0, hz1, hz2⟩ := info_parts Try.infoI17
  clear HWt q3 q5 q6a q6b hl1 hl2 hl1n hl2n hn1 hn2 hP hQ hT hsz hD hbm hR hRT hpe hRl hSZ GO hRsz
  have hend : ((RT.size : Int) != (RT.size : Int)) = false := by simp
  go_enter Try.func29, Try.ntmps29
  go_upto_region 2 with fail
  rw [HV.out, HH0.out]
  go_upto_region 5 with (go_at_call 14; (with_reducible refine (HLa.out _).mono ?_); rintro e w2 ⟨lA, lC, rfl, ha2, hb2⟩; have HA2 := Lib.hid ha2; have HB2 := Lib.hid hb2; clear ha2 hb2)
  go_upto_region 8 with (go_at_call 14; (with_reducible refine (HLb.out _).mono ?_); rintro e w3 ⟨aA, aC, rfl, ha3, hb3⟩; have HA3 := Lib.hid ha3; have hB3 := Lib.hid hb3; have HB3 := Lib.hid (below_next HB2.out hb3); clear ha3 hb3)
  go_upto_region 12 with (go_at_call 63; (with_reducible refine (HBp.out _).mono ?_); rintro e w4 ⟨bA, bC, rfl, ha4, hb4⟩; have HA4 := Lib.hid ha4; have hB4 := Lib.hid hb4; have HB4 := Lib.hid (below_next HB3.out hb4); clear ha4 hb4)
  go_upto_region 15 with (go_at_call 20; (with_reducible refine (HWb.out _).mono ?_); rintro e w5 ⟨wA, wC, rfl, ha5, hb5⟩; have HA5 := Lib.hid ha5; have hB5 := Lib.hid hb5; have HB5 := Lib.hid (below_next HB4.out hb5); clear ha5 hb5)
  have HX5 := Lib.hid ((HB5.out.block (H0 + 1) (by rw [HVs.out]; omega)).trans HX0.out)
  have HR5 := Lib.hid ((HB5.out.block H0 (by rw [HVs.out]; omega)).trans HR0.out)
  have hsz5 : H0 + 2 ≤ w5.heap.size := by have := HB5.out.size; rw [HVs.out] at this; exact this
  go_wp2_with fail
  go_loopw [16] (fun i wr => ∃ (k : Nat) (A' : Option Addr) (c' : Nat), k ≤ N ∧ i = .int .i64 k ∧ Hid (wr.heap[H0 + 1]? = some (.cells (zMg.setIfInBounds 10 (.slice A' k c')) 52 (0, 0))) ∧ Hid (wr.ownsRow w5.heap.size 3 1 (.slice A' k c') k ((SZ.take k).map (Value.int .i64))) ∧ Hid (ButH (H0 + 1) w5 wr) ∧ Hid (Below w.heap.size w wr)) (fun i _ => N - (intOf i).toNat)
  case atStart => exact ⟨0, none, 0, Nat.zero_le _, rfl, Lib.hid (by have h := HX5.out; rw [h]; rfl), Lib.hid (World.ownsRow_nil _ _ _ _), Lib.hid (ButH.refl _ _), Lib.hid (below_next HB0.out HB5.out)⟩
  case round =>
    obtain ⟨k, A', c', hk, rfl, HXk, HOk2, HBk, HBw⟩ := hrel
    by_cases hkN : k < N
    · have hk1 : 1 + k < RT.size := by omega
      have hkS : k < SZ.length := by rw [hSZl]; exact hkN
      have hkk : (k : Int) < (N : Int) := by omega
      have hk0 : (0 : Int) ≤ (k : Int) := by omega
      have hwk : IntKind.i64.wrap (1 + (k : Int)) = 1 + (k : Int) := by rw [IntKind.wrap_i64]; omega
      have hwk1 : IntKind.i64.wrap ((k : Int) + 1) = (k : Int) + 1 := by rw [IntKind.wrap_i64]; omega
      have ht0 : (0 : Int) ≤ 1 + (k : Int) := by omega
      have ht1 : (1 + (k : Int)).toNat = 1 + k := by omega
      have ht2 : 1 + (k : Int) < (RT.size : Int) := by omega
      have hv := HSzAt.out k hkS hk1
      obtain ⟨b, hb⟩ : ∃ b, RT[1 + k].toNat = b := ⟨_, rfl⟩
      have hbl : b < 256 := by rw [← hb]; exact RT[1 + k].toNat_lt
      have hwb : IntKind.i64.wrap (b : Int) = (b : Int) := by rw [IntKind.wrap_i64]; omega
      rw [hb] at hv
      have HSk : Hid ((SZ.take (k + 1)).map (Value.int .i64) = (SZ.take k).map (Value.int .i64) ++ [.int .i64 (b : Int)]) := Lib.hid (by rw [List.take_succ_eq_append_getElem hkS, List.map_append, hv]; rfl)
      have hwz : w5.heap.size ≤ wr.heap.size := HBk.out.size
      have x10 : wr.cell? ⟨H0 + 1, 10, none⟩ = some (.slice A' k c') := by rw [Lib.cell_of_heap HXk.out]; rfl
      have x10d : wr.drew.cell? ⟨H0 + 1, 10, none⟩ = some (.slice A' k c') := x10
      have x10a : ∀ o, (wr.alloc o).cell? ⟨H0 + 1, 10, none⟩ = some (.slice A' k c') := fun o => box_ten17 (((below_one wr o).block (H0 + 1) (by omega)).trans HXk.out)
      have hfit3 : k + 1 ≤ maxLen := by unfold maxLen; omega
      have hfit4 : (k + 1) * 8 ≤ 140737488355328 := by omega
      have HOd : Hid (wr.drew.ownsRow w5.heap.size 3 1 (.slice A' k c') k ((SZ.take k).map (Value.int .i64))) := Lib.hid HOk2.out
      clear hv hkS
      go_upto_region 18 with fail
      go_region_law (refine step_append_lies _ (by rfl) (.tmp 88) (.tmp 94) 48 (by rfl) w5.heap.size 3 i0 (.int .i64 0) 1 8 Try.underlying48 hi0 hz0 hz1 hz2 rfl (by decide) (.slice A' k c') k ((SZ.take k).map (Value.int .i64)) (by rfl) (HOd.out.alloc _) ⟨wr.heap.size, 0, none⟩ 1 1 [.int .i64 (b : Int)] (by rfl) (by rfl) (cell_one17 _ _ _) (by simp [Value.oneCell']) (by omega) hfit3 hfit4 (by simp; omega) (wr.heap.size + 1) (by simp) ?_; intro g cap w6 hown hg hat hltg; have HOw6 := Lib.hid hown; have HG6 := Lib.hid (grown_but17 (HBk.out) (below_drew_alloc17 wr (.cells #[.int .i64 (b : Int)] 3)) hg (fun r hr => (HOd.out.lt r hr).1)); have HX6 := Lib.hid (grown_box17 HXk.out hsz5 HBk.out (below_drew_alloc17 wr (.cells #[.int .i64 (b : Int)] 3)) hg (fun r hr => (HOd.out.lt r hr).1)); have s10 := box_ten17 HX6.out; have f10 : w6.frozen? ⟨H0 + 1, 10, none⟩ = false := Lib.frozen_of_heap HX6.out 10; have HBw6 := Lib.hid ((HBw.out.drew.alloc (Nat.le_trans HBw.out.size (Nat.le_refl _)) (.cells #[.int .i64 (b : Int)] 3)).grown hg (by have := HBw.out.size; simp; omega) (fun r hr => by have h1 := (HOd.out.lt r hr).1; have h2 := HB0.out.size; have h3 := HB5.out.size; omega)); clear hown hg hat hltg)
      all_goals
        have HO7 : Hid ((w6.setCell ⟨H0 + 1, 10, none⟩ (.slice (some ⟨g, 0, none⟩) (k + 1) cap)).ownsRow w5.heap.size 3 1 (.slice (some ⟨g, 0, none⟩) (k + 1) cap) (k + 1) ((SZ.take (k + 1)).map (Value.int .i64))) := Lib.hid (by rw [HSk.out]; exact own_kept17 HOw6.out hsz5 ((ButH.refl (H0 + 1) w6).set 10 _))
        have HX7 : Hid ((w6.setCell ⟨H0 + 1, 10, none⟩ (.slice (some ⟨g, 0, none⟩) (k + 1) cap)).heap[H0 + 1]? = some (.cells (zMg.setIfInBounds 10 (.slice (some ⟨g, 0, none⟩) (k + 1) cap)) 52 (0, 0))) := Lib.hid (by rw [row_set HX6.out 10 _]; rfl)
        have HB7 : Hid (ButH (H0 + 1) w5 (w6.setCell ⟨H0 + 1, 10, none⟩ (.slice (some ⟨g, 0, none⟩) (k + 1) cap))) := Lib.hid (HG6.out.set 10 _)
        have HBw7 : Hid (Below w.heap.size w (w6.setCell ⟨H0 + 1, 10, none⟩ (.slice (some ⟨g, 0, none⟩) (k + 1) cap))) := Lib.hid (HBw6.out.setCell (p := ⟨H0 + 1, 10, none⟩) (by rw [HH0.out]; exact Nat.le_succ _) _)
        clear s10 f10 x10 x10d x10a hb hbl
        go_wp2_with fail
        go_roundw
        case rel => exact ⟨k + 1, some ⟨g, 0, none⟩, cap, by omega, by go_num, HX7, HO7, HB7, HBw7⟩
        case measure => simp [intOf]; omega
    · obtain rfl : k = N := by omega
      have hkk : ¬ (k : Int) < (k : Int) := by omega
      go_upto_region 19 with fail
      have wrBk := HBk
      have wrBr := Lib.hid (ButH.refl (H0 + 1) wr)
      have wrBw := HBw
      have hHle : w.heap.size ≤ H0 + 1 := by rw [HH0.out]; exact Nat.le_succ _
      have hT0 : 0 < T.size := by omega
      have ⟨kb, hkb⟩ : ∃ b, T[0].toNat = b := ⟨_, rfl⟩
      have hkbl : kb < 256 := by rw [← hkb]; exact T[0].toNat_lt
      have hwkb : IntKind.i64.wrap (kb : Int) = (kb : Int) := by rw [IntKind.wrap_i64]; omega
      have HKb := Lib.hid hkb
      have y0 : (wr).cell? ⟨H0 + 1, 0, none⟩ = some (.int .i64 0) := by rw [Lib.cell_of_heap HXk.out]; rfl
      have yf0 : (wr).frozen? ⟨H0 + 1, 0, none⟩ = false := Lib.frozen_of_heap HXk.out 0
      have Bv10 : Hid (((wr).setCell ⟨H0 + 1, 0, none⟩ (.int .i64 (kb : Int))).heap[H0 + 1]? = some (.cells #[.int .i64 (kb : Int), .int .i64 0, .slice none 0 0, .int .i64 0, .int .i64 0, .int .i64 0, .bool false, .slice none 0 0, .int .i64 0, .slice none 0 0, .slice A' k c', .int .i64 0, .int .i64 0, .slice none 0 0] 52 (0, 0))) := Lib.hid (by rw [row_set HXk.out 0 _]; rfl)
      have y1 : ((wr).setCell ⟨H0 + 1, 0, none⟩ (.int .i64 (kb : Int))).cell? ⟨H0 + 1, 2, none⟩ = some (.slice none 0 0) := by rw [Lib.cell_of_heap Bv10.out]; rfl
      have yf1 : ((wr).setCell ⟨H0 + 1, 0, none⟩ (.int .i64 (kb : Int))).frozen? ⟨H0 + 1, 2, none⟩ = false := Lib.frozen_of_heap Bv10.out 2
      have Bv11 : Hid ((((wr).setCell ⟨H0 + 1, 0, none⟩ (.int .i64 (kb : Int))).setCell ⟨H0 + 1, 2, none⟩ (.slice lA l1.length lC)).heap[H0 + 1]? = some (.cells #[.int .i64 (kb : Int), .int .i64 0, .slice lA l1.length lC, .int .i64 0, .int .i64 0, .int .i64 0, .bool false, .slice none 0 0, .int .i64 0, .slice none 0 0, .slice A' k c', .int .i64 0, .int .i64 0, .slice none 0 0] 52 (0, 0))) := Lib.hid (by rw [row_set Bv10.out 2 _]; rfl)
      have y2 : (((wr).setCell ⟨H0 + 1, 0, none⟩ (.int .i64 (kb : Int))).setCell ⟨H0 + 1, 2, none⟩ (.slice lA l1.length lC)).cell? ⟨H0 + 1, 9, none⟩ = some (.slice none 0 0) := by rw [Lib.cell_of_heap Bv11.out]; rfl
      have yf2 : (((wr).setCell ⟨H0 + 1, 0, none⟩ (.int .i64 (kb : Int))).setCell ⟨H0 + 1, 2, none⟩ (.slice lA l1.length lC)).frozen? ⟨H0 + 1, 9, none⟩ = false := Lib.frozen_of_heap Bv11.out 9
      have Bv12 : Hid (((((wr).setCell ⟨H0 + 1, 0, none⟩ (.int .i64 (kb : Int))).setCell ⟨H0 + 1, 2, none⟩ (.slice lA l1.length lC)).setCell ⟨H0 + 1, 9, none⟩ (.slice bA bm.length bC)).heap[H0 + 1]? = some (.cells #[.int .i64 (kb : Int), .int .i64 0, .slice lA l1.length lC, .int .i64 0, .int .i64 0, .int .i64 0, .bool false, .slice none 0 0, .int .i64 0, .slice bA bm.length bC, .slice A' k c', .int .i64 0, .int .i64 0, .slice none 0 0] 52 (0, 0))) := Lib.hid (by rw [row_set Bv11.out 9 _]; rfl)
      have y3 : ((((wr).setCell ⟨H0 + 1, 0, none⟩ (.int .i64 (kb : Int))).setCell ⟨H0 + 1, 2, none⟩ (.slice lA l1.length lC)).setCell ⟨H0 + 1, 9, none⟩ (.slice bA bm.length bC)).cell? ⟨H0 + 1, 13, none⟩ = some (.slice none 0 0) := by rw [Lib.cell_of_heap Bv12.out]; rfl
      have yf3 : ((((wr).setCell ⟨H0 + 1, 0, none⟩ (.int .i64 (kb : Int))).setCell ⟨H0 + 1, 2, none⟩ (.slice lA l1.length lC)).setCell ⟨H0 + 1, 9, none⟩ (.slice bA bm.length bC)).frozen? ⟨H0 + 1, 13, none⟩ = false := Lib.frozen_of_heap Bv12.out 13
      have Bv13 : Hid ((((((wr).setCell ⟨H0 + 1, 0, none⟩ (.int .i64 (kb : Int))).setCell ⟨H0 + 1, 2, none⟩ (.slice lA l1.length lC)).setCell ⟨H0 + 1, 9, none⟩ (.slice bA bm.length bC)).setCell ⟨H0 + 1, 13, none⟩ (.slice wA ws.length wC)).heap[H0 + 1]? = some (.cells #[.int .i64 (kb : Int), .int .i64 0, .slice lA l1.length lC, .int .i64 0, .int .i64 0, .int .i64 0, .bool false, .slice none 0 0, .int .i64 0, .slice bA bm.length bC, .slice A' k c', .int .i64 0, .int .i64 0, .slice wA ws.length wC] 52 (0, 0))) := Lib.hid (by rw [row_set Bv12.out 13 _]; rfl)
      have y4 : (((((wr).setCell ⟨H0 + 1, 0, none⟩ (.int .i64 (kb : Int))).setCell ⟨H0 + 1, 2, none⟩ (.slice lA l1.length lC)).setCell ⟨H0 + 1, 9, none⟩ (.slice bA bm.length bC)).setCell ⟨H0 + 1, 13, none⟩ (.slice wA ws.length wC)).cell? ⟨H0 + 1, 7, none⟩ = some (.slice none 0 0) := by rw [Lib.cell_of_heap Bv13.out]; rfl
      have yf4 : (((((wr).setCell ⟨H0 + 1, 0, none⟩ (.int .i64 (kb : Int))).setCell ⟨H0 + 1, 2, none⟩ (.slice lA l1.length lC)).setCell ⟨H0 + 1, 9, none⟩ (.slice bA bm.length bC)).setCell ⟨H0 + 1, 13, none⟩ (.slice wA ws.length wC)).frozen? ⟨H0 + 1, 7, none⟩ = false := Lib.frozen_of_heap Bv13.out 7
      have Bv14 : Hid (((((((wr).setCell ⟨H0 + 1, 0, none⟩ (.int .i64 (kb : Int))).setCell ⟨H0 + 1, 2, none⟩ (.slice lA l1.length lC)).setCell ⟨H0 + 1, 9, none⟩ (.slice bA bm.length bC)).setCell ⟨H0 + 1, 13, none⟩ (.slice wA ws.length wC)).setCell ⟨H0 + 1, 7, none⟩ (.slice aA l2.length aC)).heap[H0 + 1]? = some (.cells #[.int .i64 (kb : Int), .int .i64 0, .slice lA l1.length lC, .int .i64 0, .int .i64 0, .int .i64 0, .bool false, .slice aA l2.length aC, .int .i64 0, .slice bA bm.length bC, .slice A' k c', .int .i64 0, .int .i64 0, .slice wA ws.length wC] 52 (0, 0))) := Lib.hid (by rw [row_set Bv13.out 7 _]; rfl)
      go_upto_region 20 with fail
      obtain ⟨v1, hv1⟩ : ∃ W, (((((wr).setCell ⟨H0 + 1, 0, none⟩ (.int .i64 (kb : Int))).setCell ⟨H0 + 1, 2, none⟩ (.slice lA l1.length lC)).setCell ⟨H0 + 1, 9, none⟩ (.slice bA bm.length bC)).setCell ⟨H0 + 1, 13, none⟩ (.slice wA ws.length wC)).setCell ⟨H0 + 1, 7, none⟩ (.slice aA l2.length aC) = W := ⟨_, rfl⟩
      rw [hv1] at Bv14 ⊢
      have v1Bk : Hid (ButH (H0 + 1) w5 v1) := Lib.hid (by rw [← hv1]; exact (((((wrBk.out.set 0 (.int .i64 (kb : Int))).set 2 (.slice lA l1.length lC)).set 9 (.slice bA bm.length bC)).set 13 (.slice wA ws.length wC)).set 7 (.slice aA l2.length aC)))
      have v1Bw : Hid (Below w.heap.size w v1) := Lib.hid (by rw [← hv1]; exact (((((wrBw.out.setCell (p := ⟨H0 + 1, 0, none⟩) hHle (.int .i64 (kb : Int))).setCell (p := ⟨H0 + 1, 2, none⟩) hHle (.slice lA l1.length lC)).setCell (p := ⟨H0 + 1, 9, none⟩) hHle (.slice bA bm.length bC)).setCell (p := ⟨H0 + 1, 13, none⟩) hHle (.slice wA ws.length wC)).setCell (p := ⟨H0 + 1, 7, none⟩) hHle (.slice aA l2.length aC)))
      have v1Br : Hid (ButH (H0 + 1) wr v1) := Lib.hid (by rw [← hv1]; exact (((((wrBr.out.set 0 (.int .i64 (kb : Int))).set 2 (.slice lA l1.length lC)).set 9 (.slice bA bm.length bC)).set 13 (.slice wA ws.length wC)).set 7 (.slice aA l2.length aC)))
      clear hv1 y0 yf0 y1 yf1 y2 yf2 y3 yf3 y4 yf4
      have HAr : Hid (∀ (j : Nat) (W : World) (hj : j ≤ 1000000), Calls Try.prog 38 #[.string RT, .int .i64 (j : Int), .int .i64 8] W fun e w' => e = .returned (.tuple #[.int .i64 (atN R j 8 : Int), .bool (atOk R j 8)]) ∧ W = w') := Lib.hid (fun j W hj => by
        have := at17_any R j 8 W (by omega) (by omega) (by omega) (by have := HRsz.out; omega)
        rw [HD.out.2.2] at this
        exact this)
      obtain ⟨e1, he1⟩ : ∃ e, atN s 1 8 = e := ⟨_, rfl⟩
      obtain ⟨e2, he2⟩ : ∃ e, atN s Pp 8 = e := ⟨_, rfl⟩
      obtain ⟨e3, he3⟩ : ∃ e, atN s (Pp + 8) 8 = e := ⟨_, rfl⟩
      obtain ⟨e4, he4⟩ : ∃ e, atN s (Pp + 16) 8 = e := ⟨_, rfl⟩
      obtain ⟨e5, he5⟩ : ∃ e, atN s Q 8 = e := ⟨_, rfl⟩
      obtain ⟨e6, he6⟩ : ∃ e, atN R (1 + k) 8 = e := ⟨_, rfl⟩
      obtain ⟨e7, he7⟩ : ∃ e, atN R (9 + k) 8 = e := ⟨_, rfl⟩
      have HE := Lib.hid (And.intro he1 (And.intro he2 (And.intro he3 (And.intro he4 (And.intro he5 (And.intro he6 he7))))))
      have G1 := Lib.hid (fun W => HAt.out 1 W (by omega))
      have G2 := Lib.hid (fun W => HAt.out Pp W (by omega))
      have G3 := Lib.hid (fun W => HAt.out (Pp + 8) W (by omega))
      have G4 := Lib.hid (fun W => HAt.out (Pp + 16) W (by omega))
      have G5 := Lib.hid (fun W => HAt.out Q W (by omega))
      have G6 := Lib.hid (fun W => HAr.out (1 + k) W (by omega))
      have G7 := Lib.hid (fun W => HAr.out (9 + k) W (by omega))
      rw [show ((1 : Nat) : Int) = 1 from rfl, show ((8 : Nat) : Int) = 8 from rfl, he1] at G1
      rw [show ((8 : Nat) : Int) = 8 from rfl, he2] at G2
      rw [show ((Pp + 8 : Nat) : Int) = (Pp : Int) + 8 from by omega, show ((8 : Nat) : Int) = 8 from rfl, he3] at G3
      rw [show ((Pp + 16 : Nat) : Int) = (Pp : Int) + 16 from by omega, show ((8 : Nat) : Int) = 8 from rfl, he4] at G4
      rw [show ((8 : Nat) : Int) = 8 from rfl, he5] at G5
      rw [show ((1 + k : Nat) : Int) = 1 + (k : Int) from by omega, he6] at G6
      rw [show ((9 + k : Nat) : Int) = 9 + (k : Int) from by omega, he7] at G7
      have hwp8 : IntKind.i64.wrap ((Pp : Int) + 8) = (Pp : Int) + 8 := by rw [IntKind.wrap_i64]; omega
      have hwp16 : IntKind.i64.wrap ((Pp : Int) + 16) = (Pp : Int) + 16 := by rw [IntKind.wrap_i64]; omega
      have hwp24 : IntKind.i64.wrap ((Pp : Int) + 24) = (Pp : Int) + 24 := by rw [IntKind.wrap_i64]; omega
      have hw9k : IntKind.i64.wrap (9 + (k : Int)) = 9 + (k : Int) := by rw [IntKind.wrap_i64]; omega
      have hPT : Pp + 24 < T.size := by have := HQ1.out; omega
      clear he1 he2 he3 he4 he5 he6 he7 HAt HAr hkb hwkb hkbl

      have y0 : (v1).cell? ⟨H0 + 1, 1, none⟩ = some (.int .i64 0) := by rw [Lib.cell_of_heap Bv14.out]; rfl
      have yf0 : (v1).frozen? ⟨H0 + 1, 1, none⟩ = false := Lib.frozen_of_heap Bv14.out 1
      have Bv20 : Hid (((v1).setCell ⟨H0 + 1, 1, none⟩ (.int .i64 (e1 : Int))).heap[H0 + 1]? = some (.cells #[.int .i64 (kb : Int), .int .i64 (e1 : Int), .slice lA l1.length lC, .int .i64 0, .int .i64 0, .int .i64 0, .bool false, .slice aA l2.length aC, .int .i64 0, .slice bA bm.length bC, .slice A' k c', .int .i64 0, .int .i64 0, .slice wA ws.length wC] 52 (0, 0))) := Lib.hid (by rw [row_set Bv14.out 1 _]; rfl)
      go_upto_region 21 with (go_at_call 38; (with_reducible refine (G1.out _).mono ?_); rintro e w9 ⟨rfl, rfl⟩)
      obtain ⟨v2, hv2⟩ : ∃ W, (v1).setCell ⟨H0 + 1, 1, none⟩ (.int .i64 (e1 : Int)) = W := ⟨_, rfl⟩
      rw [hv2] at Bv20 ⊢
      have v2Bk : Hid (ButH (H0 + 1) w5 v2) := Lib.hid (by rw [← hv2]; exact (v1Bk.out.set 1 (.int .i64 (e1 : Int))))
      have v2Bw : Hid (Below w.heap.size w v2) := Lib.hid (by rw [← hv2]; exact (v1Bw.out.setCell (p := ⟨H0 + 1, 1, none⟩) hHle (.int .i64 (e1 : Int))))
      have v2Br : Hid (ButH (H0 + 1) wr v2) := Lib.hid (by rw [← hv2]; exact (v1Br.out.set 1 (.int .i64 (e1 : Int))))
      clear hv2 y0 yf0
      have y0 : (v2).cell? ⟨H0 + 1, 3, none⟩ = some (.int .i64 0) := by rw [Lib.cell_of_heap Bv20.out]; rfl
      have yf0 : (v2).frozen? ⟨H0 + 1, 3, none⟩ = false := Lib.frozen_of_heap Bv20.out 3
      have Bv30 : Hid (((v2).setCell ⟨H0 + 1, 3, none⟩ (.int .i64 (e2 : Int))).heap[H0 + 1]? = some (.cells #[.int .i64 (kb : Int), .int .i64 (e1 : Int), .slice lA l1.length lC, .int .i64 (e2 : Int), .int .i64 0, .int .i64 0, .bool false, .slice aA l2.length aC, .int .i64 0, .slice bA bm.length bC, .slice A' k c', .int .i64 0, .int .i64 0, .slice wA ws.length wC] 52 (0, 0))) := Lib.hid (by rw [row_set Bv20.out 3 _]; rfl)
      go_upto_region 22 with (go_at_call 38; (with_reducible refine (G2.out _).mono ?_); rintro e w9 ⟨rfl, rfl⟩)
      obtain ⟨v3, hv3⟩ : ∃ W, (v2).setCell ⟨H0 + 1, 3, none⟩ (.int .i64 (e2 : Int)) = W := ⟨_, rfl⟩
      rw [hv3] at Bv30 ⊢
      have v3Bk : Hid (ButH (H0 + 1) w5 v3) := Lib.hid (by rw [← hv3]; exact (v2Bk.out.set 3 (.int .i64 (e2 : Int))))
      have v3Bw : Hid (Below w.heap.size w v3) := Lib.hid (by rw [← hv3]; exact (v2Bw.out.setCell (p := ⟨H0 + 1, 3, none⟩) hHle (.int .i64 (e2 : Int))))
      have v3Br : Hid (ButH (H0 + 1) wr v3) := Lib.hid (by rw [← hv3]; exact (v2Br.out.set 3 (.int .i64 (e2 : Int))))
      clear hv3 y0 yf0
      have y0 : (v3).cell? ⟨H0 + 1, 4, none⟩ = some (.int .i64 0) := by rw [Lib.cell_of_heap Bv30.out]; rfl
      have yf0 : (v3).frozen? ⟨H0 + 1, 4, none⟩ = false := Lib.frozen_of_heap Bv30.out 4
      have Bv40 : Hid (((v3).setCell ⟨H0 + 1, 4, none⟩ (.int .i64 (e3 : Int))).heap[H0 + 1]? = some (.cells #[.int .i64 (kb : Int), .int .i64 (e1 : Int), .slice lA l1.length lC, .int .i64 (e2 : Int), .int .i64 (e3 : Int), .int .i64 0, .bool false, .slice aA l2.length aC, .int .i64 0, .slice bA bm.length bC, .slice A' k c', .int .i64 0, .int .i64 0, .slice wA ws.length wC] 52 (0, 0))) := Lib.hid (by rw [row_set Bv30.out 4 _]; rfl)
      go_upto_region 23 with (go_at_call 38; (with_reducible refine (G3.out _).mono ?_); rintro e w9 ⟨rfl, rfl⟩)
      obtain ⟨v4, hv4⟩ : ∃ W, (v3).setCell ⟨H0 + 1, 4, none⟩ (.int .i64 (e3 : Int)) = W := ⟨_, rfl⟩
      rw [hv4] at Bv40 ⊢
      have v4Bk : Hid (ButH (H0 + 1) w5 v4) := Lib.hid (by rw [← hv4]; exact (v3Bk.out.set 4 (.int .i64 (e3 : Int))))
      have v4Bw : Hid (Below w.heap.size w v4) := Lib.hid (by rw [← hv4]; exact (v3Bw.out.setCell (p := ⟨H0 + 1, 4, none⟩) hHle (.int .i64 (e3 : Int))))
      have v4Br : Hid (ButH (H0 + 1) wr v4) := Lib.hid (by rw [← hv4]; exact (v3Br.out.set 4 (.int .i64 (e3 : Int))))
      clear hv4 y0 yf0
      have y0 : (v4).cell? ⟨H0 + 1, 5, none⟩ = some (.int .i64 0) := by rw [Lib.cell_of_heap Bv40.out]; rfl
      have yf0 : (v4).frozen? ⟨H0 + 1, 5, none⟩ = false := Lib.frozen_of_heap Bv40.out 5
      have Bv50 : Hid (((v4).setCell ⟨H0 + 1, 5, none⟩ (.int .i64 (e4 : Int))).heap[H0 + 1]? = some (.cells #[.int .i64 (kb : Int), .int .i64 (e1 : Int), .slice lA l1.length lC, .int .i64 (e2 : Int), .int .i64 (e3 : Int), .int .i64 (e4 : Int), .bool false, .slice aA l2.length aC, .int .i64 0, .slice bA bm.length bC, .slice A' k c', .int .i64 0, .int .i64 0, .slice wA ws.length wC] 52 (0, 0))) := Lib.hid (by rw [row_set Bv40.out 5 _]; rfl)
      go_upto_region 24 with (go_at_call 38; (with_reducible refine (G4.out _).mono ?_); rintro e w9 ⟨rfl, rfl⟩)
      obtain ⟨v5, hv5⟩ : ∃ W, (v4).setCell ⟨H0 + 1, 5, none⟩ (.int .i64 (e4 : Int)) = W := ⟨_, rfl⟩
      rw [hv5] at Bv50 ⊢
      have v5Bk : Hid (ButH (H0 + 1) w5 v5) := Lib.hid (by rw [← hv5]; exact (v4Bk.out.set 5 (.int .i64 (e4 : Int))))
      have v5Bw : Hid (Below w.heap.size w v5) := Lib.hid (by rw [← hv5]; exact (v4Bw.out.setCell (p := ⟨H0 + 1, 5, none⟩) hHle (.int .i64 (e4 : Int))))
      have v5Br : Hid (ButH (H0 + 1) wr v5) := Lib.hid (by rw [← hv5]; exact (v4Br.out.set 5 (.int .i64 (e4 : Int))))
      clear hv5 y0 yf0
      have hPi0 : (0 : Int) ≤ (Pp : Int) + 24 := by omega
      have hPi1 : ((Pp : Int) + 24).toNat = Pp + 24 := by omega
      have hPi2 : (Pp : Int) + 24 < (T.size : Int) := by omega
      obtain ⟨fb, hfb⟩ : ∃ b, T[Pp + 24].toNat = b := ⟨_, rfl⟩
      obtain ⟨fB, hfB⟩ : ∃ b, ((fb : Int) == 1) = b := ⟨_, rfl⟩
      have HFb := Lib.hid (And.intro hfb hfB)
      have y0 : (v5).cell? ⟨H0 + 1, 6, none⟩ = some (.bool false) := by rw [Lib.cell_of_heap Bv50.out]; rfl
      have yf0 : (v5).frozen? ⟨H0 + 1, 6, none⟩ = false := Lib.frozen_of_heap Bv50.out 6
      have Bv60 : Hid (((v5).setCell ⟨H0 + 1, 6, none⟩ (.bool fB)).heap[H0 + 1]? = some (.cells #[.int .i64 (kb : Int), .int .i64 (e1 : Int), .slice lA l1.length lC, .int .i64 (e2 : Int), .int .i64 (e3 : Int), .int .i64 (e4 : Int), .bool fB, .slice aA l2.length aC, .int .i64 0, .slice bA bm.length bC, .slice A' k c', .int .i64 0, .int .i64 0, .slice wA ws.length wC] 52 (0, 0))) := Lib.hid (by rw [row_set Bv50.out 6 _]; rfl)
      go_upto_region 25 with fail
      obtain ⟨v6, hv6⟩ : ∃ W, (v5).setCell ⟨H0 + 1, 6, none⟩ (.bool fB) = W := ⟨_, rfl⟩
      rw [hv6] at Bv60 ⊢
      have v6Bk : Hid (ButH (H0 + 1) w5 v6) := Lib.hid (by rw [← hv6]; exact (v5Bk.out.set 6 (.bool fB)))
      have v6Bw : Hid (Below w.heap.size w v6) := Lib.hid (by rw [← hv6]; exact (v5Bw.out.setCell (p := ⟨H0 + 1, 6, none⟩) hHle (.bool fB)))
      have v6Br : Hid (ButH (H0 + 1) wr v6) := Lib.hid (by rw [← hv6]; exact (v5Br.out.set 6 (.bool fB)))
      clear hv6 y0 yf0
      clear hfb hfB hPi0 hPi1 hPi2
      have y0 : (v6).cell? ⟨H0 + 1, 8, none⟩ = some (.int .i64 0) := by rw [Lib.cell_of_heap Bv60.out]; rfl
      have yf0 : (v6).frozen? ⟨H0 + 1, 8, none⟩ = false := Lib.frozen_of_heap Bv60.out 8
      have Bv70 : Hid (((v6).setCell ⟨H0 + 1, 8, none⟩ (.int .i64 (e5 : Int))).heap[H0 + 1]? = some (.cells #[.int .i64 (kb : Int), .int .i64 (e1 : Int), .slice lA l1.length lC, .int .i64 (e2 : Int), .int .i64 (e3 : Int), .int .i64 (e4 : Int), .bool fB, .slice aA l2.length aC, .int .i64 (e5 : Int), .slice bA bm.length bC, .slice A' k c', .int .i64 0, .int .i64 0, .slice wA ws.length wC] 52 (0, 0))) := Lib.hid (by rw [row_set Bv60.out 8 _]; rfl)
      go_upto_region 26 with (go_at_call 38; (with_reducible refine (G5.out _).mono ?_); rintro e w9 ⟨rfl, rfl⟩)
      obtain ⟨v7, hv7⟩ : ∃ W, (v6).setCell ⟨H0 + 1, 8, none⟩ (.int .i64 (e5 : Int)) = W := ⟨_, rfl⟩
      rw [hv7] at Bv70 ⊢
      have v7Bk : Hid (ButH (H0 + 1) w5 v7) := Lib.hid (by rw [← hv7]; exact (v6Bk.out.set 8 (.int .i64 (e5 : Int))))
      have v7Bw : Hid (Below w.heap.size w v7) := Lib.hid (by rw [← hv7]; exact (v6Bw.out.setCell (p := ⟨H0 + 1, 8, none⟩) hHle (.int .i64 (e5 : Int))))
      have v7Br : Hid (ButH (H0 + 1) wr v7) := Lib.hid (by rw [← hv7]; exact (v6Br.out.set 8 (.int .i64 (e5 : Int))))
      clear hv7 y0 yf0
      have y0 : (v7).cell? ⟨H0 + 1, 11, none⟩ = some (.int .i64 0) := by rw [Lib.cell_of_heap Bv70.out]; rfl
      have yf0 : (v7).frozen? ⟨H0 + 1, 11, none⟩ = false := Lib.frozen_of_heap Bv70.out 11
      have Bv80 : Hid (((v7).setCell ⟨H0 + 1, 11, none⟩ (.int .i64 (e6 : Int))).heap[H0 + 1]? = some (.cells #[.int .i64 (kb : Int), .int .i64 (e1 : Int), .slice lA l1.length lC, .int .i64 (e2 : Int), .int .i64 (e3 : Int), .int .i64 (e4 : Int), .bool fB, .slice aA l2.length aC, .int .i64 (e5 : Int), .slice bA bm.length bC, .slice A' k c', .int .i64 (e6 : Int), .int .i64 0, .slice wA ws.length wC] 52 (0, 0))) := Lib.hid (by rw [row_set Bv70.out 11 _]; rfl)
      go_upto_region 27 with (go_at_call 38; (with_reducible refine (G6.out _).mono ?_); rintro e w9 ⟨rfl, rfl⟩)
      obtain ⟨v8, hv8⟩ : ∃ W, (v7).setCell ⟨H0 + 1, 11, none⟩ (.int .i64 (e6 : Int)) = W := ⟨_, rfl⟩
      rw [hv8] at Bv80 ⊢
      have v8Bk : Hid (ButH (H0 + 1) w5 v8) := Lib.hid (by rw [← hv8]; exact (v7Bk.out.set 11 (.int .i64 (e6 : Int))))
      have v8Bw : Hid (Below w.heap.size w v8) := Lib.hid (by rw [← hv8]; exact (v7Bw.out.setCell (p := ⟨H0 + 1, 11, none⟩) hHle (.int .i64 (e6 : Int))))
      have v8Br : Hid (ButH (H0 + 1) wr v8) := Lib.hid (by rw [← hv8]; exact (v7Br.out.set 11 (.int .i64 (e6 : Int))))
      clear hv8 y0 yf0
      have y0 : (v8).cell? ⟨H0 + 1, 12, none⟩ = some (.int .i64 0) := by rw [Lib.cell_of_heap Bv80.out]; rfl
      have yf0 : (v8).frozen? ⟨H0 + 1, 12, none⟩ = false := Lib.frozen_of_heap Bv80.out 12
      have Bv90 : Hid (((v8).setCell ⟨H0 + 1, 12, none⟩ (.int .i64 (e7 : Int))).heap[H0 + 1]? = some (.cells #[.int .i64 (kb : Int), .int .i64 (e1 : Int), .slice lA l1.length lC, .int .i64 (e2 : Int), .int .i64 (e3 : Int), .int .i64 (e4 : Int), .bool fB, .slice aA l2.length aC, .int .i64 (e5 : Int), .slice bA bm.length bC, .slice A' k c', .int .i64 (e6 : Int), .int .i64 (e7 : Int), .slice wA ws.length wC] 52 (0, 0))) := Lib.hid (by rw [row_set Bv80.out 12 _]; rfl)
      go_upto_region 28 with (go_at_call 38; (with_reducible refine (G7.out _).mono ?_); rintro e w9 ⟨rfl, rfl⟩)
      obtain ⟨v9, hv9⟩ : ∃ W, (v8).setCell ⟨H0 + 1, 12, none⟩ (.int .i64 (e7 : Int)) = W := ⟨_, rfl⟩
      rw [hv9] at Bv90 ⊢
      have v9Bk : Hid (ButH (H0 + 1) w5 v9) := Lib.hid (by rw [← hv9]; exact (v8Bk.out.set 12 (.int .i64 (e7 : Int))))
      have v9Bw : Hid (Below w.heap.size w v9) := Lib.hid (by rw [← hv9]; exact (v8Bw.out.setCell (p := ⟨H0 + 1, 12, none⟩) hHle (.int .i64 (e7 : Int))))
      have v9Br : Hid (ButH (H0 + 1) wr v9) := Lib.hid (by rw [← hv9]; exact (v8Br.out.set 12 (.int .i64 (e7 : Int))))
      clear hv9 y0 yf0
      obtain ⟨x, hx⟩ : ∃ x : MgM, x = ⟨lA, lC, aA, aC, bA, bC, A', c', wA, wC⟩ := ⟨_, rfl⟩
      obtain ⟨m, hm⟩ : ∃ m : Mg, m = ⟨kb, e1, l1, e2, e3, e4, fB, l2, e5, bm, SZ, e6, e7, ws⟩ := ⟨_, rfl⟩
      have hTs : T.data.toList = s := by rw [← HT.out]; rfl
      have HCm : Hid (cand s ws = m) := Lib.hid (by
        have hk0 : dec (s.take 1) = kb := by
          have h0 : 0 < s.length := by have := HSz.out; omega
          rw [show s.take 1 = (s.drop 0).take 1 from rfl, dec_byte h0, ← HKb.out]
          have := HT.out
          subst this
          rfl
        have hk24 : dec ((s.drop (Pp + 24)).take 1) = fb := by
          have h0 : Pp + 24 < s.length := by have := HSz.out; omega
          rw [dec_byte h0, ← HFb.out.1]
          have := HT.out
          subst this
          rfl
        have hfB2 : decide (fb = 1) = fB := by
          rw [← HFb.out.2, Bool.eq_iff_iff, decide_eq_true_iff, beq_iff_eq]; omega
        obtain ⟨c1, c2, c3, c4⟩ := HCd.out
        obtain ⟨g1, g2, g3, g4, g5, g6, g7⟩ := HE.out
        unfold cand
        rw [c1, c2, c3, c4, hk0, HPq.out.1, HPq.out.2, HpN.out.1, HpN.out.2, hk24, hfB2, HSZ.out, g1, g2, g3, g4, g5, g6, g7, hm])
      have HBox := Lib.hid (show BoxMg v9 (H0 + 1) m x from BoxMg.of (t := 52) (by
        rw [Bv90.out, hm, hx]
        unfold Mg.cells
        dsimp only
        rw [hSZl]))
      have HOl := own_kept17 HOk2.out hsz5 v9Br.out
      rw [List.take_of_length_le (by omega)] at HOl
      have HOw := Lib.hid HOl
      have HMg : Hid (MgAt v9 m x) := Lib.hid (by
        obtain ⟨A9, c9, h9, _, hl9⟩ := own_lies HOw.out
        simp only [Value.slice.injEq] at h9
        obtain ⟨rfl, _, rfl⟩ := h9
        rw [hm, hx]
        exact ⟨brs_kept (HA2.out.next (below_next hB3.out (below_next hB4.out hB5.out))) HX5.out HLo1.out v9Bk.out, brs_kept (HA3.out.next (below_next hB4.out hB5.out)) HX5.out HLo2.out v9Bk.out, bts_kept (HA4.out.next hB5.out) HX5.out HBo.out.1 v9Bk.out, hl9, wrs_kept HA5.out HX5.out HWo.out.2.2 v9Bk.out⟩)
      have HFt : Hid (MgFit m) := Lib.hid (by
        rw [hm]
        have h1 := (lined_fit HLo1.out).2
        have h2 := (lined_fit HLo2.out).2
        have h3 := bitsOk_length HBo.out.1
        have h4 := HWo.out.1
        exact ⟨by dsimp only; omega, by dsimp only; omega, ⟨by dsimp only; omega, fun b hb => ⟨HBo.out.2 b hb, by have := bitsFrom_le HBo.out.1 b hb; omega⟩⟩, by dsimp only; omega, by dsimp only; omega⟩)
      have HLi : Hid (m.line = l1 ∧ m.anc = l2 ∧ m.bits = bm ∧ m.sizes = SZ ∧ m.ws = ws ∧ x.lA = lA ∧ x.aA = aA ∧ x.bA = bA ∧ x.sA = A' ∧ x.wA = wA ∧ x.sC = c') := Lib.hid (by rw [hm, hx]; exact ⟨rfl, rfl, rfl, rfl, rfl, rfl, rfl, rfl, rfl, rfl, rfl⟩)
      clear hm hx HOl
      have HRt := Lib.hid (right17_any m x HMg.out HFt.out)
      have HR9 : Hid (v9.heap[H0]? = some (.cells zMg 52 (0, 0))) := Lib.hid ((v9Bk.out.block H0 (by omega) (by omega)).trans HR5.out)
      have HIff := Lib.hid (mgOkB_iff HFt.out.bits)
      obtain ⟨ok, hok⟩ : ∃ b, mgOkB m = b := ⟨_, rfl⟩
      rw [hok] at HRt HIff
      unfold Mg.val Mg.cells at HRt
      obtain ⟨b0, b1, b2, b3, b4, b5, b6, b7, b8, b9, b10, b11, b12, b13⟩ := HBox.out
      clear hok hTs
      cases ok with
      | false =>
        have HNt : Hid (∀ m, ¬ Told s m) := Lib.hid (cand_no HOk.out (fun h => by rw [HCm.out] at h; have := HIff.out.2 h.1; cases this))
        go_upto_region 29 with (go_at_call 24; (with_reducible refine HRt.out.mono ?_); rintro e u1 ⟨rfl, hb9⟩; have HBu1 := Lib.hid hb9; obtain ⟨d0, d1, d2, d3, d4, d5, d6, d7, d8, d9, d10, d11, d12, d13⟩ := HBox.out.next hb9; clear b0 b1 b2 b3 b4 b5 b6 b7 b8 b9 b10 b11 b12 b13 hb9)
        have HRz := Lib.hid ((HBu1.out.block H0 (by have := v9Bk.out.size; omega)).trans HR9.out)
        go_wp2_with (first
          | (refine wpList_store_row rfl 52 (.tmp 2) (.tmp 181) rfl H0 zMg rfl rfl 52 zMg HRz.out zMg_info rfl zMg_one ?_))
        have HRr := setRow_heap u1 H0 zMg zMg 52 (0, 0) HRz.out
        refine bodyPost_ret (v := .tuple #[.agg zMg, .bool false]) (results_cell17 (p := 2) (u := 3) (ty := 52) rfl _ _ H0 52 zMg (0, 0) _ rfl HRr msg_desc17 rfl zMg_info) rfl ?_
        exact .inr ⟨HNt.out, rfl, below_setRow (v9Bw.out.trans (HBu1.out.mono v9Bw.out.size)) (Nat.le_of_eq HH0.out) _⟩
      | true =>
        have hmok := HIff.out.1 rfl
        have HBt := Lib.hid (fun W (hb : Below v9.heap.size v9 W) => bytes17_any m x (HMg.out.next hb) HFt.out hmok)
        unfold Mg.val Mg.cells at HBt
        obtain ⟨X, hX⟩ : ∃ X, str (mgB m) = X := ⟨_, rfl⟩
        rw [hX] at HBt
        by_cases hXT : X = T
        · subst hXT
          have HTold : Hid (Told s m) := Lib.hid ⟨hmok, by
            have h1 := congrArg (fun b : ByteArray => b.data.toList) (hX.trans HT.out.symm)
            simpa [str] using h1⟩
          clear hX
          go_upto_region 30 with (first | (go_at_call 24; (with_reducible refine HRt.out.mono ?_); rintro e u1 ⟨rfl, hb9⟩; have HBu1 := Lib.hid hb9; obtain ⟨d0, d1, d2, d3, d4, d5, d6, d7, d8, d9, d10, d11, d12, d13⟩ := HBox.out.next hb9; clear b0 b1 b2 b3 b4 b5 b6 b7 b8 b9 b10 b11 b12 b13 hb9) | (go_at_call 27; (with_reducible refine (HBt.out _ HBu1.out).mono ?_); rintro e u2 ⟨rfl, hb9⟩; have HBu2 := Lib.hid (below_next HBu1.out hb9); clear d0 d1 d2 d3 d4 d5 d6 d7 d8 d9 d10 d11 d12 d13 hb9))
          obtain ⟨d0, d1, d2, d3, d4, d5, d6, d7, d8, d9, d10, d11, d12, d13⟩ := HBox.out.next HBu2.out
          have HRz := Lib.hid ((HBu2.out.block H0 (by have := v9Bk.out.size; omega)).trans HR9.out)
          go_wp2_with (first
            | (refine wpList_store_row rfl 52 (.tmp 2) (.tmp 182) rfl H0 (m.cells x) rfl rfl 52 zMg HRz.out zMg_info rfl (mg_one17 m x) ?_))
          have HRr := setRow_heap u2 H0 zMg (m.cells x) 52 (0, 0) HRz.out
          refine bodyPost_ret (v := .tuple #[.agg (m.cells x), .bool true]) (results_cell17 (p := 2) (u := 3) (ty := 52) rfl _ _ H0 52 (m.cells x) (0, 0) _ rfl HRr msg_desc17 rfl zMg_info) rfl ?_
          have hBt : ButH H0 u2 (u2.setRow H0 (m.cells x)) := ⟨by simp, fun k _ hn => setRow_other u2 H0 k _ hn⟩
          have hM2 := HMg.out.next HBu2.out
          have hOw2 := own_kept17 (own_kept17 HOw.out (by omega) ((ButH.refl (H0 + 1) v9).below HBu2.out)) (by omega) hBt
          obtain ⟨f1, f2, f3, f4, f5, f6, f7, f8, f9, f10, f11⟩ := HLi.out
          refine .inl ⟨m, x, HTold.out, rfl, ⟨brs_kept hM2.line HRz.out (by rw [f1]; exact HLo1.out) hBt, brs_kept hM2.anc HRz.out (by rw [f2]; exact HLo2.out) hBt, bts_kept hM2.bits HRz.out (by rw [f3]; exact HBo.out.1) hBt, ?_, wrs_kept hM2.ws HRz.out (by rw [f5]; exact HWo.out.2.2) hBt⟩, below_setRow (v9Bw.out.trans (HBu2.out.mono v9Bw.out.size)) (Nat.le_of_eq HH0.out) _⟩
          obtain ⟨A9, c9, h9, _, hl9⟩ := own_lies hOw2
          simp only [Value.slice.injEq] at h9
          obtain ⟨rfl, _, rfl⟩ := h9
          rw [f4, f9]
          exact hl9
        · have hXT2 : (X.toList == T.toList) = false := by rw [beq_eq_false_iff_ne, ne_eq, Lib.toList_data, Lib.toList_data]; exact fun e => hXT (by rw [← str_of X, ← str_of T, e])
          have HNt : Hid (∀ m, ¬ Told s m) := Lib.hid (cand_no HOk.out (fun h => hXT (by rw [HCm.out] at h; rw [← hX, ← HT.out, h.2])))
          clear hX
          go_upto_region 29 with (first | (go_at_call 24; (with_reducible refine HRt.out.mono ?_); rintro e u1 ⟨rfl, hb9⟩; have HBu1 := Lib.hid hb9; obtain ⟨d0, d1, d2, d3, d4, d5, d6, d7, d8, d9, d10, d11, d12, d13⟩ := HBox.out.next hb9; clear b0 b1 b2 b3 b4 b5 b6 b7 b8 b9 b10 b11 b12 b13 hb9) | (go_at_call 27; (with_reducible refine (HBt.out _ HBu1.out).mono ?_); rintro e u2 ⟨rfl, hb9⟩; have HBu2 := Lib.hid (below_next HBu1.out hb9); clear d0 d1 d2 d3 d4 d5 d6 d7 d8 d9 d10 d11 d12 d13 hb9))
          have HRz := Lib.hid ((HBu2.out.block H0 (by have := v9Bk.out.size; omega)).trans HR9.out)
          go_wp2_with (first
            | (refine wpList_store_row rfl 52 (.tmp 2) (.tmp 181) rfl H0 zMg rfl rfl 52 zMg HRz.out zMg_info rfl zMg_one ?_))
          have HRr := setRow_heap u2 H0 zMg zMg 52 (0, 0) HRz.out
          refine bodyPost_ret (v := .tuple #[.agg zMg, .bool false]) (results_cell17 (p := 2) (u := 3) (ty := 52) rfl _ _ H0 52 zMg (0, 0) _ rfl HRr msg_desc17 rfl zMg_info) rfl ?_
          exact .inr ⟨HNt.out, rfl, below_setRow (v9Bw.out.trans (HBu2.out.mono v9Bw.out.size)) (Nat.le_of_eq HH0.out) _⟩
end Go.Proofs.Ytkpoeigoocbgeaa
