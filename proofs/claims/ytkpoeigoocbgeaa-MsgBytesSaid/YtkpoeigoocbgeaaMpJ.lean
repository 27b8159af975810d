/- Contract of the function Bytes of the package msg: its last region draws its order and makes memory: walked over a table of slots. -/
import Derived.Test.YtkpoeigoocbgeaaMpI
namespace Go.Proofs.Ytkpoeigoocbgeaa
open Go.RowKit

noncomputable def bytE (m : Mg) : Int := if mgOkB m = true then 0 else 1
noncomputable def bytS (m : Mg) : List UInt8 := if mgOkB m = true then mgB m else []
theorem mgB_size17 {m : Mg} (h : MgOk m) : (mgB m).length ≤ 10000 := by
  have h1 := (lined_fit h.line).2
  have h2 := (lined_fit (anc_fit h.anc).1).2
  have h3 := bitsOk_length h.bits.1
  have h4 := (blankOk_each h.sizes).1
  have h5 := h.ws.1
  have h6 := wrsB_len17 h.ws.2.2
  have e1 : (bitsB m.bits).length = 1 + m.bits.length * 5 := by rw [show bitsB m.bits = bytM m.bits from rfl]; unfold bytM; rw [List.length_append, enc_length, eltsB_length]
  have e2 : (szB m.sizes).length = 1 + m.sizes.length := by unfold szB; rw [List.length_append, enc_length, enc1_flat, List.length_map]
  have e3 : (writesB m.ws).length = 2 + (wrsB m.ws).length := by unfold writesB; rw [List.length_append, enc_length]
  unfold mgB
  simp only [List.length_append, enc_length, lineB_length, e1, e2, e3]
  omega
theorem mp_parts (m : Mg) : ((((((((((encs 1 [m.kind] ++ encs 8 [m.epoch]) ++ lineB m.line) ++ encs 8 [m.seq, m.n, m.of_]) ++ encs 1 [((fullN m.full : Nat) : Int)]) ++ lineB m.anc) ++ encs 8 [m.ancS]) ++ bitsB m.bits) ++ encs 1 [((m.sizes.length : Nat) : Int)]) ++ encs 1 m.sizes) ++ encs 8 [m.from_, m.to_]) ++ writesB m.ws = mgB m := by
  unfold mgB szB encs
  simp only [List.flatMap_cons, List.flatMap_nil, List.append_nil, List.append_assoc, Int.toNat_natCast]
theorem fit_bound17 {n : Int} (h : fitB n = true) : 0 ≤ n ∧ n.toNat < 256 ^ 8 ∧ n ≤ 9223372036854775807 := by
  rw [fitB_iff] at h
  exact ⟨by omega, by omega, by omega⟩

set_option maxHeartbeats 8000000 in
set_option maxRecDepth 100000 in
theorem PBytes_any {w : World} (m : Mg) (x : MgM) (h : MgAt w m x) (hf : MgFit m) :
    Calls Try.prog 23 #[m.val x] w fun e w' => e = .returned (.tuple #[.string (str (bytS m)), .int .i64 (bytE m)]) ∧ Below w.heap.size w w' := by
  obtain ⟨V, hV⟩ : ∃ V, V = w.alloc (.cells (m.cells x) 52) := ⟨_, rfl⟩
  have hb0 : Below w.heap.size w V := by rw [hV]; exact below_one _ _
  have hrow : V.heap[w.heap.size]? = some (.cells (m.cells x) 52 (0, 0)) := by rw [hV]; exact heap_new _ _
  have HX := Lib.hid (show BoxMg V w.heap.size m x from BoxMg.of hrow)
  have HRow := Lib.hid hrow
  have HB0 := Lib.hid hb0
  have hm := h.next hb0
  have HV := Lib.hid hV
  have HRt := Lib.hid (PRight_any m x hm hf)
  have HBox := Lib.hid (fun W (hb : Below V.heap.size V W) => HX.out.next hb)
  cases hq : mgOkB m with
  | false =>
    have e1 : bytS m = [] := by unfold bytS; rw [hq]; rfl
    have e2 : bytE m = 1 := by unfold bytE; rw [hq]; rfl
    rw [e1, e2]
    rw [hq] at HRt
    unfold Mg.val at HRt ⊢
    have HSz : Hid ((Try.prog.info? 52).map (·.size) = some (m.cells x).size) := Lib.hid zMg_info
    generalize m.cells x = cs at HRt HV HRow HSz ⊢
    clear h hf hb0 hrow hV hm e1 e2 hq HX HBox
    go_enter Try.func23, Try.ntmps23
    go_upto_region 1 with fail
    rw [← HV.out]
    go_wp2_with (first
      | (refine wpList_load_row rfl 52 (.tmp 1) rfl w.heap.size rfl 52 cs (0, 0) _ HRow.out msg_desc17 rfl HSz.out ?_)
      | (go_at_call 25; (with_reducible refine HRt.out.mono ?_); rintro e w1 ⟨rfl, hb⟩; have HB1 := Lib.hid hb; clear hb))
    go_ret2
    exact ⟨rfl, below_next HB0.out HB1.out⟩
  | true =>
    have hk := (mgOkB_iff hf.bits).1 hq
    have e1 : bytS m = mgB m := by unfold bytS; rw [hq]; rfl
    have e2 : bytE m = 0 := by unfold bytE; rw [hq]; rfl
    rw [e1, e2, ← mp_parts]
    rw [hq] at HRt
    have l1 := lined_fit hk.line
    have l2 := lined_fit (anc_fit hk.anc).1
    have hl1 : putLnS m.line = lineB m.line ∧ putLnE m.line = 0 := by unfold putLnS putLnE; rw [hk.line]; exact ⟨rfl, rfl⟩
    have hl2 : putLnS m.anc = lineB m.anc ∧ putLnE m.anc = 0 := by unfold putLnS putLnE; rw [(anc_fit hk.anc).1]; exact ⟨rfl, rfl⟩
    have hw1 : putWsS m.ws = writesB m.ws ∧ putWsE m.ws = 0 := by unfold putWsS putWsE; rw [(writable_iff _).2 hk.ws]; exact ⟨rfl, rfl⟩
    have HLi := Lib.hid (fun W (hb : Below V.heap.size V W) => PPutLine_any (c := x.lC) (hm.line.next hb) (by have := l1.2; omega))
    have HAn := Lib.hid (fun W (hb : Below V.heap.size V W) => PPutLine_any (c := x.aC) (hm.anc.next hb) (by have := l2.2; omega))
    have HBi := Lib.hid (fun W (hb : Below V.heap.size V W) => Bytes_ok (c := x.bC) (hm.bits.next hb) hf.bits hk.bits.1)
    have HWs := Lib.hid (fun W (hb : Below V.heap.size V W) => PPutWrites_big (c := x.wC) (hm.ws.next hb) hf.ws)
    rw [hl1.1, hl1.2] at HLi
    rw [hl2.1, hl2.2] at HAn
    rw [hw1.1, hw1.2] at HWs
    rw [show bytM m.bits = bitsB m.bits from rfl] at HBi
    have HSi := Lib.hid (fun W (hb : Below V.heap.size V W) => hm.sizes.next hb)
    have HK := Lib.hid hk
    have HLe : Hid ((lineB m.line).length ≤ 2000 ∧ (lineB m.anc).length ≤ 2000 ∧ (bitsB m.bits).length ≤ 2000 ∧ (writesB m.ws).length ≤ 2000 ∧ m.sizes.length ≤ 8) := Lib.hid (by
      have h3 := bitsOk_length hk.bits.1
      have h4 := (blankOk_each hk.sizes).1
      have h5 := hk.ws.1
      have h6 := wrsB_len17 hk.ws.2.2
      have e1 : (bitsB m.bits).length = 1 + m.bits.length * 5 := by rw [show bitsB m.bits = bytM m.bits from rfl]; unfold bytM; rw [List.length_append, enc_length, eltsB_length]
      have e3 : (writesB m.ws).length = 2 + (wrsB m.ws).length := by unfold writesB; rw [List.length_append, enc_length]
      have := l1.2
      have := l2.2
      rw [lineB_length, lineB_length]
      exact ⟨by omega, by omega, by omega, by omega, by omega⟩)
    have hcs : m.val x = .agg (m.cells x) := rfl
    rw [hcs] at HRt ⊢
    have HSz : Hid ((Try.prog.info? 52).map (·.size) = some (m.cells x).size) := Lib.hid zMg_info
    obtain ⟨cs, hcs2⟩ : ∃ cs, m.cells x = cs := ⟨_, rfl⟩
    rw [hcs2] at HRt HV HRow HSz ⊢
    obtain ⟨LB, hLB⟩ : ∃ L, lineB m.line = L := ⟨_, rfl⟩
    obtain ⟨AB, hAB⟩ : ∃ L, lineB m.anc = L := ⟨_, rfl⟩
    obtain ⟨BB, hBB⟩ : ∃ L, bitsB m.bits = L := ⟨_, rfl⟩
    obtain ⟨WB, hWB⟩ : ∃ L, writesB m.ws = L := ⟨_, rfl⟩
    rw [hLB] at HLi HLe ⊢
    rw [hAB] at HAn HLe ⊢
    rw [hBB] at HBi HLe ⊢
    rw [hWB] at HWs HLe ⊢
    clear h hf hb0 hrow hV hm e1 e2 hq hk l1 l2 hl1 hl2 hw1 HX hcs hcs2 hLB hAB hBB hWB
    go_enter Try.func23, Try.ntmps23
    go_upto_region 1 with fail
    rw [← HV.out]
    go_upto_region 3 with (first
      | (refine wpList_load_row rfl 52 (.tmp 1) rfl w.heap.size rfl 52 cs (0, 0) _ HRow.out msg_desc17 rfl HSz.out ?_)
      | (go_at_call 25; (with_reducible refine HRt.out.mono ?_); rintro e w1 ⟨rfl, hb⟩; have HB1 := Lib.hid hb; clear hb))
    have c1 := (HBox.out _ HB1.out).c2
    go_upto_region 4 with (go_at_call 10; (with_reducible refine (HLi.out _ HB1.out).mono ?_); rintro e w2 ⟨rfl, hb⟩; have HB2 := Lib.hid (below_next HB1.out hb); clear hb)
    clear c1
    have c1 := (HBox.out _ HB2.out).c7
    go_upto_region 5 with (go_at_call 10; (with_reducible refine (HAn.out _ HB2.out).mono ?_); rintro e w3 ⟨rfl, hb⟩; have HB3 := Lib.hid (below_next HB2.out hb); clear hb)
    clear c1
    have c1 := (HBox.out _ HB3.out).c9
    go_upto_region 6 with (go_at_call 44; (with_reducible refine (HBi.out _ HB3.out).mono ?_); rintro e w4 ⟨rfl, hb⟩; have HB4 := Lib.hid (below_next HB3.out hb); clear hb)
    clear c1
    have c1 := (HBox.out _ HB4.out).c13
    go_upto_region 7 with (go_at_call 16; (with_reducible refine (HWs.out _ HB4.out).mono ?_); rintro e U ⟨rfl, hb⟩; have HB5 := Lib.hid (below_next HB4.out hb); clear hb)
    clear c1
    refine wp_region_table (n := 98) [(41, .inl (.pointer (some ⟨w.heap.size, 0, none⟩))),
      (42, .inl (.int .i64 m.kind)),
      (43, .inr [m.kind]),
      (44, .inl (.string (str (encs 1 [m.kind])))),
      (45, .inl (.pointer (some ⟨w.heap.size, 1, none⟩))),
      (46, .inl (.int .i64 m.epoch)),
      (47, .inr [m.epoch]),
      (48, .inl (.string (str (encs 8 [m.epoch])))),
      (49, .inl (.string (str ((encs 1 [m.kind]) ++ (encs 8 [m.epoch]))))),
      (50, .inl (.string (str LB))),
      (51, .inl (.string (str (((encs 1 [m.kind]) ++ (encs 8 [m.epoch])) ++ LB)))),
      (52, .inl (.pointer (some ⟨w.heap.size, 3, none⟩))),
      (53, .inl (.int .i64 m.seq)),
      (54, .inl (.pointer (some ⟨w.heap.size, 4, none⟩))),
      (55, .inl (.int .i64 m.n)),
      (56, .inl (.pointer (some ⟨w.heap.size, 5, none⟩))),
      (57, .inl (.int .i64 m.of_)),
      (58, .inr [m.seq, m.n, m.of_]),
      (59, .inl (.string (str (encs 8 [m.seq, m.n, m.of_])))),
      (60, .inl (.string (str ((((encs 1 [m.kind]) ++ (encs 8 [m.epoch])) ++ LB) ++ (encs 8 [m.seq, m.n, m.of_]))))),
      (61, .inl (.pointer (some ⟨w.heap.size, 6, none⟩))),
      (62, .inl (.bool m.full)),
      (63, .inl (.int .i64 ((fullN m.full : Nat) : Int))),
      (64, .inr [((fullN m.full : Nat) : Int)]),
      (65, .inl (.string (str (encs 1 [((fullN m.full : Nat) : Int)])))),
      (66, .inl (.string (str (((((encs 1 [m.kind]) ++ (encs 8 [m.epoch])) ++ LB) ++ (encs 8 [m.seq, m.n, m.of_])) ++ (encs 1 [((fullN m.full : Nat) : Int)]))))),
      (67, .inl (.string (str AB))),
      (68, .inl (.string (str ((((((encs 1 [m.kind]) ++ (encs 8 [m.epoch])) ++ LB) ++ (encs 8 [m.seq, m.n, m.of_])) ++ (encs 1 [((fullN m.full : Nat) : Int)])) ++ AB)))),
      (69, .inl (.pointer (some ⟨w.heap.size, 7, none⟩))),
      (70, .inl (.pointer (some ⟨w.heap.size, 8, none⟩))),
      (71, .inl (.int .i64 m.ancS)),
      (72, .inr [m.ancS]),
      (73, .inl (.string (str (encs 8 [m.ancS])))),
      (74, .inl (.string (str (((((((encs 1 [m.kind]) ++ (encs 8 [m.epoch])) ++ LB) ++ (encs 8 [m.seq, m.n, m.of_])) ++ (encs 1 [((fullN m.full : Nat) : Int)])) ++ AB) ++ (encs 8 [m.ancS]))))),
      (75, .inl (.string (str BB))),
      (76, .inl (.string (str ((((((((encs 1 [m.kind]) ++ (encs 8 [m.epoch])) ++ LB) ++ (encs 8 [m.seq, m.n, m.of_])) ++ (encs 1 [((fullN m.full : Nat) : Int)])) ++ AB) ++ (encs 8 [m.ancS])) ++ BB)))),
      (77, .inl (.pointer (some ⟨w.heap.size, 10, none⟩))),
      (78, .inl (.slice x.sA m.sizes.length x.sC)),
      (79, .inl (.int .i64 ((m.sizes.length : Nat) : Int))),
      (80, .inr [((m.sizes.length : Nat) : Int)]),
      (81, .inl (.string (str (encs 1 [((m.sizes.length : Nat) : Int)])))),
      (82, .inl (.string (str (((((((((encs 1 [m.kind]) ++ (encs 8 [m.epoch])) ++ LB) ++ (encs 8 [m.seq, m.n, m.of_])) ++ (encs 1 [((fullN m.full : Nat) : Int)])) ++ AB) ++ (encs 8 [m.ancS])) ++ BB) ++ (encs 1 [((m.sizes.length : Nat) : Int)]))))),
      (83, .inl (.pointer (some ⟨w.heap.size, 10, none⟩))),
      (84, .inl (.slice x.sA m.sizes.length x.sC)),
      (85, .inl (.string (str (encs 1 m.sizes)))),
      (86, .inl (.string (str ((((((((((encs 1 [m.kind]) ++ (encs 8 [m.epoch])) ++ LB) ++ (encs 8 [m.seq, m.n, m.of_])) ++ (encs 1 [((fullN m.full : Nat) : Int)])) ++ AB) ++ (encs 8 [m.ancS])) ++ BB) ++ (encs 1 [((m.sizes.length : Nat) : Int)])) ++ (encs 1 m.sizes))))),
      (87, .inl (.pointer (some ⟨w.heap.size, 11, none⟩))),
      (88, .inl (.pointer (some ⟨w.heap.size, 11, none⟩))),
      (89, .inl (.int .i64 m.from_)),
      (90, .inl (.pointer (some ⟨w.heap.size, 11, none⟩))),
      (91, .inl (.pointer (some ⟨w.heap.size, 12, none⟩))),
      (92, .inl (.int .i64 m.to_)),
      (93, .inr [m.from_, m.to_]),
      (94, .inl (.string (str (encs 8 [m.from_, m.to_])))),
      (95, .inl (.string (str (((((((((((encs 1 [m.kind]) ++ (encs 8 [m.epoch])) ++ LB) ++ (encs 8 [m.seq, m.n, m.of_])) ++ (encs 1 [((fullN m.full : Nat) : Int)])) ++ AB) ++ (encs 8 [m.ancS])) ++ BB) ++ (encs 1 [((m.sizes.length : Nat) : Int)])) ++ (encs 1 m.sizes)) ++ (encs 8 [m.from_, m.to_]))))),
      (96, .inl (.string (str WB))),
      (97, .inl (.string (str ((((((((((((encs 1 [m.kind]) ++ (encs 8 [m.epoch])) ++ LB) ++ (encs 8 [m.seq, m.n, m.of_])) ++ (encs 1 [((fullN m.full : Nat) : Int)])) ++ AB) ++ (encs 8 [m.ancS])) ++ BB) ++ (encs 1 [((m.sizes.length : Nat) : Int)])) ++ (encs 1 m.sizes)) ++ (encs 8 [m.from_, m.to_])) ++ WB)))),
      (2, .inl (.string (str ((((((((((((encs 1 [m.kind]) ++ (encs 8 [m.epoch])) ++ LB) ++ (encs 8 [m.seq, m.n, m.of_])) ++ (encs 1 [((fullN m.full : Nat) : Int)])) ++ AB) ++ (encs 8 [m.ancS])) ++ BB) ++ (encs 1 [((m.sizes.length : Nat) : Int)])) ++ (encs 1 m.sizes)) ++ (encs 8 [m.from_, m.to_])) ++ WB)))),
      (3, .inl (.int .i64 0))] (by kernel_rfl) (by kernel_rfl) rfl (by rfl) ?hs ?he
    case hs =>
      generalize hF : tblF _ _ = F
      have f1 : F 1 = .inl (.pointer (some ⟨w.heap.size, 0, none⟩)) := by rw [← hF]; rfl
      have f4 : F 4 = .inl (.string (str LB)) := by rw [← hF]; rfl
      have f6 : F 6 = .inl (.string (str AB)) := by rw [← hF]; rfl
      have f8 : F 8 = .inl (.string (str BB)) := by rw [← hF]; rfl
      have f10 : F 10 = .inl (.string (str WB)) := by rw [← hF]; rfl
      have f41 : F 41 = .inl (.pointer (some ⟨w.heap.size, 0, none⟩)) := by rw [← hF]; rfl
      have f42 : F 42 = .inl (.int .i64 m.kind) := by rw [← hF]; rfl
      have f43 : F 43 = .inr [m.kind] := by rw [← hF]; rfl
      have f44 : F 44 = .inl (.string (str (encs 1 [m.kind]))) := by rw [← hF]; rfl
      have f45 : F 45 = .inl (.pointer (some ⟨w.heap.size, 1, none⟩)) := by rw [← hF]; rfl
      have f46 : F 46 = .inl (.int .i64 m.epoch) := by rw [← hF]; rfl
      have f47 : F 47 = .inr [m.epoch] := by rw [← hF]; rfl
      have f48 : F 48 = .inl (.string (str (encs 8 [m.epoch]))) := by rw [← hF]; rfl
      have f49 : F 49 = .inl (.string (str ((encs 1 [m.kind]) ++ (encs 8 [m.epoch])))) := by rw [← hF]; rfl
      have f50 : F 50 = .inl (.string (str LB)) := by rw [← hF]; rfl
      have f51 : F 51 = .inl (.string (str (((encs 1 [m.kind]) ++ (encs 8 [m.epoch])) ++ LB))) := by rw [← hF]; rfl
      have f52 : F 52 = .inl (.pointer (some ⟨w.heap.size, 3, none⟩)) := by rw [← hF]; rfl
      have f53 : F 53 = .inl (.int .i64 m.seq) := by rw [← hF]; rfl
      have f54 : F 54 = .inl (.pointer (some ⟨w.heap.size, 4, none⟩)) := by rw [← hF]; rfl
      have f55 : F 55 = .inl (.int .i64 m.n) := by rw [← hF]; rfl
      have f56 : F 56 = .inl (.pointer (some ⟨w.heap.size, 5, none⟩)) := by rw [← hF]; rfl
      have f57 : F 57 = .inl (.int .i64 m.of_) := by rw [← hF]; rfl
      have f58 : F 58 = .inr [m.seq, m.n, m.of_] := by rw [← hF]; rfl
      have f59 : F 59 = .inl (.string (str (encs 8 [m.seq, m.n, m.of_]))) := by rw [← hF]; rfl
      have f60 : F 60 = .inl (.string (str ((((encs 1 [m.kind]) ++ (encs 8 [m.epoch])) ++ LB) ++ (encs 8 [m.seq, m.n, m.of_])))) := by rw [← hF]; rfl
      have f61 : F 61 = .inl (.pointer (some ⟨w.heap.size, 6, none⟩)) := by rw [← hF]; rfl
      have f62 : F 62 = .inl (.bool m.full) := by rw [← hF]; rfl
      have f63 : F 63 = .inl (.int .i64 ((fullN m.full : Nat) : Int)) := by rw [← hF]; rfl
      have f64 : F 64 = .inr [((fullN m.full : Nat) : Int)] := by rw [← hF]; rfl
      have f65 : F 65 = .inl (.string (str (encs 1 [((fullN m.full : Nat) : Int)]))) := by rw [← hF]; rfl
      have f66 : F 66 = .inl (.string (str (((((encs 1 [m.kind]) ++ (encs 8 [m.epoch])) ++ LB) ++ (encs 8 [m.seq, m.n, m.of_])) ++ (encs 1 [((fullN m.full : Nat) : Int)])))) := by rw [← hF]; rfl
      have f67 : F 67 = .inl (.string (str AB)) := by rw [← hF]; rfl
      have f68 : F 68 = .inl (.string (str ((((((encs 1 [m.kind]) ++ (encs 8 [m.epoch])) ++ LB) ++ (encs 8 [m.seq, m.n, m.of_])) ++ (encs 1 [((fullN m.full : Nat) : Int)])) ++ AB))) := by rw [← hF]; rfl
      have f69 : F 69 = .inl (.pointer (some ⟨w.heap.size, 7, none⟩)) := by rw [← hF]; rfl
      have f70 : F 70 = .inl (.pointer (some ⟨w.heap.size, 8, none⟩)) := by rw [← hF]; rfl
      have f71 : F 71 = .inl (.int .i64 m.ancS) := by rw [← hF]; rfl
      have f72 : F 72 = .inr [m.ancS] := by rw [← hF]; rfl
      have f73 : F 73 = .inl (.string (str (encs 8 [m.ancS]))) := by rw [← hF]; rfl
      have f74 : F 74 = .inl (.string (str (((((((encs 1 [m.kind]) ++ (encs 8 [m.epoch])) ++ LB) ++ (encs 8 [m.seq, m.n, m.of_])) ++ (encs 1 [((fullN m.full : Nat) : Int)])) ++ AB) ++ (encs 8 [m.ancS])))) := by rw [← hF]; rfl
      have f75 : F 75 = .inl (.string (str BB)) := by rw [← hF]; rfl
      have f76 : F 76 = .inl (.string (str ((((((((encs 1 [m.kind]) ++ (encs 8 [m.epoch])) ++ LB) ++ (encs 8 [m.seq, m.n, m.of_])) ++ (encs 1 [((fullN m.full : Nat) : Int)])) ++ AB) ++ (encs 8 [m.ancS])) ++ BB))) := by rw [← hF]; rfl
      have f77 : F 77 = .inl (.pointer (some ⟨w.heap.size, 10, none⟩)) := by rw [← hF]; rfl
      have f78 : F 78 = .inl (.slice x.sA m.sizes.length x.sC) := by rw [← hF]; rfl
      have f79 : F 79 = .inl (.int .i64 ((m.sizes.length : Nat) : Int)) := by rw [← hF]; rfl
      have f80 : F 80 = .inr [((m.sizes.length : Nat) : Int)] := by rw [← hF]; rfl
      have f81 : F 81 = .inl (.string (str (encs 1 [((m.sizes.length : Nat) : Int)]))) := by rw [← hF]; rfl
      have f82 : F 82 = .inl (.string (str (((((((((encs 1 [m.kind]) ++ (encs 8 [m.epoch])) ++ LB) ++ (encs 8 [m.seq, m.n, m.of_])) ++ (encs 1 [((fullN m.full : Nat) : Int)])) ++ AB) ++ (encs 8 [m.ancS])) ++ BB) ++ (encs 1 [((m.sizes.length : Nat) : Int)])))) := by rw [← hF]; rfl
      have f83 : F 83 = .inl (.pointer (some ⟨w.heap.size, 10, none⟩)) := by rw [← hF]; rfl
      have f84 : F 84 = .inl (.slice x.sA m.sizes.length x.sC) := by rw [← hF]; rfl
      have f85 : F 85 = .inl (.string (str (encs 1 m.sizes))) := by rw [← hF]; rfl
      have f86 : F 86 = .inl (.string (str ((((((((((encs 1 [m.kind]) ++ (encs 8 [m.epoch])) ++ LB) ++ (encs 8 [m.seq, m.n, m.of_])) ++ (encs 1 [((fullN m.full : Nat) : Int)])) ++ AB) ++ (encs 8 [m.ancS])) ++ BB) ++ (encs 1 [((m.sizes.length : Nat) : Int)])) ++ (encs 1 m.sizes)))) := by rw [← hF]; rfl
      have f87 : F 87 = .inl (.pointer (some ⟨w.heap.size, 11, none⟩)) := by rw [← hF]; rfl
      have f88 : F 88 = .inl (.pointer (some ⟨w.heap.size, 11, none⟩)) := by rw [← hF]; rfl
      have f89 : F 89 = .inl (.int .i64 m.from_) := by rw [← hF]; rfl
      have f90 : F 90 = .inl (.pointer (some ⟨w.heap.size, 11, none⟩)) := by rw [← hF]; rfl
      have f91 : F 91 = .inl (.pointer (some ⟨w.heap.size, 12, none⟩)) := by rw [← hF]; rfl
      have f92 : F 92 = .inl (.int .i64 m.to_) := by rw [← hF]; rfl
      have f93 : F 93 = .inr [m.from_, m.to_] := by rw [← hF]; rfl
      have f94 : F 94 = .inl (.string (str (encs 8 [m.from_, m.to_]))) := by rw [← hF]; rfl
      have f95 : F 95 = .inl (.string (str (((((((((((encs 1 [m.kind]) ++ (encs 8 [m.epoch])) ++ LB) ++ (encs 8 [m.seq, m.n, m.of_])) ++ (encs 1 [((fullN m.full : Nat) : Int)])) ++ AB) ++ (encs 8 [m.ancS])) ++ BB) ++ (encs 1 [((m.sizes.length : Nat) : Int)])) ++ (encs 1 m.sizes)) ++ (encs 8 [m.from_, m.to_])))) := by rw [← hF]; rfl
      have f96 : F 96 = .inl (.string (str WB)) := by rw [← hF]; rfl
      have f97 : F 97 = .inl (.string (str ((((((((((((encs 1 [m.kind]) ++ (encs 8 [m.epoch])) ++ LB) ++ (encs 8 [m.seq, m.n, m.of_])) ++ (encs 1 [((fullN m.full : Nat) : Int)])) ++ AB) ++ (encs 8 [m.ancS])) ++ BB) ++ (encs 1 [((m.sizes.length : Nat) : Int)])) ++ (encs 1 m.sizes)) ++ (encs 8 [m.from_, m.to_])) ++ WB))) := by rw [← hF]; rfl
      have f2 : F 2 = .inl (.string (str ((((((((((((encs 1 [m.kind]) ++ (encs 8 [m.epoch])) ++ LB) ++ (encs 8 [m.seq, m.n, m.of_])) ++ (encs 1 [((fullN m.full : Nat) : Int)])) ++ AB) ++ (encs 8 [m.ancS])) ++ BB) ++ (encs 1 [((m.sizes.length : Nat) : Int)])) ++ (encs 1 m.sizes)) ++ (encs 8 [m.from_, m.to_])) ++ WB))) := by rw [← hF]; rfl
      have f3 : F 3 = .inl (.int .i64 0) := by rw [← hF]; rfl
      clear hF
      refine List.forall_mem_cons.2 ⟨slot_field rfl rfl f1 f41 (fun w => by simp [go_sem, Addr.add]), ?_⟩
      refine List.forall_mem_cons.2 ⟨slot_load rfl rfl f41 f42 (fun W hC => by have c := (HBox.out _ (below_next HB5.out hC)).c0; simp [go_sem, c]), ?_⟩
      refine List.forall_mem_cons.2 ⟨slot_made1 rfl rfl f42 f43, ?_⟩
      refine List.forall_mem_cons.2 ⟨slot_nums (k := 1) rfl rfl rfl (by omega) (by omega) f43 f44 (by simp) (fun y hy => by simp only [List.mem_cons, List.not_mem_nil, or_false] at hy; subst hy; have := HK.out.kind; omega) (fun ρ W h1 h2 => by simp [execOp, resolve, h1, h2, go_sem]), ?_⟩
      refine List.forall_mem_cons.2 ⟨slot_field rfl rfl f1 f45 (fun w => by simp [go_sem, Addr.add]), ?_⟩
      refine List.forall_mem_cons.2 ⟨slot_load rfl rfl f45 f46 (fun W hC => by have c := (HBox.out _ (below_next HB5.out hC)).c1; simp [go_sem, c]), ?_⟩
      refine List.forall_mem_cons.2 ⟨slot_made1 rfl rfl f46 f47, ?_⟩
      refine List.forall_mem_cons.2 ⟨slot_nums (k := 8) rfl rfl rfl (by omega) (by omega) f47 f48 (by simp) (fun y hy => by simp only [List.mem_cons, List.not_mem_nil, or_false] at hy; subst hy; exact fit_bound17 HK.out.epoch) (fun ρ W h1 h2 => by simp [execOp, resolve, h1, h2, go_sem]), ?_⟩
      refine List.forall_mem_cons.2 ⟨slot_add rfl rfl f44 f48 f49 (by have := HLe.out; simp only [encs_length, List.length_cons, List.length_nil]; omega), ?_⟩
      refine List.forall_mem_cons.2 ⟨slot_move rfl rfl f4 f50, ?_⟩
      refine List.forall_mem_cons.2 ⟨slot_add rfl rfl f49 f50 f51 (by have := HLe.out; simp only [List.length_append, encs_length, List.length_cons, List.length_nil]; omega), ?_⟩
      refine List.forall_mem_cons.2 ⟨slot_field rfl rfl f1 f52 (fun w => by simp [go_sem, Addr.add]), ?_⟩
      refine List.forall_mem_cons.2 ⟨slot_load rfl rfl f52 f53 (fun W hC => by have c := (HBox.out _ (below_next HB5.out hC)).c3; simp [go_sem, c]), ?_⟩
      refine List.forall_mem_cons.2 ⟨slot_field rfl rfl f1 f54 (fun w => by simp [go_sem, Addr.add]), ?_⟩
      refine List.forall_mem_cons.2 ⟨slot_load rfl rfl f54 f55 (fun W hC => by have c := (HBox.out _ (below_next HB5.out hC)).c4; simp [go_sem, c]), ?_⟩
      refine List.forall_mem_cons.2 ⟨slot_field rfl rfl f1 f56 (fun w => by simp [go_sem, Addr.add]), ?_⟩
      refine List.forall_mem_cons.2 ⟨slot_load rfl rfl f56 f57 (fun W hC => by have c := (HBox.out _ (below_next HB5.out hC)).c5; simp [go_sem, c]), ?_⟩
      refine List.forall_mem_cons.2 ⟨slot_made3 rfl rfl f53 f55 f57 f58, ?_⟩
      refine List.forall_mem_cons.2 ⟨slot_nums (k := 8) rfl rfl rfl (by omega) (by omega) f58 f59 (by simp) (fun y hy => by simp only [List.mem_cons, List.not_mem_nil, or_false] at hy; rcases hy with rfl | rfl | rfl; exact fit_bound17 HK.out.seq; exact fit_bound17 HK.out.n; exact fit_bound17 HK.out.of_) (fun ρ W h1 h2 => by simp [execOp, resolve, h1, h2, go_sem]), ?_⟩
      refine List.forall_mem_cons.2 ⟨slot_add rfl rfl f51 f59 f60 (by have := HLe.out; simp only [List.length_append, encs_length, List.length_cons, List.length_nil]; omega), ?_⟩
      refine List.forall_mem_cons.2 ⟨slot_field rfl rfl f1 f61 (fun w => by simp [go_sem, Addr.add]), ?_⟩
      refine List.forall_mem_cons.2 ⟨slot_load rfl rfl f61 f62 (fun W hC => by have c := (HBox.out _ (below_next HB5.out hC)).c6; simp [go_sem, c]), ?_⟩
      refine List.forall_mem_cons.2 ⟨slot_flag rfl rfl f62 f63 (fun ρ W h1 => by simp [execOp, resolve, h1, go_sem]), ?_⟩
      refine List.forall_mem_cons.2 ⟨slot_made1 rfl rfl f63 f64, ?_⟩
      refine List.forall_mem_cons.2 ⟨slot_nums (k := 1) rfl rfl rfl (by omega) (by omega) f64 f65 (by simp) (fun y hy => by simp only [List.mem_cons, List.not_mem_nil, or_false] at hy; subst hy; unfold fullN; split <;> omega) (fun ρ W h1 h2 => by simp [execOp, resolve, h1, h2, go_sem]), ?_⟩
      refine List.forall_mem_cons.2 ⟨slot_add rfl rfl f60 f65 f66 (by have := HLe.out; simp only [List.length_append, encs_length, List.length_cons, List.length_nil]; omega), ?_⟩
      refine List.forall_mem_cons.2 ⟨slot_move rfl rfl f6 f67, ?_⟩
      refine List.forall_mem_cons.2 ⟨slot_add rfl rfl f66 f67 f68 (by have := HLe.out; simp only [List.length_append, encs_length, List.length_cons, List.length_nil]; omega), ?_⟩
      refine List.forall_mem_cons.2 ⟨slot_field rfl rfl f1 f69 (fun w => by simp [go_sem, Addr.add]), ?_⟩
      refine List.forall_mem_cons.2 ⟨slot_field rfl rfl f69 f70 (fun w => by simp [go_sem, Addr.add]), ?_⟩
      refine List.forall_mem_cons.2 ⟨slot_load rfl rfl f70 f71 (fun W hC => by have c := (HBox.out _ (below_next HB5.out hC)).c8; simp [go_sem, c]), ?_⟩
      refine List.forall_mem_cons.2 ⟨slot_made1 rfl rfl f71 f72, ?_⟩
      refine List.forall_mem_cons.2 ⟨slot_nums (k := 8) rfl rfl rfl (by omega) (by omega) f72 f73 (by simp) (fun y hy => by simp only [List.mem_cons, List.not_mem_nil, or_false] at hy; subst hy; exact fit_bound17 (anc_fit HK.out.anc).2) (fun ρ W h1 h2 => by simp [execOp, resolve, h1, h2, go_sem]), ?_⟩
      refine List.forall_mem_cons.2 ⟨slot_add rfl rfl f68 f73 f74 (by have := HLe.out; simp only [List.length_append, encs_length, List.length_cons, List.length_nil]; omega), ?_⟩
      refine List.forall_mem_cons.2 ⟨slot_move rfl rfl f8 f75, ?_⟩
      refine List.forall_mem_cons.2 ⟨slot_add rfl rfl f74 f75 f76 (by have := HLe.out; simp only [List.length_append, encs_length, List.length_cons, List.length_nil]; omega), ?_⟩
      refine List.forall_mem_cons.2 ⟨slot_field rfl rfl f1 f77 (fun w => by simp [go_sem, Addr.add]), ?_⟩
      refine List.forall_mem_cons.2 ⟨slot_load rfl rfl f77 f78 (fun W hC => by have c := (HBox.out _ (below_next HB5.out hC)).c10; simp [go_sem, c]), ?_⟩
      refine List.forall_mem_cons.2 ⟨slot_len rfl rfl f78 f79 (fun W => by simp [go_sem]), ?_⟩
      refine List.forall_mem_cons.2 ⟨slot_made1 rfl rfl f79 f80, ?_⟩
      refine List.forall_mem_cons.2 ⟨slot_nums (k := 1) rfl rfl rfl (by omega) (by omega) f80 f81 (by simp) (fun y hy => by simp only [List.mem_cons, List.not_mem_nil, or_false] at hy; subst hy; have := HLe.out; omega) (fun ρ W h1 h2 => by simp [execOp, resolve, h1, h2, go_sem]), ?_⟩
      refine List.forall_mem_cons.2 ⟨slot_add rfl rfl f76 f81 f82 (by have := HLe.out; simp only [List.length_append, encs_length, List.length_cons, List.length_nil]; omega), ?_⟩
      refine List.forall_mem_cons.2 ⟨slot_field rfl rfl f1 f83 (fun w => by simp [go_sem, Addr.add]), ?_⟩
      refine List.forall_mem_cons.2 ⟨slot_load rfl rfl f83 f84 (fun W hC => by have c := (HBox.out _ (below_next HB5.out hC)).c10; simp [go_sem, c]), ?_⟩
      refine List.forall_mem_cons.2 ⟨slot_nums_at (k := 1) rfl rfl rfl (by omega) (by omega) f84 (HSi.out _ HB5.out) f85 (by have := HLe.out; omega) (fun y hy => by have := (blankOk_each HK.out.sizes).2 y hy; omega) (fun ρ W h1 h2 => by simp [execOp, resolve, h1, h2, go_sem]), ?_⟩
      refine List.forall_mem_cons.2 ⟨slot_add rfl rfl f82 f85 f86 (by have := HLe.out; simp only [List.length_append, encs_length, List.length_cons, List.length_nil]; omega), ?_⟩
      refine List.forall_mem_cons.2 ⟨slot_field rfl rfl f1 f87 (fun w => by simp [go_sem, Addr.add]), ?_⟩
      refine List.forall_mem_cons.2 ⟨slot_field rfl rfl f87 f88 (fun w => by simp [go_sem, Addr.add]), ?_⟩
      refine List.forall_mem_cons.2 ⟨slot_load rfl rfl f88 f89 (fun W hC => by have c := (HBox.out _ (below_next HB5.out hC)).c11; simp [go_sem, c]), ?_⟩
      refine List.forall_mem_cons.2 ⟨slot_field rfl rfl f1 f90 (fun w => by simp [go_sem, Addr.add]), ?_⟩
      refine List.forall_mem_cons.2 ⟨slot_field rfl rfl f90 f91 (fun w => by simp [go_sem, Addr.add]), ?_⟩
      refine List.forall_mem_cons.2 ⟨slot_load rfl rfl f91 f92 (fun W hC => by have c := (HBox.out _ (below_next HB5.out hC)).c12; simp [go_sem, c]), ?_⟩
      refine List.forall_mem_cons.2 ⟨slot_made2 rfl rfl f89 f92 f93, ?_⟩
      refine List.forall_mem_cons.2 ⟨slot_nums (k := 8) rfl rfl rfl (by omega) (by omega) f93 f94 (by simp) (fun y hy => by simp only [List.mem_cons, List.not_mem_nil, or_false] at hy; rcases hy with rfl | rfl; exact fit_bound17 HK.out.from_; exact fit_bound17 HK.out.to_) (fun ρ W h1 h2 => by simp [execOp, resolve, h1, h2, go_sem]), ?_⟩
      refine List.forall_mem_cons.2 ⟨slot_add rfl rfl f86 f94 f95 (by have := HLe.out; simp only [List.length_append, encs_length, List.length_cons, List.length_nil]; omega), ?_⟩
      refine List.forall_mem_cons.2 ⟨slot_move rfl rfl f10 f96, ?_⟩
      refine List.forall_mem_cons.2 ⟨slot_add rfl rfl f95 f96 f97 (by have := HLe.out; simp only [List.length_append, encs_length, List.length_cons, List.length_nil]; omega), ?_⟩
      refine List.forall_mem_cons.2 ⟨slot_assign rfl rfl f97 f2, ?_⟩
      refine List.forall_mem_cons.2 ⟨slot_const rfl rfl f3, ?_⟩
      intro o ho
      cases ho
    case he =>
      intro tmps W hn hW hS
      have s2 : tmps.getD 2 undef = .string (str ((((((((((((encs 1 [m.kind]) ++ (encs 8 [m.epoch])) ++ LB) ++ (encs 8 [m.seq, m.n, m.of_])) ++ (encs 1 [((fullN m.full : Nat) : Int)])) ++ AB) ++ (encs 8 [m.ancS])) ++ BB) ++ (encs 1 [((m.sizes.length : Nat) : Int)])) ++ (encs 1 m.sizes)) ++ (encs 8 [m.from_, m.to_])) ++ WB)) := hS 2
      have s3 : tmps.getD 3 undef = .int .i64 0 := hS 3
      rw [Array.getD_eq_getD_getElem?] at s2 s3
      rename_i q9 k9 hk9
      refine hk9 _ _ ?_
      refine wp_ret ?_
      show bodyPost Try.prog Try.f23 (fun e w9 => e = .returned (.tuple #[.string (str ((((((((((((encs 1 [m.kind]) ++ (encs 8 [m.epoch])) ++ LB) ++ (encs 8 [m.seq, m.n, m.of_])) ++ (encs 1 [((fullN m.full : Nat) : Int)])) ++ AB) ++ (encs 8 [m.ancS])) ++ BB) ++ (encs 1 [((m.sizes.length : Nat) : Int)])) ++ (encs 1 m.sizes)) ++ (encs 8 [m.from_, m.to_])) ++ WB)), .int .i64 0]) ∧ Below w.heap.size w w9) Exit.ret _ _
      refine bodyPost_ret (v := .tuple #[.string (str ((((((((((((encs 1 [m.kind]) ++ (encs 8 [m.epoch])) ++ LB) ++ (encs 8 [m.seq, m.n, m.of_])) ++ (encs 1 [((fullN m.full : Nat) : Int)])) ++ AB) ++ (encs 8 [m.ancS])) ++ BB) ++ (encs 1 [((m.sizes.length : Nat) : Int)])) ++ (encs 1 m.sizes)) ++ (encs 8 [m.from_, m.to_])) ++ WB)), .int .i64 0]) (by simp [results, Try.results23, s2, s3, go_sem]) rfl ⟨rfl, below_next HB0.out (below_next HB5.out hW)⟩
end Go.Proofs.Ytkpoeigoocbgeaa
