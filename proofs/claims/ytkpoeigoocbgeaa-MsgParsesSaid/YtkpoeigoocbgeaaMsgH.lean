/- Contract of the document's Bytes. -/
import Derived.Test.YtkpoeigoocbgeaaMsgG
import Derived.Deep.CutRange
import Derived.Deep.CutBlock
namespace Go.Proofs.Ytkpoeigoocbgeaa
open Go.RowKit

/-- The bytes of a message ahead of its sizes, and behind them. -/
def mgB1 (m : Mg) : List UInt8 :=
  enc 1 m.kind.toNat ++ (enc 8 m.epoch.toNat ++ (lineB m.line ++ (enc 8 m.seq.toNat ++ (enc 8 m.n.toNat ++ (enc 8 m.of_.toNat ++ (enc 1 (fullN m.full) ++ (lineB m.anc ++ (enc 8 m.ancS.toNat ++ (bitsB m.bits ++ enc 1 m.sizes.length)))))))))
theorem mgB_parts (m : Mg) : mgB m = mgB1 m ++ (m.sizes.flatMap (fun n => enc 1 n.toNat) ++ (enc 8 m.from_.toNat ++ (enc 8 m.to_.toNat ++ writesB m.ws))) := by
  unfold mgB mgB1 szB
  simp only [List.append_assoc]
theorem szs_take {l : List Int} {k : Nat} (h : k < l.length) : (l.take (k + 1)).flatMap (fun n => enc 1 n.toNat) = (l.take k).flatMap (fun n => enc 1 n.toNat) ++ enc 1 l[k].toNat := by
  rw [List.take_succ_eq_append_getElem h, List.flatMap_append]; simp
theorem writesB_le {ws : List Wr} (h : ws.length ≤ 128) (hm : ∀ x ∈ ws, mayW x = true) : (writesB ws).length ≤ 2000 := by
  have hw : ∀ (l : List Wr), (∀ x ∈ l, mayW x = true) → (wrsB l).length ≤ 12 * l.length := by
    intro l
    induction l with
    | nil => intro _; simp [wrsB]
    | cons x l ih =>
      intro hl
      have h1 := (mayW_iff x).1 (hl x (by simp))
      have h2 := ih (fun y hy => hl y (List.mem_cons_of_mem _ hy))
      have e : wrsB (x :: l) = wrB x ++ wrsB l := by unfold wrsB; rw [List.flatMap_cons]
      rw [e, List.length_append, wrB_length, List.length_cons]
      omega
  have := hw ws hm
  unfold writesB
  rw [List.length_append, enc_length]
  omega
theorem bitsB_bytM (m : List Bt) : bytM m = bitsB m := rfl

set_option maxHeartbeats 8000000 in
set_option maxRecDepth 100000 in
theorem bytes17_any {w : World} (m : Mg) (x : MgM) (h : MgAt w m x) (hf : MgFit m) (hm : MgOk m) :
    Calls Try.prog 27 #[m.val x] w fun e w' => e = .returned (.string (str (mgB m))) ∧ Below w.heap.size w w' := by
  obtain ⟨V, hV⟩ : ∃ V, V = w.alloc (.cells (m.cells x) 52) := ⟨_, rfl⟩
  have hb0 : Below w.heap.size w V := by rw [hV]; exact below_one _ _
  have HX := Lib.hid (show BoxMg V w.heap.size m x from BoxMg.of (by rw [hV]; exact heap_new _ _))
  have HB0 := Lib.hid hb0
  have HM := Lib.hid (h.next hb0)
  have HV := Lib.hid hV
  obtain ⟨a1, a2⟩ := anc_fit hm.anc
  have l1 := (lined_fit hm.line).2
  have l2 := (lined_fit a1).2
  have l3 := bitsOk_length hm.bits.1
  obtain ⟨l4, l5⟩ := blankOk_each hm.sizes
  have l6 := hm.ws.1
  have hk := hm.kind
  obtain ⟨kn, hkn⟩ : ∃ kn : Nat, m.kind = kn := ⟨m.kind.toNat, by omega⟩
  have HC1 := Lib.hid (show LatCalls Try.prog V 35 #[.int .i64 m.kind] (.string (str (enc 1 m.kind.toNat))) from LatCalls.of fun z => by rw [hkn, Int.toNat_natCast]; exact one17_any kn z.wd (by omega))
  have HC2 := Lib.hid (show LatCalls Try.prog V 36 #[.int .i64 m.epoch] (.string (str (enc 8 m.epoch.toNat))) from LatCalls.of fun z => eight17_any _ z.wd hm.epoch)
  have HC3 := Lib.hid (show LatCalls Try.prog V 12 #[.slice x.lA m.line.length x.lC] (.string (str (lineB m.line))) from LatCalls.of fun z => putLine17_any (HM.out.line.next z.bel) hm.line)
  have HC4 := Lib.hid (show LatCalls Try.prog V 36 #[.int .i64 m.seq] (.string (str (enc 8 m.seq.toNat))) from LatCalls.of fun z => eight17_any _ z.wd hm.seq)
  have HC5 := Lib.hid (show LatCalls Try.prog V 36 #[.int .i64 m.n] (.string (str (enc 8 m.n.toNat))) from LatCalls.of fun z => eight17_any _ z.wd hm.n)
  have HC6 := Lib.hid (show LatCalls Try.prog V 36 #[.int .i64 m.of_] (.string (str (enc 8 m.of_.toNat))) from LatCalls.of fun z => eight17_any _ z.wd hm.of_)
  have HC7 := Lib.hid (show LatCalls Try.prog V 35 #[.int .i64 (fullN m.full : Int)] (.string (str (enc 1 (fullN m.full)))) from LatCalls.of fun z => one17_any _ z.wd (by unfold fullN; split <;> omega))
  have HC8 := Lib.hid (show LatCalls Try.prog V 12 #[.slice x.aA m.anc.length x.aC] (.string (str (lineB m.anc))) from LatCalls.of fun z => putLine17_any (HM.out.anc.next z.bel) a1)
  have HC9 := Lib.hid (show LatCalls Try.prog V 36 #[.int .i64 m.ancS] (.string (str (enc 8 m.ancS.toNat))) from LatCalls.of fun z => eight17_any _ z.wd a2)
  have HC10 := Lib.hid (show LatCalls Try.prog V 61 #[.slice x.bA m.bits.length x.bC] (.string (str (bitsB m.bits))) from LatCalls.of fun z => by rw [← bitsB_bytM]; exact DbBytes_any (HM.out.bits.next z.bel) hf.bits hm.bits.1)
  have HC11 := Lib.hid (show LatCalls Try.prog V 35 #[.int .i64 (m.sizes.length : Int)] (.string (str (enc 1 m.sizes.length))) from LatCalls.of fun z => one17_any _ z.wd (by omega))
  have HS1 : Hid (str (enc 1 m.kind.toNat) ++ str (enc 8 m.epoch.toNat) ++ str (lineB m.line) ++ str (enc 8 m.seq.toNat) ++ str (enc 8 m.n.toNat) ++ str (enc 8 m.of_.toNat) ++ str (enc 1 (fullN m.full)) ++ str (lineB m.anc) ++ str (enc 8 m.ancS.toNat) ++ str (bitsB m.bits) ++ str (enc 1 m.sizes.length) = str (mgB1 m)) := Lib.hid (by
    simp only [str_cat]
    unfold mgB1
    simp only [List.append_assoc])
  have z3 : (str (lineB m.line)).size ≤ 2000 := by rw [str_size, lineB_length]; omega
  have z8 : (str (lineB m.anc)).size ≤ 2000 := by rw [str_size, lineB_length]; omega
  have z10 : (str (bitsB m.bits)).size ≤ 2000 := by rw [str_size, ← bitsB_bytM]; unfold bytM; rw [List.length_append, enc_length, eltsB_length]; omega
  have ze : ∀ k n, (str (enc k n)).size = k := fun k n => by rw [str_size, enc_length]
  have z1 := ze 1 m.kind.toNat
  have z2 := ze 8 m.epoch.toNat
  have z4 := ze 8 m.seq.toNat
  have z5 := ze 8 m.n.toNat
  have z6 := ze 8 m.of_.toNat
  have z7 := ze 1 (fullN m.full)
  have z9 := ze 8 m.ancS.toNat
  have z11 := ze 1 m.sizes.length
  obtain ⟨X1, hX1⟩ : ∃ X, str (enc 1 m.kind.toNat) = X := ⟨_, rfl⟩
  obtain ⟨X2, hX2⟩ : ∃ X, str (enc 8 m.epoch.toNat) = X := ⟨_, rfl⟩
  obtain ⟨X3, hX3⟩ : ∃ X, str (lineB m.line) = X := ⟨_, rfl⟩
  obtain ⟨X4, hX4⟩ : ∃ X, str (enc 8 m.seq.toNat) = X := ⟨_, rfl⟩
  obtain ⟨X5, hX5⟩ : ∃ X, str (enc 8 m.n.toNat) = X := ⟨_, rfl⟩
  obtain ⟨X6, hX6⟩ : ∃ X, str (enc 8 m.of_.toNat) = X := ⟨_, rfl⟩
  obtain ⟨X7, hX7⟩ : ∃ X, str (enc 1 (fullN m.full)) = X := ⟨_, rfl⟩
  obtain ⟨X8, hX8⟩ : ∃ X, str (lineB m.anc) = X := ⟨_, rfl⟩
  obtain ⟨X9, hX9⟩ : ∃ X, str (enc 8 m.ancS.toNat) = X := ⟨_, rfl⟩
  obtain ⟨X10, hX10⟩ : ∃ X, str (bitsB m.bits) = X := ⟨_, rfl⟩
  obtain ⟨X11, hX11⟩ : ∃ X, str (enc 1 m.sizes.length) = X := ⟨_, rfl⟩
  rw [hX1] at HC1 HS1 z1
  rw [hX2] at HC2 HS1 z2
  rw [hX3] at HC3 HS1 z3
  rw [hX4] at HC4 HS1 z4
  rw [hX5] at HC5 HS1 z5
  rw [hX6] at HC6 HS1 z6
  rw [hX7] at HC7 HS1 z7
  rw [hX8] at HC8 HS1 z8
  rw [hX9] at HC9 HS1 z9
  rw [hX10] at HC10 HS1 z10
  rw [hX11] at HC11 HS1 z11
  have HZ := Lib.hid (And.intro z1 (And.intro z2 (And.intro z3 (And.intro z4 (And.intro z5 (And.intro z6 (And.intro z7 (And.intro z8 (And.intro z9 (And.intro z10 z11))))))))))
  have HMk := Lib.hid hm
  have HFt := Lib.hid hf
  have HL4 := Lib.hid l4
  have HL5 := Lib.hid l5
  have HL6 := Lib.hid l6
  clear hX1 hX2 hX3 hX4 hX5 hX6 hX7 hX8 hX9 hX10 hX11 ze h hf hm hb0 hV l1 l2 l3 l4 l5 l6 hk hkn a1 a2
  unfold Mg.val Mg.cells
  unfold Mg.cells at HV
  have e6 := HX.out.c6
  go_enter Try.func27, Try.ntmps27
  go_upto_region 1 with fail
  rw [← HV.out]
  go_upto_if 7 with fail
  go_cut [0, 3] from 6 to 7 (fun _ v wc => v = .int .i64 (fullN m.full : Int) ∧ wc = V)
  case first =>
    cases hfull : m.full with
    | true =>
      have HFl := Lib.hid hfull
      rw [hfull] at e6
      clear hfull
      go_wp2_with fail
      go_meet
      case rel => exact ⟨by rw [HFl.out]; rfl, rfl⟩
    | false =>
      have HFl := Lib.hid hfull
      rw [hfull] at e6
      clear hfull
      go_wp2_with fail
      go_meet
      case rel => exact ⟨by rw [HFl.out]; rfl, rfl⟩
  case rest =>
  obtain ⟨rfl, rfl⟩ := hcut
  clear e6
  go_upto_region 4 with fail
  have y0 : ∀ z : LatW wc, z.wd.cell? ⟨w.heap.size, 0, none⟩ = some (.int .i64 m.kind) := fun z => (HX.out.next z.bel).c0
  have y1 : ∀ z : LatW wc, z.wd.cell? ⟨w.heap.size, 1, none⟩ = some (.int .i64 m.epoch) := fun z => (HX.out.next z.bel).c1
  have y2 : ∀ z : LatW wc, z.wd.cell? ⟨w.heap.size, 2, none⟩ = some (.slice x.lA m.line.length x.lC) := fun z => (HX.out.next z.bel).c2
  have y3 : ∀ z : LatW wc, z.wd.cell? ⟨w.heap.size, 3, none⟩ = some (.int .i64 m.seq) := fun z => (HX.out.next z.bel).c3
  have y4 : ∀ z : LatW wc, z.wd.cell? ⟨w.heap.size, 4, none⟩ = some (.int .i64 m.n) := fun z => (HX.out.next z.bel).c4
  have y5 : ∀ z : LatW wc, z.wd.cell? ⟨w.heap.size, 5, none⟩ = some (.int .i64 m.of_) := fun z => (HX.out.next z.bel).c5
  have y7 : ∀ z : LatW wc, z.wd.cell? ⟨w.heap.size, 7, none⟩ = some (.slice x.aA m.anc.length x.aC) := fun z => (HX.out.next z.bel).c7
  have y8 : ∀ z : LatW wc, z.wd.cell? ⟨w.heap.size, 8, none⟩ = some (.int .i64 m.ancS) := fun z => (HX.out.next z.bel).c8
  have y9 : ∀ z : LatW wc, z.wd.cell? ⟨w.heap.size, 9, none⟩ = some (.slice x.bA m.bits.length x.bC) := fun z => (HX.out.next z.bel).c9
  have y10 : ∀ z : LatW wc, z.wd.cell? ⟨w.heap.size, 10, none⟩ = some (.slice x.sA m.sizes.length x.sC) := fun z => (HX.out.next z.bel).c10
  have s2 : ¬ 9223372036854775807 < X1.size + X2.size := by omega
  have s3 : ¬ 9223372036854775807 < X1.size + X2.size + X3.size := by omega
  have s4 : ¬ 9223372036854775807 < X1.size + X2.size + X3.size + X4.size := by omega
  have s5 : ¬ 9223372036854775807 < X1.size + X2.size + X3.size + X4.size + X5.size := by omega
  have s6 : ¬ 9223372036854775807 < X1.size + X2.size + X3.size + X4.size + X5.size + X6.size := by omega
  have s7 : ¬ 9223372036854775807 < X1.size + X2.size + X3.size + X4.size + X5.size + X6.size + X7.size := by omega
  have s8 : ¬ 9223372036854775807 < X1.size + X2.size + X3.size + X4.size + X5.size + X6.size + X7.size + X8.size := by omega
  have s9 : ¬ 9223372036854775807 < X1.size + X2.size + X3.size + X4.size + X5.size + X6.size + X7.size + X8.size + X9.size := by omega
  have s10 : ¬ 9223372036854775807 < X1.size + X2.size + X3.size + X4.size + X5.size + X6.size + X7.size + X8.size + X9.size + X10.size := by omega
  have s11 : ¬ 9223372036854775807 < X1.size + X2.size + X3.size + X4.size + X5.size + X6.size + X7.size + X8.size + X9.size + X10.size + X11.size := by omega
  refine wp_region_later (by kernel_rfl) (by kernel_rfl) ?_
  repeat (first | go_big_quiet_skip | quiet_step (first | (go_at_call 35; with_reducible exact (HC1.out).at_ _) | (go_at_call 36; with_reducible exact (HC2.out).at_ _) | (go_at_call 12; with_reducible exact (HC3.out).at_ _) | (go_at_call 36; with_reducible exact (HC4.out).at_ _) | (go_at_call 36; with_reducible exact (HC5.out).at_ _) | (go_at_call 36; with_reducible exact (HC6.out).at_ _) | (go_at_call 35; with_reducible exact (HC7.out).at_ _) | (go_at_call 12; with_reducible exact (HC8.out).at_ _) | (go_at_call 36; with_reducible exact (HC9.out).at_ _) | (go_at_call 61; with_reducible exact (HC10.out).at_ _) | (go_at_call 35; with_reducible exact (HC11.out).at_ _)) | (go_big_quiet_want; go_big_quiet_op; go_big_quiet_on))
  refine wpQuiet_nil ?_
  intro w9 hw9
  obtain ⟨q9, hw9'⟩ := hw9
  subst hw9'
  clear y0 y1 y2 y3 y4 y5 y7 y8 y9 y10 s2 s3 s4 s5 s6 s7 s8 s9 s10 s11
  obtain ⟨S1, hS1⟩ : ∃ S, X1 ++ X2 ++ X3 ++ X4 ++ X5 ++ X6 ++ X7 ++ X8 ++ X9 ++ X10 ++ X11 = S := ⟨_, rfl⟩
  have hz1 : S1.size ≤ 7000 := by
    obtain ⟨z1, z2, z3, z4, z5, z6, z7, z8, z9, z10, z11⟩ := HZ.out
    rw [← hS1]
    simp only [ByteArray.size_append]
    omega
  rw [hS1] at HS1 ⊢
  have HBz := Lib.hid q9.bel
  generalize q9.wd = w9 at HBz ⊢
  clear q9
  obtain ⟨n, hn⟩ : ∃ n, m.sizes.length = n := ⟨_, rfl⟩
  have HN := Lib.hid hn
  have hn8 : n ≤ 8 := by have := HL4.out; omega
  clear hS1 hn z1 z2 z3 z4 z5 z6 z7 z8 z9 z10 z11 HZ HC1 HC2 HC3 HC4 HC5 HC6 HC7 HC8 HC9 HC10 HC11
  have y10 := (HX.out.next HBz.out).c10
  rw [HN.out] at y10
  go_wp2_with fail
  go_loopw [4, 5] (fun v i wr => ∃ (k : Nat) (S : ByteArray), k ≤ n ∧ i = .int .i64 k ∧ v = .string S ∧ S.size ≤ 7000 + k ∧ Hid (str (mgB1 m ++ (m.sizes.take k).flatMap (fun n => enc 1 n.toNat)) = S) ∧ Hid (Below wc.heap.size wc wr)) (fun _ i _ => n - (intOf i).toNat)
  case atStart => exact ⟨0, S1, by omega, rfl, rfl, by omega, Lib.hid (by rw [HS1.out]; simp), HBz⟩
  case round =>
    clear y10
    obtain ⟨k, S, hk, rfl, rfl, hS, HS, HB⟩ := hrel
    have y10 := (HX.out.next HB.out).c10
    rw [HN.out] at y10
    by_cases hkn : k < n
    · have hkl : k < m.sizes.length := by rw [HN.out]; exact hkn
      obtain ⟨b, off, hA, hbl, hcs⟩ := (HM.out.sizes.next HB.out).at_ (by intro e; have := congrArg List.length e; rw [List.length_map, HN.out] at this; simp at this; omega)
      have x0 := hcs k (by rw [List.length_map]; exact hkl)
      rw [List.getElem_map] at x0
      rw [hA] at y10
      have hbd := HL5.out _ (List.getElem_mem hkl)
      have HT := Lib.hid (szs_take hkl)
      obtain ⟨e, he⟩ : ∃ e, m.sizes[k] = e := ⟨_, rfl⟩
      rw [he] at x0 hbd HT
      obtain ⟨en, rfl⟩ := Int.eq_ofNat_of_zero_le hbd.1
      have HO := Lib.hid (one17_any en wr (by omega))
      rw [Int.toNat_natCast] at HT
      have HS2 : Hid (S ++ str (enc 1 en) = str (mgB1 m ++ (m.sizes.take (k + 1)).flatMap (fun n => enc 1 n.toNat))) := Lib.hid (by rw [← HS.out, str_cat, HT.out, List.append_assoc])
      obtain ⟨X, hX⟩ : ∃ X, str (enc 1 en) = X := ⟨_, rfl⟩
      have hzX : X.size = 1 := by rw [← hX, str_size, enc_length]
      rw [hX] at HO HS2
      have t1 : ¬ 9223372036854775807 < S.size + X.size := by omega
      have HZX := Lib.hid hzX
      have hk0 : (0 : Int) ≤ (k : Int) := by omega
      have hkn2 : (k : Int) < (n : Int) := by omega
      clear hcs he hX hbd hzX hA
      go_wp2_with (go_at_call 35; (with_reducible refine HO.out.mono ?_); rintro e w1 ⟨rfl, hb1⟩; have HB1 := Lib.hid (below_next HB.out hb1); clear hb1)
      have hS9 : (S ++ X).size ≤ 7000 + (k + 1) := by rw [ByteArray.size_append]; have := HZX.out; omega
      go_wp2_with fail
      go_roundw
      case rel => exact ⟨k + 1, S ++ X, by omega, by go_num, rfl, hS9, Lib.hid HS2.out.symm, HB1⟩
      case measure => simp [intOf]; omega
    · obtain rfl : k = n := by omega
      have hkn2 : ¬ (k : Int) < (k : Int) := by omega
      have HW1 := Lib.hid (show LatCalls Try.prog wr 36 #[.int .i64 m.from_] (.string (str (enc 8 m.from_.toNat))) from LatCalls.of fun z => eight17_any _ z.wd HMk.out.from_)
      have HW2 := Lib.hid (show LatCalls Try.prog wr 36 #[.int .i64 m.to_] (.string (str (enc 8 m.to_.toNat))) from LatCalls.of fun z => eight17_any _ z.wd HMk.out.to_)
      have HW3 := Lib.hid (show LatCalls Try.prog wr 18 #[.slice x.wA m.ws.length x.wC] (.string (str (writesB m.ws))) from LatCalls.of fun z => putWrites17_any ((HM.out.ws.next HB.out).next z.bel) HL6.out HMk.out.ws.2.2)
      have HS2 : Hid (S ++ str (enc 8 m.from_.toNat) ++ str (enc 8 m.to_.toNat) ++ str (writesB m.ws) = str (mgB m)) := Lib.hid (by
        rw [← HS.out, List.take_of_length_le (by rw [HN.out]; exact Nat.le_refl _), str_cat, str_cat, str_cat, mgB_parts]
        simp only [List.append_assoc])
      have z3 : (str (writesB m.ws)).size ≤ 2000 := by
        rw [str_size]
        exact writesB_le HL6.out HMk.out.ws.2.2
      obtain ⟨Y1, hY1⟩ : ∃ X, str (enc 8 m.from_.toNat) = X := ⟨_, rfl⟩
      obtain ⟨Y2, hY2⟩ : ∃ X, str (enc 8 m.to_.toNat) = X := ⟨_, rfl⟩
      obtain ⟨Y3, hY3⟩ : ∃ X, str (writesB m.ws) = X := ⟨_, rfl⟩
      have z1 : Y1.size = 8 := by rw [← hY1, str_size, enc_length]
      have z2 : Y2.size = 8 := by rw [← hY2, str_size, enc_length]
      rw [hY1] at HW1 HS2
      rw [hY2] at HW2 HS2
      rw [hY3] at HW3 HS2 z3
      have t1 : ¬ 9223372036854775807 < S.size + Y1.size := by omega
      have t2 : ¬ 9223372036854775807 < S.size + Y1.size + Y2.size := by omega
      have t3 : ¬ 9223372036854775807 < S.size + Y1.size + Y2.size + Y3.size := by omega
      clear z1 z2 z3
      have v11 : ∀ z : LatW wr, z.wd.cell? ⟨w.heap.size, 11, none⟩ = some (.int .i64 m.from_) := fun z => ((HX.out.next HB.out).next z.bel).c11
      have v12 : ∀ z : LatW wr, z.wd.cell? ⟨w.heap.size, 12, none⟩ = some (.int .i64 m.to_) := fun z => ((HX.out.next HB.out).next z.bel).c12
      have v13 : ∀ z : LatW wr, z.wd.cell? ⟨w.heap.size, 13, none⟩ = some (.slice x.wA m.ws.length x.wC) := fun z => ((HX.out.next HB.out).next z.bel).c13
      clear hY1 hY2 hY3
      go_upto_region 9 with fail
      refine wp_region_later (by kernel_rfl) (by kernel_rfl) ?_
      repeat (first | go_big_quiet_skip | quiet_step (first | (go_at_call 36; with_reducible exact (HW1.out).at_ _) | (go_at_call 36; with_reducible exact (HW2.out).at_ _) | (go_at_call 18; with_reducible exact (HW3.out).at_ _)) | (go_big_quiet_want; go_big_quiet_op; go_big_quiet_on))
      refine wpQuiet_nil ?_
      intro w8 hw8
      obtain ⟨q8, hw8'⟩ := hw8
      subst hw8'
      have HB8 := Lib.hid (below_next HB0.out (below_next HB.out q8.bel))
      clear v11 v12 v13 y10
      go_wp2_with fail
      go_ret
      exact ⟨congrArg (fun x => Ending.returned (.string x)) HS2.out, HB8.out⟩
end Go.Proofs.Ytkpoeigoocbgeaa
