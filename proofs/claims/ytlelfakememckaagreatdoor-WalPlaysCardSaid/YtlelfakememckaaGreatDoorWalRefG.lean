/- Contract of the document's slotOf where the slot counts. The document's Find: the log's block in memory; what slotOf answers; the loop over both slots. -/
import Derived.Test.YtlelfakememckaaGreatDoorWalRefE
import Derived.Test.YtlelfakememckaaGreatDoorWalRefC
namespace Go.Proofs.YtlelfakememckaaGreatDoor
open Go.RowKit

set_option maxHeartbeats 8000000 in
set_option maxRecDepth 100000 in
theorem DocSlotOf_yes {w : World} {d : DSt} (ho : d.Ok) (ht : d.Tru) {fA aA wA : Option Addr} {fc ac wc : Nat} (h : RefAt w w.heap.size d.firm d.loose fA aA ac wA wc) (hl : d.loose.length ≤ 1000001) (L : Int) (slot k : Nat) (hs : 2 ≤ slot) (hk : k ≤ 1) (hf : 2 * slot + 3 ≤ d.firm.length)
    (hx : (d.readB ((k * slot : Nat) : Int)).length = 32) (hx32 : ∀ x : Nat, x < d.firm.length → (d.readB (x : Int)).length = 32) (hno : DocSlot (d.readB ((k * slot : Nat) : Int)) d.firm.length slot k) :
    Calls Tryz.prog 35 #[.agg #[.slice fA d.firm.length fc, .slice aA d.loose.length ac, .slice wA d.loose.length wc, .int .i64 L, .bool d.off], .int .i64 slot, .int .i64 k] w fun e w' => e = .returned (.tuple #[.agg #[.int .i64 (fld (d.readB ((k * slot : Nat) : Int)) 1 9), .int .i64 (fld (d.readB ((k * slot : Nat) : Int)) 13 17), .int .i64 (fld (d.readB ((k * slot : Nat) : Int)) 17 25), .int .i64 0, .string (str ((readsL d (slotsL slot k)).take (fld (d.readB ((k * slot : Nat) : Int)) 9 13).toNat)), .slice none 0 0], .bool true]) ∧ Below w.heap.size w w' := by
  have HSec : Hid (∀ w', Below w.heap.size w w' → ∀ x : Nat, Calls Tryz.prog 36 #[.agg #[.slice fA d.firm.length fc, .slice aA d.loose.length ac, .slice wA d.loose.length wc, .int .i64 L, .bool d.off], .int .i64 (x : Int)] w' fun e w'' => e = .returned (.string (str (d.readB (x : Int)))) ∧ Below w'.heap.size w' w'') := Lib.hid (fun w' hb x => DocSector_any ho ht (h.next hb) hl x L)
  have hN : d.firm.length ≤ 4096 := by rw [ho.len]; exact ho.le
  obtain ⟨P, hP⟩ : ∃ P : Nat, k * slot = P := ⟨_, rfl⟩
  have hPz : (k : Int) * (slot : Int) = (P : Int) := by rw [← hP]; simp
  have hks : k * slot ≤ slot := by
    calc k * slot ≤ 1 * slot := Nat.mul_le_mul_right _ hk
      _ = slot := Nat.one_mul _
  have hPs : P ≤ slot := by omega
  have hPw : IntKind.i64.wrap ((k : Int) * (slot : Int)) = (P : Int) := by rw [hPz, IntKind.wrap_i64]; omega
  have hslots : ∀ x ∈ slotsL slot k, x < d.firm.length := fun x hx => by
    unfold slotsL at hx
    obtain ⟨j, hj, rfl⟩ := List.mem_map.1 hx
    have := List.mem_range.1 hj
    omega
  have HBy : Hid (∀ (w' : World) (A : Option Addr) (c n : Nat), Below w.heap.size w w' → Lies w' w'.heap.size A ((slotsL slot k).map natV) → n ≤ 32 * (slot - 1) → Calls Tryz.prog 41 #[.agg #[.slice fA d.firm.length fc, .slice aA d.loose.length ac, .slice wA d.loose.length wc, .int .i64 L, .bool d.off], .int .i64 n, .slice A (slot - 1) c] w' fun e w'' => e = .returned (.string (str ((readsL d (slotsL slot k)).take n))) ∧ Below w'.heap.size w' w'') := Lib.hid (fun w' A c n hb hA hn => by
    have := DocBytes_any (c := c) (fc := fc) (ac := ac) (wc := wc) ho ht (h.next hb) hl L n (slotsL slot k) hA (fun x hx => hx32 x (hslots x hx)) (by rw [slotsL_length]; exact hn) (by rw [slotsL_length]; omega)
    rw [slotsL_length] at this
    exact this)
  have HSl := Lib.hid (fun w' => DocSlots_any slot k (by omega) hk (by omega) w')
  obtain ⟨RD, hRD⟩ : ∃ RD, readsL d (slotsL slot k) = RD := ⟨_, rfl⟩
  rw [hRD] at HBy ⊢
  clear hRD hslots
  rw [hP] at hx hno ⊢
  have HSc : Hid (∀ w', Below w.heap.size w w' → Calls Tryz.prog 36 #[.agg #[.slice fA d.firm.length fc, .slice aA d.loose.length ac, .slice wA d.loose.length wc, .int .i64 L, .bool d.off], .int .i64 (P : Int)] w' fun e w'' => e = .returned (.string (str (d.readB (P : Int)))) ∧ Below w'.heap.size w' w'') := Lib.hid (fun w' hb => HSec.out w' hb P)
  generalize d.readB (P : Int) = x at *
  generalize d.firm.length = N at *
  generalize d.loose.length = m at *
  generalize d.off = o at *
  have hxs : (str x).size = 32 := by rw [str_size]; exact hx
  have hG : ∀ i j : Nat, i ≤ j → j ≤ 32 → ∀ w, Calls Tryz.prog 37 #[.string (str x), .int .i64 i, .int .i64 j] w fun e w' => e = .returned (.int .i64 (fld x i j)) ∧ w = w' := fun i j hi hj w => by
    have := DocGet_any (str x) i j (by omega) hi (by omega) w
    rw [str_list] at this
    exact this
  obtain ⟨G, hg, hg2⟩ := getN_nat ((x.drop 1).take (9 - 1))
  obtain ⟨Z, hz, hz2⟩ := getN_four (l := (x.drop 9).take (13 - 9)) (by rw [List.length_take]; omega)
  obtain ⟨Q, hq, hq2⟩ := getN_four (l := (x.drop 13).take (17 - 13)) (by rw [List.length_take]; omega)
  obtain ⟨U, hu, hu2⟩ := getN_nat ((x.drop 17).take (25 - 17))
  have f0 : fld x 1 9 = (G : Int) := hg
  have f1 : fld x 9 13 = (Z : Int) := hz
  have f2 : fld x 13 17 = (Q : Int) := hq
  have f3 : fld x 17 25 = (U : Int) := hu
  have K0 := hG 1 9 (by omega) (by omega)
  have K1 := hG 9 13 (by omega) (by omega)
  have K2 := hG 13 17 (by omega) (by omega)
  have K3 := hG 17 25 (by omega) (by omega)
  rw [f0] at K0
  rw [f1] at K1
  rw [f2] at K2
  rw [f3] at K3
  replace K0 := Lib.hid K0
  replace K1 := Lib.hid K1
  replace K2 := Lib.hid K2
  replace K3 := Lib.hid K3
  have HSH : Hid (∀ w, Calls Tryz.prog 48 #[.int .i64 G, .int .i64 Z, .int .i64 Q, .int .i64 U] w fun e w' => e = .returned (.string (str (padB (slotHead G Z Q U)))) ∧ Below w.heap.size w w') := Lib.hid (fun w => DocSlotHead_any G Z Q U w (by omega) (by omega) (by omega) (by omega))
  unfold DocSlot at hno
  rw [f0, f1, f2, f3] at hno ⊢
  rw [Int.toNat_natCast]
  have hseq : (str x).toList = (str (padB (slotHead G Z Q U))).toList := by rw [← hno.1]
  obtain ⟨S, hS⟩ : ∃ S, str x = S := ⟨_, rfl⟩
  obtain ⟨S2, hS2⟩ : ∃ S, str (padB (slotHead G Z Q U)) = S := ⟨_, rfl⟩
  rw [hS] at HSc K0 K1 K2 K3 hseq
  rw [hS2] at HSH hseq
  have hw32 : (32 : Int) * ((slot : Int) - 1) = 32 * (slot : Int) - 32 := by omega
  have HB0 : Hid (Below w.heap.size w ((w.alloc (.cells #[.slice fA N fc, .slice aA m ac, .slice wA m wc, .int .i64 L, .bool o] 30)).alloc (.cells #[.int .i64 0, .int .i64 0, .int .i64 0, .int .i64 0, .string ⟨#[]⟩, .slice none 0 0] 38))) := Lib.hid (((Below.refl _ _).alloc (Nat.le_refl _) _).alloc (by simp) _)
  have HC0 : Hid (∀ w', Below ((w.alloc (.cells #[.slice fA N fc, .slice aA m ac, .slice wA m wc, .int .i64 L, .bool o] 30)).alloc (.cells #[.int .i64 0, .int .i64 0, .int .i64 0, .int .i64 0, .string ⟨#[]⟩, .slice none 0 0] 38)).heap.size ((w.alloc (.cells #[.slice fA N fc, .slice aA m ac, .slice wA m wc, .int .i64 L, .bool o] 30)).alloc (.cells #[.int .i64 0, .int .i64 0, .int .i64 0, .int .i64 0, .string ⟨#[]⟩, .slice none 0 0] 38)) w' → w'.heap[w.heap.size]? = some (.cells #[.slice fA N fc, .slice aA m ac, .slice wA m wc, .int .i64 L, .bool o] 30 (0, 0)) ∧ w'.heap[w.heap.size + 1]? = some (.cells #[.int .i64 0, .int .i64 0, .int .i64 0, .int .i64 0, .string ⟨#[]⟩, .slice none 0 0] 38 (0, 0))) := Lib.hid (fun w' hb => by
    have hsz : ((w.alloc (.cells #[.slice fA N fc, .slice aA m ac, .slice wA m wc, .int .i64 L, .bool o] 30)).alloc (.cells #[.int .i64 0, .int .i64 0, .int .i64 0, .int .i64 0, .string ⟨#[]⟩, .slice none 0 0] 38)).heap.size = w.heap.size + 1 + 1 := by simp
    rw [hsz] at hb
    refine ⟨?_, ?_⟩
    · rw [hb.block _ (by omega), Below.heap_alloc _ _ _ (by simp)]
      exact heap_alloc_new _ _
    · rw [hb.block _ (by omega)]
      have := heap_alloc_new (w.alloc (.cells #[.slice fA N fc, .slice aA m ac, .slice wA m wc, .int .i64 L, .bool o] 30)) (.cells #[.int .i64 0, .int .i64 0, .int .i64 0, .int .i64 0, .string ⟨#[]⟩, .slice none 0 0] 38)
      simpa using this)
  obtain ⟨_, q1, q2, q3, q4, q5, q6, q7⟩ := hno
  have HZ : Hid (Z ≤ 32 * (slot - 1)) := Lib.hid (by omega)
  have hb2k : k ≤ 4096 := by omega
  clear ho ht h hl HSec hG hg hz hq hu f0 f1 f2 f3 hx hx32 hxs hS hS2 hP hPz hks
  go_enter Tryz.func35, Tryz.ntmps35
  go_wp2_with fail
  refine (HSc.out _ HB0.out).mono ?_
  rintro e w1 ⟨rfl, hb1⟩
  have HB1 := Lib.hid (below_next HB0.out hb1)
  replace HC0 := Lib.hid (fun w' (hb : Below w1.heap.size w1 w') => HC0.out w' (below_next hb1 hb))
  clear hb1
  go_wp2_with fail
  refine (K0.out _).mono ?_
  rintro e w' ⟨rfl, rfl⟩
  go_wp2_with fail
  refine (K1.out _).mono ?_
  rintro e w' ⟨rfl, rfl⟩
  go_wp2_with fail
  refine (K2.out _).mono ?_
  rintro e w' ⟨rfl, rfl⟩
  go_wp2_with fail
  refine (K3.out _).mono ?_
  rintro e w' ⟨rfl, rfl⟩
  go_wp2_with fail
  refine (HSH.out _).mono ?_
  rintro e w2 ⟨rfl, hb2⟩
  have HB2 := Lib.hid (below_next HB1.out hb2)
  obtain ⟨h1, h2⟩ := HC0.out _ hb2
  clear hb2 HC0
  have HH1 := Lib.hid h1
  have d0 : w2.cell? ⟨w.heap.size, 0, none⟩ = some (.slice fA N fc) := by rw [Lib.cell_of_heap h1]; rfl
  have k0 := Lib.cell_of_heap h2
  have k1 := Lib.frozen_of_heap h2
  have HH2 := Lib.hid h2
  clear h1 h2
  have n0 : (0 : Int) ≤ (G : Int) := Int.natCast_nonneg _
  have n1 : (0 : Int) ≤ (U : Int) := Int.natCast_nonneg _
  have n2 : (0 : Int) ≤ (Q : Int) := Int.natCast_nonneg _
  have n3 : (0 : Int) ≤ (Z : Int) := Int.natCast_nonneg _
  have r1 : ¬ (G : Int) < 1 := by omega
  have r2 : ¬ 1099511627776 < (G : Int) := by omega
  have r4 : ¬ 32 * ((slot : Int) - 1) < (Z : Int) := by omega
  have r5 : ¬ (N : Int) - 2 * (slot : Int) ≤ (Q : Int) := by omega
  have r6 : ¬ (U : Int) < 1 := by omega
  have r7 : ¬ 1099511627776 < (U : Int) := by omega
  go_wp2_with fail
  have HDC : ∀ w', Below (w.heap.size + 1) w2 w' → w'.cell? ⟨w.heap.size, 0, none⟩ = some (.slice fA N fc) ∧ w'.cell? ⟨w.heap.size, 1, none⟩ = some (.slice aA m ac) ∧ w'.cell? ⟨w.heap.size, 2, none⟩ = some (.slice wA m wc) ∧ w'.cell? ⟨w.heap.size, 3, none⟩ = some (.int .i64 L) ∧ w'.cell? ⟨w.heap.size, 4, none⟩ = some (.bool o) := fun w' hb => by
    have hh : w'.heap[w.heap.size]? = _ := (hb.block w.heap.size (by omega)).trans HH1.out
    refine ⟨?_, ?_, ?_, ?_, ?_⟩ <;> rw [Lib.cell_of_heap hh] <;> rfl
  have hH2 : w.heap.size + 1 < w2.heap.size := heap_lt HH2.out
  replace HDC := Lib.hid HDC
  clear d0 k0 k1
  refine wp_region_held_drew (S := fun w' => Below (w.heap.size + 1) w2 w') (by kernel_rfl) (Below.refl _ _).drew (fun hHeld => ?_)
  refine wpAnyH_take (i := 0) (oi := { dst := some 73, op := Op.move (Operand.tmp 9), type := 3, pos := "ref.go:90", after := #[], guard := none }) (v := .int .i64 G) rfl (by kernel_rfl) (by kernel_rfl) (by kernel_rfl) (fun _ _ _ h => h) (Or.inl ⟨by rfl, fun w hS => by go_simp⟩) hHeld ?_
  try simp only [Act.put, List.setIfInBounds_toArray, List.set_cons_zero, List.set_cons_succ]
  refine wpAnyH_take (i := 1) (oi := { dst := some 74, op := Op.move (Operand.tmp 11), type := 3, pos := "ref.go:90", after := #[], guard := none }) (v := .int .i64 Q) rfl (by kernel_rfl) (by kernel_rfl) (by kernel_rfl) (fun _ _ _ h => h) (Or.inl ⟨by rfl, fun w hS => by go_simp⟩) hHeld ?_
  try simp only [Act.put, List.setIfInBounds_toArray, List.set_cons_zero, List.set_cons_succ]
  refine wpAnyH_take (i := 2) (oi := { dst := some 75, op := Op.move (Operand.tmp 12), type := 3, pos := "ref.go:90", after := #[], guard := none }) (v := .int .i64 U) rfl (by kernel_rfl) (by kernel_rfl) (by kernel_rfl) (fun _ _ _ h => h) (Or.inl ⟨by rfl, fun w hS => by go_simp⟩) hHeld ?_
  try simp only [Act.put, List.setIfInBounds_toArray, List.set_cons_zero, List.set_cons_succ]
  refine wpAnyH_take (i := 3) (oi := { dst := some 76, op := Op.load 30 (Operand.tmp 3), type := 30, pos := "ref.go:90", after := #[], guard := none }) (v := .agg #[.slice fA N fc, .slice aA m ac, .slice wA m wc, .int .i64 L, .bool o]) rfl (by kernel_rfl) (by kernel_rfl) (by kernel_rfl) (fun _ _ _ h => h) (Or.inl ⟨by rfl, fun w hS => by obtain ⟨s0, s1, s2, s3, s4⟩ := HDC.out w hS; go_simp⟩) hHeld ?_
  try simp only [Act.put, List.setIfInBounds_toArray, List.set_cons_zero, List.set_cons_succ]
  refine wpAnyH_take (i := 4) (oi := { dst := some 77, op := Op.move (Operand.tmp 10), type := 3, pos := "ref.go:90", after := #[], guard := none }) (v := .int .i64 Z) rfl (by kernel_rfl) (by kernel_rfl) (by kernel_rfl) (fun _ _ _ h => h) (Or.inl ⟨by rfl, fun w hS => by go_simp⟩) hHeld ?_
  try simp only [Act.put, List.setIfInBounds_toArray, List.set_cons_zero, List.set_cons_succ]
  refine wpAnyH_take (i := 5) (oi := { dst := some 78, op := Op.move (Operand.tmp 1), type := 3, pos := "ref.go:90", after := #[], guard := none }) (v := .int .i64 slot) rfl (by kernel_rfl) (by kernel_rfl) (by kernel_rfl) (fun _ _ _ h => h) (Or.inl ⟨by rfl, fun w hS => by go_simp⟩) hHeld ?_
  try simp only [Act.put, List.setIfInBounds_toArray, List.set_cons_zero, List.set_cons_succ]
  refine wpAnyH_take (i := 6) (oi := { dst := some 79, op := Op.move (Operand.tmp 2), type := 3, pos := "ref.go:90", after := #[], guard := none }) (v := .int .i64 k) rfl (by kernel_rfl) (by kernel_rfl) (by kernel_rfl) (fun _ _ _ h => h) (Or.inl ⟨by rfl, fun w hS => by go_simp⟩) hHeld ?_
  try simp only [Act.put, List.setIfInBounds_toArray, List.set_cons_zero, List.set_cons_succ]
  have HBd : Hid (Below w2.heap.size w2 w2.drew) := Lib.hid (Below.refl _ _).drew
  generalize w2.drew = W at *
  refine wpAnyH_ready (rs := [7]) (by kernel_rfl) (by simp) ?_
  refine AllReadyH.cons (o := { dst := some 80, op := Op.call { callee := Callee.value (Operand.func 47), args := #[Operand.tmp 78, Operand.tmp 79], argTypes := #[3, 3] }, type := 28, pos := "ref.go:90", after := #[{ on := 5, ground := Ground.data }, { on := 6, ground := Ground.data }], guard := none }) rfl (fun K hK => ?_) AllReadyH.nil
  rw [if_pos (by rfl)]
  go_simp
  refine (HSl.out _).mono ?_
  rintro e w4 ⟨A4, c4, rfl, hl4, hb4⟩
  go_wp2_with fail
  have HB4 := Lib.hid (below_next HBd.out hb4)
  have HL4 := Lib.hid hl4
  clear hl4 hb4
  refine hK.out _ _ (HB4.out.mono (by omega)) (fun hHeld2 => ?_)
  clear hK K
  try simp only [Act.put, List.setIfInBounds_toArray, List.set_cons_zero, List.set_cons_succ]
  refine wpAnyH_ready (rs := [8]) (by kernel_rfl) (by simp) ?_
  refine AllReadyH.cons (o := { dst := some 81, op := Op.call { callee := Callee.value (Operand.func 41), args := #[Operand.tmp 76, Operand.tmp 77, Operand.tmp 80], argTypes := #[30, 3, 28] }, type := 9, pos := "ref.go:90", after := #[{ on := 3, ground := Ground.data }, { on := 4, ground := Ground.data }, { on := 7, ground := Ground.data }, { on := 7, ground := Ground.chain }], guard := none }) rfl (fun K hK => ?_) AllReadyH.nil
  rw [if_pos (by rfl)]
  go_simp
  refine (HBy.out _ _ _ _ (HB2.out.trans (HB4.out.mono HB2.out.size)) HL4.out HZ.out).mono ?_
  rintro e w5 ⟨rfl, hb5⟩
  go_wp2_with fail
  have HB5 := Lib.hid (below_next HB4.out hb5)
  clear hb5
  refine hK.out _ _ (HB5.out.mono (by omega)) (fun hHeld3 => ?_)
  clear hK K
  try simp only [Act.put, List.setIfInBounds_toArray, List.set_cons_zero, List.set_cons_succ]
  refine wpAnyH_take (i := 9) (oi := { dst := some 82, op := Op.build 38 #[(0, Operand.tmp 73), (1, Operand.tmp 74), (2, Operand.tmp 75), (4, Operand.tmp 81)], type := 38, pos := "ref.go:90", after := #[{ on := 0, ground := Ground.data }, { on := 1, ground := Ground.data }, { on := 2, ground := Ground.data }, { on := 8, ground := Ground.data }], guard := none }) (v := .agg #[.int .i64 G, .int .i64 Q, .int .i64 U, .int .i64 0, .string (str (RD.take Z)), .slice none 0 0]) rfl (by kernel_rfl) (by kernel_rfl) (by kernel_rfl) (fun _ _ _ h => h) (Or.inl ⟨by rfl, fun w hS => by go_simp⟩) hHeld3 ?_
  try simp only [Act.put, List.setIfInBounds_toArray, List.set_cons_zero, List.set_cons_succ]
  have hR5 : w5.heap[w.heap.size + 1]? = some (.cells #[.int .i64 0, .int .i64 0, .int .i64 0, .int .i64 0, .string ⟨#[]⟩, .slice none 0 0] 38 (0, 0)) := (HB5.out.block _ hH2).trans HH2.out
  have k0 := Lib.cell_of_heap hR5
  have k1 := Lib.frozen_of_heap hR5
  obtain ⟨ST, hST⟩ : ∃ ST, str (RD.take Z) = ST := ⟨_, rfl⟩
  rw [hST]
  refine wpAnyH_ready (rs := [10]) (by kernel_rfl) (by simp) ?_
  refine AllReadyH.cons (o := { dst := none, op := Op.store 38 (Operand.tmp 6) (Operand.tmp 82), type := 0, pos := "ref.go:90", after := #[{ on := 9, ground := Ground.data }, { on := 8, ground := Ground.chain }, { on := 0, ground := Ground.phase }, { on := 1, ground := Ground.phase }, { on := 2, ground := Ground.phase }, { on := 3, ground := Ground.phase }, { on := 4, ground := Ground.phase }, { on := 5, ground := Ground.phase }, { on := 6, ground := Ground.phase }, { on := 7, ground := Ground.phase }, { on := 8, ground := Ground.phase }, { on := 9, ground := Ground.phase }], guard := none }) rfl (fun K hK => ?_) AllReadyH.nil
  rw [if_pos (by rfl)]
  go_simp
  have HRR := Lib.hid (row_set (row_set (row_set (row_set (row_set (row_set hR5 0 (.int .i64 G)) 1 (.int .i64 Q)) 2 (.int .i64 U)) 3 (.int .i64 0)) 4 (.string ST)) 5 (.slice none 0 0))
  have HBR : Hid (Below (w.heap.size + 1) w2 ((((((w5.setCell ⟨w.heap.size + 1, 0, none⟩ (.int .i64 G)).setCell ⟨w.heap.size + 1, 1, none⟩ (.int .i64 Q)).setCell ⟨w.heap.size + 1, 2, none⟩ (.int .i64 U)).setCell ⟨w.heap.size + 1, 3, none⟩ (.int .i64 0)).setCell ⟨w.heap.size + 1, 4, none⟩ (.string ST)).setCell ⟨w.heap.size + 1, 5, none⟩ (.slice none 0 0))) := Lib.hid ((((((((HB5.out.mono (show w.heap.size + 1 ≤ w2.heap.size by omega)).setCell (Nat.le_refl _) _).setCell (Nat.le_refl _) _).setCell (Nat.le_refl _) _).setCell (Nat.le_refl _) _).setCell (Nat.le_refl _) _).setCell (Nat.le_refl _) _))
  refine hK.out _ _ HBR.out (fun hHeld4 => ?_)
  clear hK K
  try simp only [Act.put, List.setIfInBounds_toArray, List.set_cons_zero, List.set_cons_succ]
  generalize (((((w5.setCell ⟨w.heap.size + 1, 0, none⟩ (.int .i64 G)).setCell ⟨w.heap.size + 1, 1, none⟩ (.int .i64 Q)).setCell ⟨w.heap.size + 1, 2, none⟩ (.int .i64 U)).setCell ⟨w.heap.size + 1, 3, none⟩ (.int .i64 0)).setCell ⟨w.heap.size + 1, 4, none⟩ (.string ST)).setCell ⟨w.heap.size + 1, 5, none⟩ (.slice none 0 0) = w6 at *
  refine wpAnyH_take (i := 11) (oi := { dst := some 7, op := Op.assign (Operand.const (Value.bool true)), type := 4, pos := "ref.go:90", after := #[{ on := 10, ground := Ground.chain }, { on := 0, ground := Ground.phase }, { on := 1, ground := Ground.phase }, { on := 2, ground := Ground.phase }, { on := 3, ground := Ground.phase }, { on := 4, ground := Ground.phase }, { on := 5, ground := Ground.phase }, { on := 6, ground := Ground.phase }, { on := 7, ground := Ground.phase }, { on := 8, ground := Ground.phase }, { on := 9, ground := Ground.phase }, { on := 10, ground := Ground.phase }], guard := none }) (v := .bool true) rfl (by kernel_rfl) (by kernel_rfl) (by kernel_rfl) (fun _ _ _ h => h) (Or.inl ⟨by rfl, fun w hS => by go_simp⟩) hHeld4 ?_
  try simp only [Act.put, List.setIfInBounds_toArray, List.set_cons_zero, List.set_cons_succ]
  refine wpAnyH_done (by kernel_rfl) ?_ _
  have k9 := Lib.cell_of_heap HRR.out
  clear k0 k1
  go_wp2_with fail
  (try simp only [Exit.inBlock, Exit.then])
  exact bodyPost_ret (v := .tuple #[.agg #[.int .i64 G, .int .i64 Q, .int .i64 U, .int .i64 0, .string ST, .slice none 0 0], .bool true]) (by simp [results, Tryz.results35, go_sem, k9]) rfl ⟨by rw [← hST], HB2.out.trans (HBR.out.mono (by omega))⟩
end Go.Proofs.YtlelfakememckaaGreatDoor

namespace Go.Proofs.YtlelfakememckaaGreatDoor
open Go.RowKit

/-- A log's block, as the document keeps it. -/
def Six (w : World) (G : Nat) (gen place num used : Int) (st : ByteArray) (v : Value) : Prop := w.heap[G]? = some (.cells #[.int .i64 gen, .int .i64 place, .int .i64 num, .int .i64 used, .string st, v] 38 (0, 0))
theorem Six.cells {w : World} {G : Nat} {gen place num used : Int} {st : ByteArray} {v : Value} (h : Six w G gen place num used st v) : w.cell? ⟨G, 0, none⟩ = some (.int .i64 gen) ∧ w.cell? ⟨G, 1, none⟩ = some (.int .i64 place) ∧ w.cell? ⟨G, 2, none⟩ = some (.int .i64 num) ∧ w.cell? ⟨G, 3, none⟩ = some (.int .i64 used) ∧ w.cell? ⟨G, 4, none⟩ = some (.string st) ∧ w.cell? ⟨G, 5, none⟩ = some v ∧ (∀ j, w.frozen? ⟨G, j, none⟩ = false) := by
  refine ⟨?_, ?_, ?_, ?_, ?_, ?_, fun j => Lib.frozen_of_heap h j⟩ <;> rw [Lib.cell_of_heap h] <;> rfl
theorem Six.below {w w' : World} {G : Nat} {gen place num used : Int} {st : ByteArray} {v : Value} (h : Six w G gen place num used st v) (hb : Below w.heap.size w w') : Six w' G gen place num used st v := (hb.block G (heap_lt h)).trans h
theorem Six.new (w : World) (gen place num used : Int) (st : ByteArray) (v : Value) : Six (w.alloc (.cells #[.int .i64 gen, .int .i64 place, .int .i64 num, .int .i64 used, .string st, v] 38)) w.heap.size gen place num used st v := heap_alloc_new _ _
theorem Six.set {w : World} {G : Nat} {gen place num used : Int} {st : ByteArray} {v : Value} (h : Six w G gen place num used st v) (gen2 place2 num2 used2 : Int) (st2 : ByteArray) (v2 : Value) :
    Six ((((((w.setCell ⟨G, 0, none⟩ (.int .i64 gen2)).setCell ⟨G, 1, none⟩ (.int .i64 place2)).setCell ⟨G, 2, none⟩ (.int .i64 num2)).setCell ⟨G, 3, none⟩ (.int .i64 used2)).setCell ⟨G, 4, none⟩ (.string st2)).setCell ⟨G, 5, none⟩ v2) G gen2 place2 num2 used2 st2 v2 :=
  row_set (row_set (row_set (row_set (row_set (row_set h 0 _) 1 _) 2 _) 3 _) 4 _) 5 _
theorem Six.far {w : World} {G : Nat} {gen place num used : Int} {st : ByteArray} {v : Value} (h : Six w G gen place num used st v) {p : Addr} (hp : G ≠ p.block) (u : Value) : Six (w.setCell p u) G gen place num used st v := (Below.heap_setCell _ _ _ _ hp).trans h
theorem Six.set1 {w : World} {G : Nat} {gen place num used : Int} {st : ByteArray} {v : Value} (h : Six w G gen place num used st v) (x : Int) : Six (w.setCell ⟨G, 1, none⟩ (.int .i64 x)) G gen x num used st v := row_set h 1 _
theorem Six.set2 {w : World} {G : Nat} {gen place num used : Int} {st : ByteArray} {v : Value} (h : Six w G gen place num used st v) (x : Int) : Six (w.setCell ⟨G, 2, none⟩ (.int .i64 x)) G gen place x used st v := row_set h 2 _
theorem Six.set3 {w : World} {G : Nat} {gen place num used : Int} {st : ByteArray} {v : Value} (h : Six w G gen place num used st v) (x : Int) : Six (w.setCell ⟨G, 3, none⟩ (.int .i64 x)) G gen place num x st v := row_set h 3 _
theorem Six.set5 {w : World} {G : Nat} {gen place num used : Int} {st : ByteArray} {v : Value} (h : Six w G gen place num used st v) (x : Value) : Six (w.setCell ⟨G, 5, none⟩ x) G gen place num used st x := row_set h 5 _

/-- Within Find: the disk's block, the answer's, the log's. -/
structure FindSt (w wr : World) (a b c dl e : Value) (gen place num used : Int) (st : ByteArray) (v : Value) : Prop where
  five : Five wr w.heap.size a b c dl e
  res : Six wr (w.heap.size + 1) 0 0 0 0 ⟨#[]⟩ (.slice none 0 0)
  g : Six wr (w.heap.size + 1 + 1) gen place num used st v
  bel : Below w.heap.size w wr
theorem FindSt.next {w wr w' : World} {a b c dl e : Value} {gen place num used : Int} {st : ByteArray} {v : Value} (h : FindSt w wr a b c dl e gen place num used st v) (hb : Below wr.heap.size wr w') : FindSt w w' a b c dl e gen place num used st v :=
  ⟨h.five.below hb (heap_lt h.five), h.res.below hb, h.g.below hb, h.bel.trans (hb.mono h.bel.size)⟩
theorem FindSt.put {w wr : World} {a b c dl e : Value} {gen place num used : Int} {st : ByteArray} {v : Value} (h : FindSt w wr a b c dl e gen place num used st v) (gen2 place2 num2 used2 : Int) (st2 : ByteArray) (v2 : Value) :
    FindSt w ((((((wr.setCell ⟨w.heap.size + 1 + 1, 0, none⟩ (.int .i64 gen2)).setCell ⟨w.heap.size + 1 + 1, 1, none⟩ (.int .i64 place2)).setCell ⟨w.heap.size + 1 + 1, 2, none⟩ (.int .i64 num2)).setCell ⟨w.heap.size + 1 + 1, 3, none⟩ (.int .i64 used2)).setCell ⟨w.heap.size + 1 + 1, 4, none⟩ (.string st2)).setCell ⟨w.heap.size + 1 + 1, 5, none⟩ v2) a b c dl e gen2 place2 num2 used2 st2 v2 := by
  have hn : ∀ j, w.heap.size ≠ (⟨w.heap.size + 1 + 1, j, none⟩ : Addr).block := fun j => by show w.heap.size ≠ w.heap.size + 1 + 1; omega
  have hn1 : ∀ j, w.heap.size + 1 ≠ (⟨w.heap.size + 1 + 1, j, none⟩ : Addr).block := fun j => by show w.heap.size + 1 ≠ w.heap.size + 1 + 1; omega
  have hb : ∀ j, w.heap.size ≤ (⟨w.heap.size + 1 + 1, j, none⟩ : Addr).block := fun j => by show w.heap.size ≤ w.heap.size + 1 + 1; omega
  exact ⟨(((((h.five.far (hn _) _).far (hn _) _).far (hn _) _).far (hn _) _).far (hn _) _).far (hn _) _, (((((h.res.far (hn1 _) _).far (hn1 _) _).far (hn1 _) _).far (hn1 _) _).far (hn1 _) _).far (hn1 _) _, h.g.set _ _ _ _ _ _, (((((h.bel.setCell (hb _) _).setCell (hb _) _).setCell (hb _) _).setCell (hb _) _).setCell (hb _) _).setCell (hb _) _⟩
theorem FindSt.start (w : World) (a b c dl e : Value) : FindSt w (((w.alloc (.cells #[a, b, c, dl, e] 30)).alloc (.cells #[.int .i64 0, .int .i64 0, .int .i64 0, .int .i64 0, .string ⟨#[]⟩, .slice none 0 0] 38)).alloc (.cells #[.int .i64 0, .int .i64 0, .int .i64 1, .int .i64 0, .string ⟨#[]⟩, .slice none 0 0] 38)) a b c dl e 0 0 1 0 ⟨#[]⟩ (.slice none 0 0) := by
  obtain ⟨w1, h1⟩ : ∃ w1, w.alloc (.cells #[a, b, c, dl, e] 30) = w1 := ⟨_, rfl⟩
  have k1 : Five w1 w.heap.size a b c dl e := by rw [← h1]; exact Five.new _ _ _ _ _ _
  have b1 : Below w.heap.size w w1 := by rw [← h1]; exact (Below.refl _ _).alloc (Nat.le_refl _) _
  have s1 : w1.heap.size = w.heap.size + 1 := by rw [← h1]; simp
  rw [h1]
  obtain ⟨w2, h2⟩ : ∃ w2, w1.alloc (.cells #[.int .i64 0, .int .i64 0, .int .i64 0, .int .i64 0, .string ⟨#[]⟩, .slice none 0 0] 38) = w2 := ⟨_, rfl⟩
  have k2 : Six w2 (w.heap.size + 1) 0 0 0 0 ⟨#[]⟩ (.slice none 0 0) := by rw [← h2, ← s1]; exact Six.new _ _ _ _ _ _ _
  have b2 : Below w1.heap.size w1 w2 := by rw [← h2]; exact (Below.refl _ _).alloc (Nat.le_refl _) _
  have s2 : w2.heap.size = w.heap.size + 1 + 1 := by rw [← h2]; simp [s1]
  rw [h2]
  have b3 : Below w2.heap.size w2 (w2.alloc (.cells #[.int .i64 0, .int .i64 0, .int .i64 1, .int .i64 0, .string ⟨#[]⟩, .slice none 0 0] 38)) := (Below.refl _ _).alloc (Nat.le_refl _) _
  refine ⟨(k1.below b2 (heap_lt k1)).below b3 (heap_lt (k1.below b2 (heap_lt k1))), k2.below b3, ?_, below_next (below_next b1 b2) b3⟩
  rw [← s2]; exact Six.new _ _ _ _ _ _ _

/-- What slotOf answers. -/
def slotYes (d : DSt) (slot k : Nat) : Value := .tuple #[.agg #[.int .i64 (fld (d.readB ((k * slot : Nat) : Int)) 1 9), .int .i64 (fld (d.readB ((k * slot : Nat) : Int)) 13 17), .int .i64 (fld (d.readB ((k * slot : Nat) : Int)) 17 25), .int .i64 0, .string (str (stateOf d.seen slot (fld (d.readB ((k * slot : Nat) : Int)) 1 9).toNat (fld (d.readB ((k * slot : Nat) : Int)) 9 13).toNat)), .slice none 0 0], .bool true]
theorem DocSlotOf_st {w : World} {d : DSt} (ho : d.Ok) (ht : d.Tru) {fA aA wA : Option Addr} {fc ac wc : Nat} (h : RefAt w w.heap.size d.firm d.loose fA aA ac wA wc) (hl : d.loose.length ≤ 1000001) (L : Int) (slot k : Nat) (hs : 2 ≤ slot) (hk : k ≤ 1) (hf : 2 * slot + 3 ≤ d.seen.length)
    (hoff : d.off = false) (hx : ∀ x ∈ d.seen, x.length = 32) (hyes : DocSlot (d.seen.getD (k * slot) []) d.seen.length slot k) :
    Calls Tryz.prog 35 #[.agg #[.slice fA d.firm.length fc, .slice aA d.loose.length ac, .slice wA d.loose.length wc, .int .i64 L, .bool d.off], .int .i64 slot, .int .i64 k] w fun e w' => e = .returned (slotYes d slot k) ∧ Below w.heap.size w w' := by
  have hks : k * slot ≤ slot := by
    calc k * slot ≤ 1 * slot := Nat.mul_le_mul_right _ hk
      _ = slot := Nat.one_mul _
  have hlen := ho.len
  have hr := readB_on (x := k * slot) hoff (by omega)
  have hyes2 : DocSlot (d.readB ((k * slot : Nat) : Int)) d.firm.length slot k := by rw [hr, hlen]; exact hyes
  have := DocSlotOf_yes (fc := fc) (ac := ac) (wc := wc) ho ht h hl L slot k hs hk (by omega) (by rw [hr]; exact getD_32 hx (by omega)) (fun x hx' => readB_32 hoff hx (by omega)) hyes2
  unfold slotYes
  obtain ⟨_, g1, _, g3, g4, _, _, _⟩ := hyes2
  have hst : (readsL d (slotsL slot k)).take (fld (d.readB ((k * slot : Nat) : Int)) 9 13).toNat = stateOf d.seen slot (fld (d.readB ((k * slot : Nat) : Int)) 1 9).toNat (fld (d.readB ((k * slot : Nat) : Int)) 9 13).toNat := state_link hoff hx (by omega) (by omega) (by omega) (by omega)
  rw [hst] at this
  exact this
end Go.Proofs.YtlelfakememckaaGreatDoor
