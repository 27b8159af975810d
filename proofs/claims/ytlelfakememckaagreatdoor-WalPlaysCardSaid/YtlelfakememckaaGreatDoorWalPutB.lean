/- The document's Checkpoint, over all disks and logs that fit. -/
import Derived.Test.YtlelfakememckaaGreatDoorWalPutA
namespace Go.Proofs.YtlelfakememckaaGreatDoor
open Go.RowKit

set_option maxHeartbeats 1600000 in
set_option maxRecDepth 100000 in
theorem DocSlots_room (slot k : Nat) (hs : slot ≤ 4096) (hk : k ≤ 1) (hs1 : 1 ≤ slot) (w : World) :
    Calls Tryz.prog 47 #[.int .i64 slot, .int .i64 k] w fun e w' => ∃ A c, e = .returned (.slice A (slot - 1) c) ∧ Lies w' w'.heap.size A ((slotsL slot k).map natV) ∧ slot - 1 ≤ c ∧ Below w.heap.size w w' := by
  obtain ⟨i1, hi1, hy0, hy1, hy2⟩ := info_parts Tryz.infoInt5
  have hkb : k * slot ≤ slot := by
    calc k * slot ≤ 1 * slot := Nat.mul_le_mul_right _ hk
      _ = slot := Nat.one_mul _
  obtain ⟨P, hP⟩ : ∃ P : Nat, k * slot = P := ⟨_, rfl⟩
  have hPz : (k : Int) * (slot : Int) = (P : Int) := by rw [← hP]; simp
  have hPw : IntKind.i64.wrap ((k : Int) * (slot : Int)) = (P : Int) := by rw [hPz, IntKind.wrap_i64]; omega
  have HP := Lib.hid hP
  clear hPz
  go_enter Tryz.func47, Tryz.ntmps47
  go_wp2_with fail
  go_loopg [5, 6] slot (fun kx s5 s6 wr => ∃ i : Nat, s6 = .int .i64 ((i + 1 : Nat) : Int) ∧ i + 1 ≤ slot ∧ slot - (i + 1) ≤ kx ∧ Hid (wr.ownsRow w.heap.size 3 1 s5 i ((slotsUpto slot k i).map natV)) ∧ Hid (Below w.heap.size w wr))
  case atStart => exact ⟨0, rfl, by omega, by omega, Lib.hid (World.ownsRow_nil _ _ _ _), Lib.hid (Below.refl _ _)⟩
  case round =>
    obtain ⟨i, rfl, hi, hix, HO, HB⟩ := hrel
    obtain ⟨A5, c5, h5, hxx⟩ := own_lies HO.out
    have HL5 := Lib.hid hxx.2
    clear hxx
    subst h5
    by_cases hlt : i + 1 < slot
    · have hltz : ((i + 1 : Nat) : Int) < (slot : Int) := by omega
      have hw1 : IntKind.i64.wrap ((P : Int) + ((i + 1 : Nat) : Int)) = ((P + 1 + i : Nat) : Int) := by rw [IntKind.wrap_i64]; omega
      have hwz : w.heap.size ≤ wr.heap.size := HB.out.size
      go_wp2_with (at_builtin; refine wpList_append_lies _ rfl (.tmp 12) (.tmp 18) 28 rfl w.heap.size 3 i1 (.int .i64 0) 1 8 Tryz.underlying28 hi1 hy0 hy1 hy2 rfl (by decide) (.slice A5 i c5) i ((slotsUpto slot k i).map natV) rfl (HO.out.alloc _) ⟨wr.heap.size, 0, none⟩ 1 1 [.int .i64 ((P : Int) + ((i : Int) + 1))] rfl rfl ?c1 ?c2 (by omega) ?c3 ?c4 ?c5 (wr.heap.size + 1) (by simp) ?_)
      case c1 => exact cell_one_new _ _ _
      case c2 => intro u hu; simp at hu; subst hu; rfl
      case c3 => unfold maxLen; omega
      case c4 => omega
      case c5 => simp; omega
      intro g cap w6 hown hg hat hlt6
      have HO6 : Hid (w6.ownsRow w.heap.size 3 1 (.slice (some ⟨g, 0, none⟩) (i + 1) cap) (i + 1) ((slotsUpto slot k (i + 1)).map natV)) := Lib.hid (by
        rw [slotsUpto_succ, HP.out, show ((P + 1 + i : Nat) : Int) = (P : Int) + ((i : Int) + 1) from by omega]; exact hown)
      have HB6 : Hid (Below w.heap.size w w6) := Lib.hid ((HB.out.alloc hwz _).grown hg (by simp; omega) (fun q hq => (HO.out.lt q hq).1))
      clear hown hg hat hlt6
      go_wp2_with fail
      go_roundg (slot - (i + 1 + 1))
      case measure => omega
      case rel => exact ⟨i + 1, by go_num, by omega, Nat.le_refl _, HO6, HB6⟩
    · have hltz : ¬ ((i + 1 : Nat) : Int) < (slot : Int) := by omega
      have hie : slot - 1 = i := by omega
      go_wp2_with fail
      go_ret
      refine ⟨A5, c5, rfl, ?_, own_capD HO.out, HB.out⟩
      have h := HL5.out
      unfold slotsL
      rw [hie]
      exact h


theorem Lies.upto {w : World} {B : Nat} {A : Option Addr} {cs : List Value} (h : Lies w B A cs) (n : Nat) : Lies w B A (cs.take n) := by
  rcases h with rfl | ⟨b, off, rfl, hb, hc⟩
  · exact .inl (by simp)
  · refine .inr ⟨b, off, rfl, hb, fun i hi => ?_⟩
    have hi2 : i < cs.length := by rw [List.length_take] at hi; omega
    rw [hc i hi2, List.getElem_take]
theorem AppSt.seeC {w wr : World} {X : Nat} {d : DSt} {fA aA wA : Option Addr} {fc ac wc : Nat} {G P K U : Int} {ST : ByteArray} {RV : Value} (h : AppSt w wr X d fA fc aA ac wA wc G P K U ST RV) (v0 v1 v2 v3 v4 : Value) {W : World} (hW : W = (((((wr.setCell ⟨X + 1 + 1, 0, none⟩ v0).setCell ⟨X + 1 + 1, 1, none⟩ v1).setCell ⟨X + 1 + 1, 2, none⟩ v2).setCell ⟨X + 1 + 1, 3, none⟩ v3).setCell ⟨X + 1 + 1, 4, none⟩ v4)) :
    W.cell? ⟨X, 0, none⟩ = some (.slice fA d.firm.length fc) ∧ W.cell? ⟨X, 1, none⟩ = some (.slice aA d.loose.length ac) ∧ W.cell? ⟨X, 2, none⟩ = some (.slice wA d.loose.length wc) ∧ W.cell? ⟨X, 3, none⟩ = some (.int .i64 d.leftR) ∧ W.cell? ⟨X, 4, none⟩ = some (.bool d.off) ∧ W.cell? ⟨X + 1, 0, none⟩ = some (.int .i64 G) ∧ W.cell? ⟨X + 1, 1, none⟩ = some (.int .i64 P) ∧ W.cell? ⟨X + 1, 2, none⟩ = some (.int .i64 K) := by
  have e : ∀ H, H ≠ X + 1 + 1 → W.heap[H]? = wr.heap[H]? := fun H hH => by
    rw [hW]
    exact (Below.heap_setCell _ _ _ _ hH).trans ((Below.heap_setCell _ _ _ _ hH).trans ((Below.heap_setCell _ _ _ _ hH).trans ((Below.heap_setCell _ _ _ _ hH).trans (Below.heap_setCell _ _ _ _ hH))))
  obtain ⟨k0, k1, k2, k3, k4, _⟩ := h.x.cells
  obtain ⟨g0, g1, g2, _⟩ := h.g.cells
  have eX := e X (by omega)
  have eG := e (X + 1) (by omega)
  exact ⟨(World.cell?_of_block (a := ⟨X, 0, none⟩) eX).trans k0, (World.cell?_of_block (a := ⟨X, 1, none⟩) eX).trans k1, (World.cell?_of_block (a := ⟨X, 2, none⟩) eX).trans k2, (World.cell?_of_block (a := ⟨X, 3, none⟩) eX).trans k3, (World.cell?_of_block (a := ⟨X, 4, none⟩) eX).trans k4, (World.cell?_of_block (a := ⟨X + 1, 0, none⟩) eG).trans g0, (World.cell?_of_block (a := ⟨X + 1, 1, none⟩) eG).trans g1, (World.cell?_of_block (a := ⟨X + 1, 2, none⟩) eG).trans g2⟩
theorem slots_few {slot g n : Nat} (h : n ≤ slot - 1) : ((slotsL slot ((g + 1) % 2)).take n).length = n := by rw [List.length_take, slotsL_length]; omega
theorem slots_in {slot k n N : Nat} (hk : k ≤ 1) (hs : 1 ≤ slot) (hN : 2 * slot ≤ N) : ∀ x ∈ (slotsL slot k).take n, x < N := fun x hx => by
  have hx := List.mem_of_mem_take hx
  unfold slotsL at hx
  obtain ⟨j, hj, rfl⟩ := List.mem_map.1 hx
  have := List.mem_range.1 hj
  have : k * slot ≤ 1 * slot := Nat.mul_le_mul_right _ hk
  omega
theorem ck_is {v : WalV} {d : DSt} {s : List UInt8} {PH : List UInt8} {D2 : DSt} {C2 : Int} (hE : ckBad v s = 0) (hP : padB (slotHead ((v.gen.toNat + 1 : Nat) : Int) s.length v.next v.num) = PH)
    (hD : d.storeD (partsAt s ((slotsL v.slot ((v.gen.toNat + 1) % 2)).take (secs s.length))) ((v.gen.toNat + 1) % 2 * v.slot, PH) = D2)
    (hC : (if d.storeE (partsAt s ((slotsL v.slot ((v.gen.toNat + 1) % 2)).take (secs s.length))) ((v.gen.toNat + 1) % 2 * v.slot, PH) = true then 0 else 7) = C2) (hk : secs s.length ≤ v.slot - 1) : ckD v d s = D2 ∧ ckE v d s = C2 := by
  rw [parts_slots _ _ _ hk] at hD hC
  obtain ⟨e1, e2⟩ := store_pad d (bodyS v.slot v.gen.toNat s) ((v.gen.toNat + 1) % 2 * v.slot) (slotHead_short2 ((v.gen.toNat + 1 : Nat) : Int) s.length v.next v.num)
  rw [hP] at e1 e2
  have hh : headS v v.slot v.gen.toNat s = ((v.gen.toNat + 1) % 2 * v.slot, slotHead ((v.gen.toNat + 1 : Nat) : Int) s.length v.next v.num) := rfl
  unfold ckD ckE
  rw [if_pos hE, if_pos hE, hh, ← e1, ← e2]
  exact ⟨hD, hC⟩

set_option maxHeartbeats 8000000 in
set_option maxRecDepth 100000 in
theorem DocCheckpoint_any {w : World} {d : DSt} (ho : d.Ok) {fA aA wA : Option Addr} {fc ac yc : Nat} (h : RefAt w w.heap.size d.firm d.loose fA aA ac wA yc) (hl : d.loose.length ≤ 500000) (v : WalV) (ST : ByteArray) (RV : Value) (r : List UInt8) (hr : r.length ≤ 100000) (hN : d.seen.length ≤ 4096)
    (hs : 2 ≤ v.slot) (hf : 2 * v.slot + 3 ≤ d.seen.length) (hx : v.next < d.seen.length - 2 * v.slot) (hg0 : 0 ≤ v.gen) (hg1 : v.gen ≤ 1099511627776) (hn0 : 0 ≤ v.num) (hn1 : v.num ≤ 9223372036854775000) (hd : v.down = false) :
    Calls Tryz.prog 14 #[.agg #[.slice fA d.firm.length fc, .slice aA d.loose.length ac, .slice wA d.loose.length yc, .int .i64 d.leftR, .bool d.off], .int .i64 v.slot, .agg #[.int .i64 v.gen, .int .i64 v.next, .int .i64 v.num, .int .i64 v.used, .string ST, RV], .string (str r)] w (RefRet fA aA wA (ckD v d r) (ckE v d r) w) := by
  obtain ⟨g, hgg⟩ : ∃ g : Nat, v.gen = (g : Int) := ⟨v.gen.toNat, by omega⟩
  have hgn : v.gen.toNat = g := by rw [hgg]; rfl
  have HS := Lib.hid (app_first (G := v.gen) (P := v.next) (K := v.num) (U := v.used) (ST := ST) (RV := RV) (fc := fc) (wc := yc) ho h)
  rw [hgg] at HS ⊢
  have HGg := Lib.hid hgg
  have HGn := Lib.hid hgn
  have hgb : g ≤ 1099511627776 := by omega
  have hg2 : 0 ≤ (g : Int) := Int.natCast_nonneg _
  have hg3 : (g : Int) ≤ 1099511627776 := by omega
  clear hg0 hg1 hgn hgg
  obtain ⟨N, hNN⟩ : ∃ N, d.seen.length = N := ⟨_, rfl⟩
  have HNN := Lib.hid hNN
  have hfb : d.firm.length ≤ 4096 := by have := ho.len; omega
  have hsb : v.slot ≤ 2048 := by omega
  have hsz : (str r).size = r.length := str_size r
  go_enter Tryz.func14, Tryz.ntmps14
  obtain ⟨X, hX⟩ : ∃ X, w.heap.size = X := ⟨_, rfl⟩
  obtain ⟨wr, hwr⟩ : ∃ wr, (((w.alloc (.cells #[.slice fA d.firm.length fc, .slice aA d.loose.length ac, .slice wA d.loose.length yc, .int .i64 d.leftR, .bool d.off] 30)).alloc (.cells #[.int .i64 (g : Int), .int .i64 v.next, .int .i64 v.num, .int .i64 v.used, .string ST, RV] 38)).alloc (.cells #[.slice none 0 0, .slice none 0 0, .slice none 0 0, .int .i64 0, .bool false] 30)) = wr := ⟨_, rfl⟩
  have HWr := Lib.hid hwr
  rw [hwr] at HS
  have hB5 : ckBad v r = 5 → ckE v d r = 5 ∧ ckD v d r = d ∧ ckV v d r = v := fun e => ck_bad e (by omega)
  have hB6 : ckBad v r = 6 → ckE v d r = 6 ∧ ckD v d r = d ∧ ckV v d r = v := fun e => ck_bad e (by omega)
  have HB5 := Lib.hid hB5
  have HB6 := Lib.hid hB6
  rw [hNN] at hf hx hN
  clear hB5 hB6 hwr hNN
  go_upto_region 1 with fail
  rw [HWr.out]
  clear HWr
  rw [hX] at HS
  try rw [hX]
  have HXs : Hid (w.heap.size = X) := Lib.hid hX
  clear hX
  by_cases h5 : 32 * ((v.slot : Int) - 1) < (r.length : Int)
  · have HE := Lib.hid (HB5.out (by unfold ckBad; rw [hd, if_neg (by simp), if_pos h5]))
    have h5d : decide (32 * ((v.slot : Int) - 1) < (r.length : Int)) = true := decide_eq_true h5
    clear HB5 HB6
    have HRF := Lib.hid (HS.out.ret (code := 5) (fc' := fc) (wc' := yc) (Below.refl _ _) HS.out.ref (fun _ _ e => .inr e))
    have HR := Lib.hid HRF.out.1
    have HV := Lib.hid HRF.out.2
    obtain ⟨x0, x1, x2, x3, x4, x5⟩ := HS.out.x.cells
    obtain ⟨r0, r1, r2, r3, r4, r5⟩ := HS.out.r.cells
    obtain ⟨g0, g1, g2, g3, g4, g5⟩ := HS.out.g.cells
    clear HRF
    go_wp2_with fail
    clear x0 x1 x2 x3 x4 x5 r0 r1 r2 r3 r4 r5 g0 g1 g2 g3 g4 g5
    generalize (((((wr.setCell ⟨X + 1 + 1, 0, none⟩ (.slice fA d.firm.length fc)).setCell ⟨X + 1 + 1, 1, none⟩ (.slice aA d.loose.length ac)).setCell ⟨X + 1 + 1, 2, none⟩ (.slice wA d.loose.length yc)).setCell ⟨X + 1 + 1, 3, none⟩ (.int .i64 d.leftR)).setCell ⟨X + 1 + 1, 4, none⟩ (.bool d.off)) = w9 at *
    obtain ⟨r0, r1, r2, r3, r4, r5⟩ := HV.out.cells
    refine bodyPost_ret (v := .tuple #[.agg #[.slice fA d.firm.length fc, .slice aA d.loose.length ac, .slice wA d.loose.length yc, .int .i64 d.leftR, .bool d.off], .int .i64 5]) (by simp [results, Tryz.results14, go_sem, r0, r1, r2, r3, r4]) rfl ?_
    rw [HE.out.1, HE.out.2.1]
    exact HR.out
  · have h5d : decide (32 * ((v.slot : Int) - 1) < (r.length : Int)) = false := decide_eq_false h5
    have H5 := Lib.hid h5
    by_cases h6 : 1099511627776 ≤ (g : Int)
    · have HE := Lib.hid (HB6.out (by unfold ckBad; rw [hd, if_neg (by simp), if_neg H5.out, if_pos (.inl (by rw [HGg.out]; omega))]))
      have h6d : decide (1099511627776 ≤ (g : Int)) = true := decide_eq_true h6
      clear HB5 HB6
      have HRF := Lib.hid (HS.out.ret (code := 6) (fc' := fc) (wc' := yc) (Below.refl _ _) HS.out.ref (fun _ _ e => .inr e))
      have HR := Lib.hid HRF.out.1
      have HV := Lib.hid HRF.out.2
      obtain ⟨x0, x1, x2, x3, x4, x5⟩ := HS.out.x.cells
      obtain ⟨r0, r1, r2, r3, r4, r5⟩ := HS.out.r.cells
      obtain ⟨g0, g1, g2, g3, g4, g5⟩ := HS.out.g.cells
      clear HRF
      go_wp2_with fail
      clear x0 x1 x2 x3 x4 x5 r0 r1 r2 r3 r4 r5 g0 g1 g2 g3 g4 g5
      generalize (((((wr.setCell ⟨X + 1 + 1, 0, none⟩ (.slice fA d.firm.length fc)).setCell ⟨X + 1 + 1, 1, none⟩ (.slice aA d.loose.length ac)).setCell ⟨X + 1 + 1, 2, none⟩ (.slice wA d.loose.length yc)).setCell ⟨X + 1 + 1, 3, none⟩ (.int .i64 d.leftR)).setCell ⟨X + 1 + 1, 4, none⟩ (.bool d.off)) = w9 at *
      obtain ⟨r0, r1, r2, r3, r4, r5⟩ := HV.out.cells
      refine bodyPost_ret (v := .tuple #[.agg #[.slice fA d.firm.length fc, .slice aA d.loose.length ac, .slice wA d.loose.length yc, .int .i64 d.leftR, .bool d.off], .int .i64 6]) (by simp [results, Tryz.results14, go_sem, r0, r1, r2, r3, r4]) rfl ?_
      rw [HE.out.1, HE.out.2.1]
      exact HR.out
    · have h6d : decide (1099511627776 ≤ (g : Int)) = false := decide_eq_false h6
      by_cases h7 : 1099511627776 < v.num
      · have HE := Lib.hid (HB6.out (by unfold ckBad; rw [hd, if_neg (by simp), if_neg H5.out, if_pos (.inr h7)]))
        have h7d : decide (1099511627776 < v.num) = true := decide_eq_true h7
        clear HB5 HB6
        have HRF := Lib.hid (HS.out.ret (code := 6) (fc' := fc) (wc' := yc) (Below.refl _ _) HS.out.ref (fun _ _ e => .inr e))
        have HR := Lib.hid HRF.out.1
        have HV := Lib.hid HRF.out.2
        obtain ⟨x0, x1, x2, x3, x4, x5⟩ := HS.out.x.cells
        obtain ⟨r0, r1, r2, r3, r4, r5⟩ := HS.out.r.cells
        obtain ⟨g0, g1, g2, g3, g4, g5⟩ := HS.out.g.cells
        clear HRF
        go_wp2_with fail
        clear x0 x1 x2 x3 x4 x5 r0 r1 r2 r3 r4 r5 g0 g1 g2 g3 g4 g5
        generalize (((((wr.setCell ⟨X + 1 + 1, 0, none⟩ (.slice fA d.firm.length fc)).setCell ⟨X + 1 + 1, 1, none⟩ (.slice aA d.loose.length ac)).setCell ⟨X + 1 + 1, 2, none⟩ (.slice wA d.loose.length yc)).setCell ⟨X + 1 + 1, 3, none⟩ (.int .i64 d.leftR)).setCell ⟨X + 1 + 1, 4, none⟩ (.bool d.off)) = w9 at *
        obtain ⟨r0, r1, r2, r3, r4, r5⟩ := HV.out.cells
        refine bodyPost_ret (v := .tuple #[.agg #[.slice fA d.firm.length fc, .slice aA d.loose.length ac, .slice wA d.loose.length yc, .int .i64 d.leftR, .bool d.off], .int .i64 6]) (by simp [results, Tryz.results14, go_sem, r0, r1, r2, r3, r4]) rfl ?_
        rw [HE.out.1, HE.out.2.1]
        exact HR.out
      · have h7d : decide (1099511627776 < v.num) = false := decide_eq_false h7
        have HE : Hid (ckBad v r = 0) := Lib.hid (by unfold ckBad; rw [hd, if_neg (by simp), if_neg H5.out, if_neg (by rw [HGg.out]; omega)])
        clear HB5 HB6
        have hsc : secs r.length ≤ v.slot - 1 := by unfold secs; omega
        have hsc2 : secs r.length ≤ 3125 := secs_le (by omega)
        obtain ⟨k, hk⟩ : ∃ k, (g + 1) % 2 = k := ⟨_, rfl⟩
        have hk1 : k ≤ 1 := by omega
        have hw1 : IntKind.i64.wrap ((g : Int) + 1) = (g : Int) + 1 := by rw [IntKind.wrap_i64]; omega
        have hw2 : ((g : Int) + 1).tmod 2 = (k : Int) := by rw [Int.tmod_eq_emod_of_nonneg (by omega)]; omega
        have hkb : k * v.slot ≤ v.slot := by
          calc k * v.slot ≤ 1 * v.slot := Nat.mul_le_mul_right _ hk1
            _ = v.slot := Nat.one_mul _
        obtain ⟨P, hP⟩ : ∃ P : Nat, k * v.slot = P := ⟨_, rfl⟩
        have hPz : (k : Int) * (v.slot : Int) = (P : Int) := by rw [← hP]; simp
        have hPw : IntKind.i64.wrap ((k : Int) * (v.slot : Int)) = (P : Int) := by rw [hPz, IntKind.wrap_i64]; omega
        have hPb : P < N := by omega
        clear hPz
        obtain ⟨Lt, hLt⟩ : ∃ Lt, (slotsL v.slot k).take (secs r.length) = Lt := ⟨_, rfl⟩
        have hltl : Lt.length = secs r.length := by rw [← hLt, ← hk]; exact slots_few hsc
        have hlti : ∀ x ∈ Lt, x < N := by rw [← hLt]; exact slots_in hk1 (by omega) (by omega)
        obtain ⟨PH, hPH⟩ : ∃ PH, padB (slotHead ((g + 1 : Nat) : Int) r.length v.next v.num) = PH := ⟨_, rfl⟩
        have hps : PH.length = 32 := by rw [← hPH]; exact padB_length (slotHead_short2 _ _ _ _)
        obtain ⟨D2, hD2⟩ : ∃ D2, d.storeD (partsAt r Lt) (P, PH) = D2 := ⟨_, rfl⟩
        obtain ⟨C2, hC2⟩ : ∃ C2 : Int, (if d.storeE (partsAt r Lt) (P, PH) = true then 0 else 7) = C2 := ⟨_, rfl⟩
        have HEq : Hid (ckD v d r = D2 ∧ ckE v d r = C2) := Lib.hid (ck_is HE.out (PH := PH) (by rw [HGn.out]; exact hPH) (by rw [HGn.out, hk, hLt, hP]; exact hD2) (by rw [HGn.out, hk, hLt, hP]; exact hC2) hsc)
        have HC : Hid (∀ p : LatW wr, Calls Tryz.prog 39 #[.int .i64 r.length] p.wd fun e w' => e = .returned (.int .i64 (secs r.length : Nat)) ∧ p.wd = w') := Lib.hid (fun p => DocCeil_any r.length (by omega) p.wd)
        have HSl : Hid (∀ p : LatW wr, Calls Tryz.prog 47 #[.int .i64 v.slot, .int .i64 k] p.wd fun e w' => ∃ A c, e = .returned (.slice A (v.slot - 1) c) ∧ Lies w' w'.heap.size A ((slotsL v.slot k).map natV) ∧ v.slot - 1 ≤ c ∧ Below p.wd.heap.size p.wd w') := Lib.hid (fun p => DocSlots_room v.slot k (by omega) hk1 (by omega) p.wd)
        have HSh : Hid (∀ p : LatW wr, Calls Tryz.prog 48 #[.int .i64 ((g : Int) + 1), .int .i64 r.length, .int .i64 v.next, .int .i64 v.num] p.wd fun e w' => e = .returned (.string (str PH)) ∧ Below p.wd.heap.size p.wd w') := Lib.hid (fun p => by
          have := DocSlotHead_any ((g : Int) + 1) r.length v.next v.num p.wd (by omega) (by omega) (by omega) (by omega)
          rw [show ((g : Int) + 1) = ((g + 1 : Nat) : Int) from by omega, hPH] at this
          rw [show ((g : Int) + 1) = ((g + 1 : Nat) : Int) from by omega]
          exact this)
        have HPu : Hid (∀ (p : LatW wr) (A : Option Addr) (c : Nat), Lies p.wd p.wd.heap.size A (Lt.map natV) → Calls Tryz.prog 46 #[.agg #[.slice fA d.firm.length fc, .slice aA d.loose.length ac, .slice wA d.loose.length yc, .int .i64 d.leftR, .bool d.off], .string (str r), .slice A (secs r.length) c, .int .i64 (P : Int), .string (str PH)] p.wd (RefRet fA aA wA D2 C2 p.wd)) := Lib.hid (fun p A c hA => by
          have := DocPuts_any (fc := fc) (wc := yc) (cap := c) ho (HS.out.later p.bel).ref r Lt hltl hA (by rw [HNN.out]; exact hlti) (head := P) (by rw [HNN.out]; exact hPb) PH (by omega) (by omega) (by omega) (by omega)
          rw [hD2, hC2] at this
          exact this)
        have HLt : Hid (((slotsL v.slot k).map natV).take (secs r.length) = Lt.map natV) := Lib.hid (by rw [← List.map_take, hLt])
        have hi1 : (0 : Int) ≤ (secs r.length : Int) := Int.natCast_nonneg _
        have hi2 : (secs r.length : Int) ≤ ((v.slot - 1 : Nat) : Int) := by omega
        have HIl := Lib.hid hi2
        clear hLt hltl hlti hPH hps hD2 hC2 HE hP hk hPb hkb
        have x0 := fun p : LatW wr => (HS.out.later p.bel).x.cells.1
        have x1 := fun p : LatW wr => (HS.out.later p.bel).x.cells.2.1
        have x2 := fun p : LatW wr => (HS.out.later p.bel).x.cells.2.2.1
        have x3 := fun p : LatW wr => (HS.out.later p.bel).x.cells.2.2.2.1
        have x4 := fun p : LatW wr => (HS.out.later p.bel).x.cells.2.2.2.2.1
        have g0 := fun p : LatW wr => (HS.out.later p.bel).g.cells.1
        have g1 := fun p : LatW wr => (HS.out.later p.bel).g.cells.2.1
        have g2 := fun p : LatW wr => (HS.out.later p.bel).g.cells.2.2.1
        obtain ⟨zd, hzd⟩ := LatW.drawn (⟨wr, Below.refl _ _⟩ : LatW wr)
        have hi3 : secs r.length ≤ v.slot - 1 := hsc
        obtain ⟨q0, q1, q2, q3, q4, q5⟩ := HS.out.x.cells
        obtain ⟨u0, u1, u2, u3, u4, u5⟩ := HS.out.g.cells
        go_upto_region 6 with fail
        clear q0 q1 q2 q3 q4 q5 u0 u1 u2 u3 u4 u5 hgb hg2 hg3 h5 h5d h6 h6d h7 h7d hn0 hn1 H5
        go_region_held3 (fun w' => w'.cell? ⟨X, 0, none⟩ = some (.slice fA d.firm.length fc) ∧ w'.cell? ⟨X, 1, none⟩ = some (.slice aA d.loose.length ac) ∧ w'.cell? ⟨X, 2, none⟩ = some (.slice wA d.loose.length yc) ∧ w'.cell? ⟨X, 3, none⟩ = some (.int .i64 d.leftR) ∧ w'.cell? ⟨X, 4, none⟩ = some (.bool d.off) ∧ w'.cell? ⟨X + 1, 0, none⟩ = some (.int .i64 (g : Int)) ∧ w'.cell? ⟨X + 1, 1, none⟩ = some (.int .i64 v.next) ∧ w'.cell? ⟨X + 1, 2, none⟩ = some (.int .i64 v.num)) (first | with_reducible exact ⟨x0 z6, x1 z6, x2 z6, x3 z6, x4 z6, g0 z6, g1 z6, g2 z6⟩ | with_reducible exact ⟨x0 z7, x1 z7, x2 z7, x3 z7, x4 z7, g0 z7, g1 z7, g2 z7⟩ | with_reducible exact ⟨x0 z5, x1 z5, x2 z5, x3 z5, x4 z5, g0 z5, g1 z5, g2 z5⟩ | with_reducible exact ⟨x0 zd, x1 zd, x2 zd, x3 zd, x4 zd, g0 zd, g1 zd, g2 zd⟩ | (rw [hzd]; with_reducible exact ⟨x0 zd, x1 zd, x2 zd, x3 zd, x4 zd, g0 zd, g1 zd, g2 zd⟩) | exact (HS.out.later z6.bel).seeC _ _ _ _ _ rfl) (first | (go_at_call 47; (try rw [hzd]); refine (HSl.out _).mono ?_; rintro e w9 ⟨Aa, ca, rfl, hla, hca, hb9⟩; have hq1 : (secs r.length : Int) ≤ (ca : Int) := (by have := HIl.out; omega); have hq2 : secs r.length ≤ ca := (by omega); have H5 := Lib.hid hla; obtain ⟨z5, hz5⟩ := LatW.later _ hb9; subst hz5; clear hb9 hla hca) | (go_at_call 39; refine (HC.out _).mono ?_; rintro e w9 ⟨rfl, rfl⟩) | (go_at_call 48; refine (HSh.out z5).mono ?_; rintro e w9 ⟨rfl, hb9⟩; have H6 := Lib.hid (H5.out.next hb9); obtain ⟨z7, hz7⟩ := LatW.later z5 hb9; subst hz7; clear hb9) | (go_at_call 46; refine (HPu.out z7 _ _ (by rw [← HLt.out]; exact H6.out.upto _)).mono ?_; rintro e w9 ⟨fA', fc', aA', ac', wA', wc', rfl, hr9, hb9, hf9⟩; have HRt := Lib.hid ((HS.out.later z7.bel).ret (code := C2) (fc' := fc') (wc' := wc') hb9 hr9 hf9); obtain ⟨z6, hz6⟩ := LatW.later z7 hb9; subst hz6; clear hb9 hr9 hf9; obtain ⟨t0, t1, t2, t3, t4, t5⟩ := (HS.out.later z6.bel).r.cells))
        all_goals
          have HR := Lib.hid HRt.out.1
          have HV := Lib.hid HRt.out.2
          clear HRt x0 x1 x2 x3 x4 g0 g1 g2 t0 t1 t2 t3 t4 t5
          go_wp2_with fail
          generalize (((((z6.wd.setCell ⟨X + 1 + 1, 0, none⟩ (.slice fA' D2.firm.length fc')).setCell ⟨X + 1 + 1, 1, none⟩ (.slice aA' D2.loose.length ac')).setCell ⟨X + 1 + 1, 2, none⟩ (.slice wA' D2.loose.length wc')).setCell ⟨X + 1 + 1, 3, none⟩ (.int .i64 D2.leftR)).setCell ⟨X + 1 + 1, 4, none⟩ (.bool D2.off)) = w8 at *
          obtain ⟨r0, r1, r2, r3, r4, r5⟩ := HV.out.cells
          refine bodyPost_ret (v := .tuple #[.agg #[.slice fA' D2.firm.length fc', .slice aA' D2.loose.length ac', .slice wA' D2.loose.length wc', .int .i64 D2.leftR, .bool D2.off], .int .i64 C2]) (by simp [results, Tryz.results14, go_sem, r0, r1, r2, r3, r4]) rfl ?_
          rw [HEq.out.1, HEq.out.2]
          exact HR.out
end Go.Proofs.YtlelfakememckaaGreatDoor
