/- Contracts of Crash and Flush of counterfoilref05, over all disks. Contract of Flush of counterfoilref05, over all disks. -/
import Derived.Test.YtlelfakememckaaGreatDoorRefW
namespace Go.Proofs.YtlelfakememckaaGreatDoor
open Go.RowKit

theorem own_setAt {w : World} {base : Nat} {e : TypeId} {g n cap : Nat} {xs : List Value} (h : w.ownsRow base e 1 (.slice (some ⟨g, 0, none⟩) n cap) n xs) {i : Nat} (_hi : i < n) (u : Value) : (w.setCell ⟨g, i, none⟩ u).ownsRow base e 1 (.slice (some ⟨g, 0, none⟩) n cap) n (xs.set i u) := by
  obtain ⟨h1, h2⟩ := h
  refine ⟨by rw [List.length_set]; exact h1, ?_⟩
  rcases h2 with ⟨h0, _⟩ | ⟨g', cap', cur, h0, hb, hg, hn, hm, hs, ht⟩
  · cases h0
  · simp only [Value.slice.injEq, Option.some.injEq, Addr.mk.injEq, and_true, true_and] at h0
    obtain ⟨rfl, rfl⟩ := h0
    refine .inr ⟨g, cap, cur.setIfInBounds i u, rfl, hb, row_set hg i u, hn, hm, by simpa using hs, ?_⟩
    rw [Array.toList_setIfInBounds, List.take_set, ht]

variable {w wr : World} {n fc : Nat} {fs : List Value} {aA : Option Addr} {m ac : Nat} {ats : List Value} {wA : Option Addr} {k wc : Nat} {ws : List Value} {L : Int} {g : Bool}

/-- A store to a firm sector. -/
theorem St3.firmSet {b : Nat} (h : St3 w wr (some ⟨b, 0, none⟩) n fc fs aA m ac ats wA k wc ws L g) {i : Nat} (hi : i < n) (u : Value) : St3 w (wr.setCell ⟨b, i, none⟩ u) (some ⟨b, 0, none⟩) n fc (fs.set i u) aA m ac ats wA k wc ws L g := by
  have hb := own_lt h.of b rfl
  refine ⟨h.d.far (by simp; omega) _, h.r.far (by simp; omega) _, own_setAt h.of hi u, own_set h.oa (h.fa b rfl) u, own_set h.ow (h.fw b rfl) u, h.fa, h.fw, h.aw, h.bel.setCell (by simp; omega) _, by have := h.size; simp; omega⟩

theorem map_set_secV (F : List (List UInt8)) (i : Nat) (x : List UInt8) : (F.map secV).set i (.string (str x)) = (F.set i x).map secV := by
  rw [List.map_set]; rfl

/-- The bools of what is kept. -/
def boolV (b : Bool) : Value := .bool b

/-- What Crash leaves. -/
def RefCrashed (F : List (List UInt8)) (w : World) (e : Ending) (w' : World) : Prop :=
  ∃ b fc, e = .returned (.agg #[.slice (some ⟨b, 0, none⟩) F.length fc, .slice none 0 0, .slice none 0 0, .int .i64 (-1), .bool false]) ∧ w.heap.size ≤ b ∧ RefAt w' w'.heap.size F [] (some ⟨b, 0, none⟩) none 0 none 0 ∧ Below w.heap.size w w'

theorem st3_end {F : List (List UInt8)} {b fc : Nat} {aA wA : Option Addr} {m ac k wc : Nat} {ats ws : List Value} {L : Int} {g : Bool} {w wr : World} (h : St3 w wr (some ⟨b, 0, none⟩) F.length fc (F.map secV) aA m ac ats wA k wc ws L g) {w' : World} (u0 u1 u2 u3 u4 : Value)
    (hw : w' = ((((((((wr.setCell ⟨w.heap.size, 1, none⟩ (.slice none 0 0)).setCell ⟨w.heap.size, 2, none⟩ (.slice none 0 0)).setCell ⟨w.heap.size, 3, none⟩ (.int .i64 (-1))).setCell ⟨w.heap.size, 4, none⟩ (.bool false)).setCell ⟨w.heap.size + 1, 0, none⟩ u0).setCell ⟨w.heap.size + 1, 1, none⟩ u1).setCell ⟨w.heap.size + 1, 2, none⟩ u2).setCell ⟨w.heap.size + 1, 3, none⟩ u3).setCell ⟨w.heap.size + 1, 4, none⟩ u4) :
    RefAt w' w'.heap.size F [] (some ⟨b, 0, none⟩) none 0 none 0 ∧ Below w.heap.size w w' := by
  subst hw
  have hq : w.heap.size + 1 < w.heap.size + 2 := by omega
  have hq0 : w.heap.size < w.heap.size + 2 := by omega
  have h1 := own_low (own_low (own_low (own_low (own_low (own_low (own_low (own_low (own_low h.of 1 (.slice none 0 0) hq0) 2 (.slice none 0 0) hq0) 3 (.int .i64 (-1)) hq0) 4 (.bool false) hq0) 0 u0 hq) 1 u1 hq) 2 u2 hq) 3 u3 hq) 4 u4 hq
  exact ⟨⟨own_lies_ h1, .inl rfl, .inl rfl, fun _ => ⟨rfl, rfl, rfl, rfl⟩⟩, ((((((((h.bel.setCell (by simp) _).setCell (by simp) _).setCell (by simp) _).setCell (by simp) _).setCell (by simp) _).setCell (by simp) _).setCell (by simp) _).setCell (by simp) _).setCell (by simp) _⟩

set_option maxHeartbeats 4000000 in
set_option maxRecDepth 100000 in
theorem RefCrash_any {w : World} {d : DSt} (ho : d.Ok) {fA aA wA : Option Addr} {fc ac wc : Nat} (h : RefAt w w.heap.size d.firm d.loose fA aA ac wA wc) (hl : d.loose.length ≤ 1000001) {A' : Option Addr} {bs : List Bool} {len cap' : Nat} (hk : Lies w w.heap.size A' (bs.map boolV)) (hbl : bs.length = len) (hlen : len ≤ 9223372036854775807) (L : Int) (g : Bool) :
    Calls Tryz.prog 18 #[.agg #[.slice fA d.firm.length fc, .slice aA d.loose.length ac, .slice wA d.loose.length wc, .int .i64 L, .bool g], .slice A' len cap'] w (RefCrashed (d.crashF bs) w) := by
  obtain ⟨hpos, hle⟩ := ho.firm_pos
  have HAt : Hid (∀ p ∈ d.loose, p.1 < d.firm.length) := Lib.hid (fun p hp => by rw [ho.len]; exact (ho.at_ p hp).1)
  have HK := Lib.hid hk
  have HBl := Lib.hid hbl
  have HCF : Hid (d.crashF bs = applyAll d.firm (keepOf bs (d.loose.take d.loose.length))) := Lib.hid (by rw [List.take_length]; rfl)
  have HAl : Hid (∀ l, (applyAll d.firm l).length = d.firm.length) := Lib.hid (fun l => applyAll_length l _)
  obtain ⟨f1, f2, f3⟩ := five_first w (.slice fA d.firm.length fc) (.slice aA d.loose.length ac) (.slice wA d.loose.length wc) (.int .i64 L) (.bool g)
  have HF1 := Lib.hid f1
  have HF2 := Lib.hid f2
  have HF3 := Lib.hid f3
  have HR0 := Lib.hid (h.next f3)
  have HKT := Lib.hid (fun q hq => keepOf_take bs d.loose q hq)
  clear f1 f2 f3 h hk hbl ho
  generalize d.crashF bs = FF at *
  generalize d.firm = F at *
  generalize d.loose = l at *
  go_enter Tryz.func18, Tryz.ntmps18
  go_wp2_with fail
  refine (RefCopy_any HR0.out hpos hle (by omega) L g).mono ?_
  rintro e w1 ⟨fA1, fc1, aA1, ac1, wA1, wc1, rfl, hown1, hb1⟩
  obtain ⟨b, cap, hfA, _⟩ := hown1.firm.form hpos
  simp only [Value.slice.injEq, true_and] at hfA
  obtain ⟨rfl, rfl⟩ := hfA
  have HS := Lib.hid (st3_copy HF1.out HF2.out HF3.out (by simp) hown1 hb1 L g)
  have H51 := Lib.hid (HF1.out.below hb1 (heap_lt HF1.out))
  clear HF1 HF2 HF3 hown1 hb1
  obtain ⟨c0, c1, c2, c3, c4, hf⟩ := H51.out.cells
  obtain ⟨N, hN⟩ : ∃ N, F.length = N := ⟨_, rfl⟩
  obtain ⟨M, hM⟩ : ∃ M, l.length = M := ⟨_, rfl⟩
  have HN := Lib.hid hN
  have HM := Lib.hid hM
  rw [hN] at hpos hle HS HAl HAt c0 ⊢
  rw [hM] at hl HS HCF c1 c2 ⊢
  clear hN hM
  go_wp2_with fail
  go_loopw [5] (fun i wr => ∃ q : Nat, q ≤ M ∧ i = .int .i64 q ∧ Hid (St3 w wr (some ⟨b, 0, none⟩) N fc1 ((applyAll F (keepOf bs (l.take q))).map secV) aA1 M ac1 (l.map atV) wA1 M wc1 (l.map whatV) L g)) (fun i _ => M - (intOf i).toNat)
  case atStart => exact ⟨0, by omega, rfl, HS⟩
  case round =>
    clear HS H51 c0 c1 c2 c3 c4 hf HR0
    obtain ⟨q, hq, rfl, HS⟩ := hrel
    obtain ⟨c0, c1, c2, c3, c4, hf⟩ := HS.out.d.cells
    by_cases hlt : q < M
    · have hql : q < l.length := by rw [HM.out]; exact hlt
      have hstep := HKT.out q hql
      obtain ⟨p, hp⟩ : ∃ p, l[q] = p := ⟨_, rfl⟩
      have hp1 : p.1 < N := by rw [← hp]; exact HAt.out _ (List.getElem_mem hql)
      rw [hp] at hstep
      have hkc : q < len → ∃ bk ok, A' = some ⟨bk, ok, none⟩ ∧ wr.cell? ⟨bk, ok + q, none⟩ = some (.bool (bs.getD q false)) := fun hql2 => by
        have hqb : q < bs.length := by rw [HBl.out]; exact hql2
        obtain ⟨bk, ok, h1, h2, h3⟩ := (HK.out.below HS.out.bel).at_ (fun e => by simp at e; subst e; simp at hqb)
        refine ⟨bk, ok, h1, ?_⟩
        rw [h3 q (by simpa using hqb), List.getElem_map, List.getD_eq_getElem?_getD, List.getElem?_eq_getElem hqb]
        rfl
      by_cases hyes : bs.getD q false = true
      · have hqb : q < len := by
          rw [← HBl.out]
          rcases Nat.lt_or_ge q bs.length with h1 | h1
          · exact h1
          · rw [List.getD_eq_getElem?_getD, List.getElem?_eq_none h1] at hyes; cases hyes
        obtain ⟨bk, ok, hA', hkk⟩ := hkc hqb
        subst hA'
        rw [hyes] at hkk hstep
        have HStep : Hid (applyAll F (keepOf bs (l.take (q + 1))) = (applyAll F (keepOf bs (l.take q))).set p.1 p.2) := Lib.hid (by rw [hstep, if_pos rfl, applyAll_snoc])
        obtain ⟨b1, o1, hA1, _, hc1⟩ := (own_lies_ HS.out.oa).at_ (fun e => by simp at e; subst e; simp at hql)
        obtain ⟨b2, o2, hA2, _, hc2⟩ := (own_lies_ HS.out.ow).at_ (fun e => by simp at e; subst e; simp at hql)
        have d1 := hc1 q (by simpa using hql)
        have d2 := hc2 q (by simpa using hql)
        rw [List.getElem_map, hp] at d1 d2
        change _ = some (Value.int .i64 (p.1 : Int)) at d1
        change _ = some (Value.string (str p.2)) at d2
        subst hA1
        subst hA2
        have d3 := HS.out.of.cellAt p.1 (by omega)
        rw [List.getElem?_eq_getElem (by rw [List.length_map, HAl.out]; exact hp1)] at d3
        have d4 := HS.out.of.frozenAt p.1
        obtain ⟨z, hz⟩ : ∃ z, ((applyAll F (keepOf bs (l.take q))).map secV)[p.1]'(by rw [List.length_map, HAl.out]; exact hp1) = z := ⟨_, rfl⟩
        rw [hz] at d3
        have HS9 : Hid (St3 w (wr.drew.setCell ⟨b, p.1, none⟩ (.string (str p.2))) (some ⟨b, 0, none⟩) N fc1 ((applyAll F (keepOf bs (l.take (q + 1)))).map secV) (some ⟨b1, o1, none⟩) M ac1 (l.map atV) (some ⟨b2, o2, none⟩) M wc1 (l.map whatV) L g) := Lib.hid (by
          rw [HStep.out, ← map_set_secV]
          exact HS.out.drew.firmSet hp1 _)
        obtain ⟨p1, p2⟩ := p
        simp only at d1 d2 d3 d4 hp1 HS9
        clear hkc hstep HStep hyes hp hc1 hc2 hz hql HS
        go_wp2_with fail
        go_still_tail 13, (by kernel_rfl)
        change wpList _ _ _ _ _ wr.drew
        go_wp2
        go_roundw
        case rel => exact ⟨q + 1, by omega, by go_num, HS9⟩
        case measure => simp [intOf]; omega
      · have hno : bs.getD q false = false := by simpa using hyes
        have HS9 : Hid (St3 w wr (some ⟨b, 0, none⟩) N fc1 ((applyAll F (keepOf bs (l.take (q + 1)))).map secV) aA1 M ac1 (l.map atV) wA1 M wc1 (l.map whatV) L g) := Lib.hid (by
          rw [hstep, hno, if_neg (by simp), List.append_nil]
          exact HS.out)
        clear hstep hyes hp hp1 hql HS
        by_cases hqb : q < len
        · obtain ⟨bk, ok, hA', hkk⟩ := hkc hqb
          subst hA'
          rw [hno] at hkk
          clear hkc hno
          go_wp2
          go_roundw
          case rel => exact ⟨q + 1, by omega, by go_num, HS9⟩
          case measure => simp [intOf]; omega
        · have hqb' : decide (q < len) = false := by simpa using hqb
          clear hkc hno
          go_wp2
          go_roundw
          case rel => exact ⟨q + 1, by omega, by go_num, HS9⟩
          case measure => simp [intOf]; omega
    · have HQ : Hid (q = M) := Lib.hid (by omega)
      rw [HQ.out] at HS ⊢
      rw [← HCF.out] at HS
      have hlt2 : decide ((M : Int) < M) = false := by simp
      obtain ⟨r0, r1, r2, r3, r4, rf⟩ := HS.out.r.cells
      clear HQ hlt hq
      go_wp2_with fail
      exact bodyPost_ret (v := .agg #[.slice (some ⟨b, 0, none⟩) N fc1, .slice none 0 0, .slice none 0 0, .int .i64 (-1), .bool false]) (by simp [results, Tryz.results18, go_sem, r0, r1, r2, r3, r4]) rfl (by
        have hFF : FF.length = N := by rw [HCF.out, HAl.out]
        have hst := HS.out
        rw [← hFF] at hst
        obtain ⟨h1, h2⟩ := st3_end hst _ _ _ _ _ rfl
        exact ⟨b, fc1, by rw [hFF], by have := (own_lt hst.of b rfl).1; omega, h1, h2⟩)
end Go.Proofs.YtlelfakememckaaGreatDoor

namespace Go.Proofs.YtlelfakememckaaGreatDoor
open Go.RowKit

/-! ### Flush -/

theorem Lies.setFar {w : World} {B : Nat} {b off : Nat} {cs : List Value} (h : Lies w B (some ⟨b, off, none⟩) cs) {p : Addr} (hp : b ≠ p.block) (u : Value) : Lies (w.setCell p u) B (some ⟨b, off, none⟩) cs := by
  rcases h with h | ⟨b', off', hA, hlt, hc⟩
  · exact .inl h
  · simp only [Option.some.injEq, Addr.mk.injEq, and_true] at hA
    obtain ⟨rfl, rfl⟩ := hA
    exact .inr ⟨b, off, rfl, hlt, fun i hi => (World.cell?_of_block (a := ⟨b, off + i, none⟩) (Below.heap_setCell _ _ _ _ hp)).trans (hc i hi)⟩

theorem Tryz.infoBool5 : (Tryz.prog.info? 4).map (fun i => (i.zero, i.size, i.bytes)) = some (some (.bool false), 1, 1) := by kernel_rfl

theorem St3.refAt {w wr : World} {d : DSt} {fA aA wA : Option Addr} {fc ac wc : Nat} {L : Int} {g : Bool} (h : St3 w wr fA d.firm.length fc (d.firm.map secV) aA d.loose.length ac (d.loose.map atV) wA d.loose.length wc (d.loose.map whatV) L g) (hn : d.loose = [] → aA = none ∧ ac = 0 ∧ wA = none ∧ wc = 0) : RefAt wr wr.heap.size d.firm d.loose fA aA ac wA wc :=
  ⟨own_lies_ h.of, own_lies_ h.oa, own_lies_ h.ow, hn⟩

def trueL (k : Nat) : List Value := (List.replicate k true).map boolV
theorem trues_snoc (k : Nat) : trueL k ++ [.bool true] = trueL (k + 1) := by
  unfold trueL; rw [List.replicate_succ', List.map_append]; rfl

set_option maxHeartbeats 4000000 in
set_option maxRecDepth 100000 in
theorem RefFlush_any {w : World} {d : DSt} (ho : d.Ok) {fA aA wA : Option Addr} {fc ac wc : Nat} (h : RefAt w w.heap.size d.firm d.loose fA aA ac wA wc) (hl : d.loose.length ≤ 1000001) :
    Calls Tryz.prog 77 #[.agg #[.slice fA d.firm.length fc, .slice aA d.loose.length ac, .slice wA d.loose.length wc, .int .i64 d.leftR, .bool d.off]] w (RefRet fA aA wA d.flushD d.flushE w) := by
  obtain ⟨hpos, hle⟩ := ho.firm_pos
  have hne : ((d.firm.length : Int) == 0) = false := by rw [beq_eq_false_iff_ne]; omega
  have HR := Lib.hid h
  by_cases hoff : d.off = true
  · have e1 : d.flushE = 7 := by unfold DSt.flushE; rw [if_pos hoff]
    have e2 : d.flushD = d := by unfold DSt.flushD; rw [if_pos hoff]
    rw [e1, e2]
    have HE : Hid (∀ w', Below w.heap.size w w' → RefRet fA aA wA d 7 w (.returned (.tuple #[.agg #[.slice fA d.firm.length fc, .slice aA d.loose.length ac, .slice wA d.loose.length wc, .int .i64 d.leftR, .bool true], .int .i64 7])) w') := Lib.hid (fun w' hb => by have := refRet_same (fc := fc) h hb 7; rwa [hoff] at this)
    rw [hoff]
    clear e1 e2 h hoff
    go_enter Tryz.func77, Tryz.ntmps77
    go_wp2
    exact bodyPost_ret (v := .tuple #[.agg #[.slice fA d.firm.length fc, .slice aA d.loose.length ac, .slice wA d.loose.length wc, .int .i64 d.leftR, .bool true], .int .i64 7]) (by simp [results, Tryz.results77, go_sem]) rfl (HE.out _ (((Below.refl _ _).alloc (Nat.le_refl _) _).alloc (by simp) _))
  have hoff' : d.off = false := by simpa using hoff
  have hleft := ho.leftR
  have HL0 : Hid (d.leftR = 0 → d.flushE = 7 ∧ d.flushD = { d with off := true }) := Lib.hid (fun h0 => by
    obtain ⟨h1, h2⟩ := spent_no h0
    unfold DSt.flushE DSt.flushD
    rw [if_neg hoff, if_neg (by rw [h2]; simp), if_neg hoff, if_neg (by rw [h2]; simp)]
    exact ⟨rfl, h1⟩)
  have HL1 : Hid (d.leftR ≠ 0 → d.flushE = 0 ∧ d.flushD.firm = applyAll d.firm d.loose ∧ d.flushD.loose = [] ∧ d.flushD.off = false ∧ d.flushD.leftR = if 0 < d.leftR then d.leftR - 1 else d.leftR) := Lib.hid (fun h0 => by
    have h2 := lasts_iff.2 h0
    obtain ⟨s1, s2⟩ := spent_yes h0 ho
    unfold DSt.flushE DSt.flushD
    rw [if_neg hoff, if_pos h2, if_neg hoff, if_pos h2]
    refine ⟨rfl, ?_, rfl, s2.trans hoff', s1⟩
    show applyAll d.spent.firm d.spent.loose = _
    rw [d.spent_firm, d.spent_loose])
  have HO := Lib.hid ho
  rw [hoff']
  obtain ⟨L, hL⟩ : ∃ L, d.leftR = L := ⟨_, rfl⟩
  have HLd := Lib.hid hL
  rw [hL] at hleft HL0 HL1 ⊢
  clear hoff hoff' hL ho h
  obtain ⟨f1, f2, f3⟩ := five_first w (.slice fA d.firm.length fc) (.slice aA d.loose.length ac) (.slice wA d.loose.length wc) (.int .i64 L) (.bool false)
  have HF1 := Lib.hid f1
  have HF2 := Lib.hid f2
  have HF3 := Lib.hid f3
  have HR0 := Lib.hid (HR.out.next f3)
  clear f1 f2 f3
  go_enter Tryz.func77, Tryz.ntmps77
  go_wp2_with fail
  refine (RefCopy_any HR0.out hpos hle (by omega) L false).mono ?_
  rintro e w1 ⟨fA1, fc1, aA1, ac1, wA1, wc1, rfl, hown1, hb1⟩
  have HN1 := Lib.hid hown1.none_
  have HS := Lib.hid (st3_copy HF1.out HF2.out HF3.out (by simp) hown1 hb1 L false)
  have H51 := Lib.hid (HF1.out.below hb1 (heap_lt HF1.out))
  clear HF1 HF2 HF3 hown1 hb1
  obtain ⟨c0, c1, c2, c3, c4, hf⟩ := H51.out.cells
  go_wp2_with fail
  by_cases h0 : L = 0
  · subst h0
    refine (RefSpend_any d.firm.length d.loose.length fA1 fc1 aA1 ac1 wA1 wc1 0 false hleft.1 hleft.2 _).mono ?_
    rintro e w2 ⟨rfl, hb2⟩
    have HS2 := Lib.hid (HS.out.below hb2)
    clear HS H51 c0 c1 c2 c3 c4 hf hb2 HL1
    obtain ⟨c0, c1, c2, c3, c4, hf⟩ := HS2.out.d.cells
    obtain ⟨r0, r1, r2, r3, r4, rf⟩ := HS2.out.r.cells
    rw [show (if (0 : Int) < 0 then (0 : Int) - 1 else 0) = 0 from rfl, show (if (0 : Int) = 0 then true else false) = true from rfl, show decide ((0 : Int) ≠ 0) = false from rfl]
    go_wp2_with fail
    exact bodyPost_ret (v := .tuple #[.agg #[.slice fA1 d.firm.length fc1, .slice aA1 d.loose.length ac1, .slice wA1 d.loose.length wc1, .int .i64 0, .bool true], .int .i64 7]) (by simp [results, Tryz.results77, go_sem, r0, r1, r2, r3, r4]) rfl (by
      obtain ⟨e1, e2⟩ := HL0.out trivial
      rw [e1, e2]
      obtain ⟨h1, h2⟩ := (HS2.out.store5 0 true).last HN1.out _ _ _ _ _ rfl
      exact ⟨fA1, fc1, aA1, ac1, wA1, wc1, by rw [show ({ d with off := true } : DSt).leftR = d.leftR from rfl, HLd.out], h1, h2, HS2.out.fresh _ _ _⟩)
  · refine (RefSpend_any d.firm.length d.loose.length fA1 fc1 aA1 ac1 wA1 wc1 L false hleft.1 hleft.2 _).mono ?_
    rw [if_neg h0, show decide (L ≠ 0) = true from by simpa using h0]
    obtain ⟨e1, e2, e3, e4, e5⟩ := HL1.out h0
    obtain ⟨L', hL'⟩ : ∃ L', (if 0 < L then L - 1 else L) = L' := ⟨_, rfl⟩
    rw [hL'] at e5 ⊢
    have HE : Hid (d.flushE = 0 ∧ d.flushD.firm = applyAll d.firm d.loose ∧ d.flushD.loose = [] ∧ d.flushD.off = false ∧ d.flushD.leftR = L') := Lib.hid ⟨e1, e2, e3, e4, e5⟩
    rintro e w2 ⟨rfl, hb2⟩
    have HS2 := Lib.hid (HS.out.below hb2)
    have HS3 := Lib.hid (HS2.out.store5 L' false)
    clear HS H51 c0 c1 c2 c3 c4 hf hb2 HL1 HL0 e1 e2 e3 e4 e5 hL' h0
    obtain ⟨c0, c1, c2, c3, c4, hf⟩ := HS2.out.d.cells
    obtain ⟨i2, hi2, hx0, hx1, hx2⟩ := info_parts Tryz.infoBool5
    go_wp2_with fail
    clear c0 c1 c2 c3 c4 hf HS2
    generalize ((((w2.setCell ⟨w.heap.size, 0, none⟩ (.slice fA1 d.firm.length fc1)).setCell ⟨w.heap.size, 1, none⟩ (.slice aA1 d.loose.length ac1)).setCell ⟨w.heap.size, 2, none⟩ (.slice wA1 d.loose.length wc1)).setCell ⟨w.heap.size, 3, none⟩ (.int .i64 L')).setCell ⟨w.heap.size, 4, none⟩ (.bool false) = V at *
    go_loopw [5, 6] (fun v i wr => ∃ q : Nat, q ≤ d.loose.length ∧ i = .int .i64 q ∧ Hid (wr.ownsRow V.heap.size 4 1 v q (trueL q) ∧ Below V.heap.size V wr)) (fun _ i _ => d.loose.length - (intOf i).toNat)
    case atStart => exact ⟨0, by omega, rfl, Lib.hid ⟨World.ownsRow_nil _ _ _ _, Below.refl _ _⟩⟩
    case round =>
      obtain ⟨q, hq, rfl, HQ⟩ := hrel
      have HSr := Lib.hid (HS3.out.below HQ.out.2)
      obtain ⟨c0, c1, c2, c3, c4, hf⟩ := HSr.out.d.cells
      have hVs := HQ.out.2.size
      by_cases hlt : q < d.loose.length
      · go_wp2_with (at_builtin; refine wpList_append_own_at _ rfl (.tmp 34) (.tmp 35) 42 rfl V.heap.size 4 i2 (.bool false) 1 1 Tryz.underlying42 hi2 hx0 hx1 hx2 rfl (by decide) _ q (trueL q) rfl (HQ.out.1.alloc _) ⟨wr.heap.size, 0, none⟩ 1 1 [.bool true] rfl rfl ?c1 ?c2 ?c3 ?c4 ?c5 ?_)
        case c1 => exact cell_one_new _ _ _
        case c2 => intro u hu; simp at hu; subst hu; rfl
        case c3 => unfold maxLen; omega
        case c4 => omega
        case c5 => simp; omega
        intro v3 w3 hown3 hg3 _ _
        rw [trues_snoc] at hown3
        have hbel2 : Below V.heap.size V (wr.alloc (.cells #[.bool true] 4)) := HQ.out.2.alloc HQ.out.2.size _
        have HQ3 : Hid (w3.ownsRow V.heap.size 4 1 v3 (q + 1) (trueL (q + 1)) ∧ Below V.heap.size V w3) := Lib.hid ⟨hown3, hbel2.grown hg3 hbel2.size (fun g hg => (HQ.out.1.lt g hg).1)⟩
        clear hg3 hown3 hbel2 HQ HSr c0 c1 c2 c3 c4 hf
        go_wp2
        go_roundw
        case rel => exact ⟨q + 1, by omega, by go_num, HQ3⟩
        case measure => simp [intOf]; omega
      · have HM : Hid (q = d.loose.length) := Lib.hid (by omega)
        obtain ⟨A9, c9, rfl, _, hl9⟩ := own_lies HQ.out.1
        have HL9 := Lib.hid hl9
        have hlt2 : decide ((q : Int) < (d.loose.length : Int)) = false := by rw [decide_eq_false_iff_not]; omega
        have hge : d.loose.length ≤ q := by omega
        clear hl9 hlt HQ
        go_wp2_with fail
        have hcall := RefCrash_any (d := d) (fc := fc1) (cap' := c9) HO.out (HSr.out.refAt HN1.out) hl (bs := List.replicate q true) (len := q) HL9.out (by simp) (by omega) L' false
        rw [show d.crashF (List.replicate q true) = applyAll d.firm d.loose from by unfold DSt.crashF; rw [HM.out, keepOf_all]] at hcall
        refine hcall.mono ?_
        clear hcall
        obtain ⟨F4, hF4⟩ : ∃ F4, applyAll d.firm d.loose = F4 := ⟨_, rfl⟩
        obtain ⟨N4, hN4⟩ : ∃ N4, F4.length = N4 := ⟨_, rfl⟩
        rw [hF4]
        have HF4 := Lib.hid hF4
        have HN4 := Lib.hid hN4
        clear hF4
        rintro e w4 ⟨b4, fc4, rfl, hb4, hr4, hbel4⟩
        have H54 : Hid (Five w4 w.heap.size (.slice fA1 d.firm.length fc1) (.slice aA1 d.loose.length ac1) (.slice wA1 d.loose.length wc1) (.int .i64 L') (.bool false) ∧ Five w4 (w.heap.size + 1) (.slice none 0 0) (.slice none 0 0) (.slice none 0 0) (.int .i64 0) (.bool false)) := Lib.hid ⟨HSr.out.d.below hbel4 (heap_lt HSr.out.d), HSr.out.r.below hbel4 (heap_lt HSr.out.r)⟩
        have HB4 : Hid (Below w.heap.size w w4) := Lib.hid (HSr.out.bel.trans (hbel4.mono HSr.out.bel.size))
        have HW4 : Hid (w.heap.size + 2 ≤ b4) := Lib.hid (Nat.le_trans HSr.out.size hb4)
        have HR4 := Lib.hid hr4
        clear c0 c1 c2 c3 c4 hf hr4 hbel4 HSr hb4 HR HR0 HL9 HS3 HM hlt2 hge hq hVs i2 hi2 hx0 hx1 hx2
        rw [hN4]
        clear hN4
        obtain ⟨c0, c1, c2, c3, c4, hf⟩ := H54.out.1.cells
        generalize (-1 : Int) = m1
        dsimp only
        rename_i hKK
        refine hKK _ _ ?_
        clear hKK
        go_step
        go_simp
        rename_i hKK
        refine hKK _ _ ?_
        clear hKK
        have hw4 := HW4.out
        have hq0 : b4 ≠ w.heap.size := by omega
        have HV : Hid (Five (((((w4.setCell ⟨w.heap.size, 0, none⟩ (.slice (some ⟨b4, 0, none⟩) N4 fc4)).setCell ⟨w.heap.size, 1, none⟩ (.slice none 0 0)).setCell ⟨w.heap.size, 2, none⟩ (.slice none 0 0)).setCell ⟨w.heap.size, 3, none⟩ (.int .i64 m1)).setCell ⟨w.heap.size, 4, none⟩ (.bool false)) w.heap.size (.slice (some ⟨b4, 0, none⟩) N4 fc4) (.slice none 0 0) (.slice none 0 0) (.int .i64 m1) (.bool false) ∧
            Five (((((w4.setCell ⟨w.heap.size, 0, none⟩ (.slice (some ⟨b4, 0, none⟩) N4 fc4)).setCell ⟨w.heap.size, 1, none⟩ (.slice none 0 0)).setCell ⟨w.heap.size, 2, none⟩ (.slice none 0 0)).setCell ⟨w.heap.size, 3, none⟩ (.int .i64 m1)).setCell ⟨w.heap.size, 4, none⟩ (.bool false)) (w.heap.size + 1) (.slice none 0 0) (.slice none 0 0) (.slice none 0 0) (.int .i64 0) (.bool false) ∧
            Lies (((((w4.setCell ⟨w.heap.size, 0, none⟩ (.slice (some ⟨b4, 0, none⟩) N4 fc4)).setCell ⟨w.heap.size, 1, none⟩ (.slice none 0 0)).setCell ⟨w.heap.size, 2, none⟩ (.slice none 0 0)).setCell ⟨w.heap.size, 3, none⟩ (.int .i64 m1)).setCell ⟨w.heap.size, 4, none⟩ (.bool false)) (((((w4.setCell ⟨w.heap.size, 0, none⟩ (.slice (some ⟨b4, 0, none⟩) N4 fc4)).setCell ⟨w.heap.size, 1, none⟩ (.slice none 0 0)).setCell ⟨w.heap.size, 2, none⟩ (.slice none 0 0)).setCell ⟨w.heap.size, 3, none⟩ (.int .i64 m1)).setCell ⟨w.heap.size, 4, none⟩ (.bool false)).heap.size (some ⟨b4, 0, none⟩) (F4.map secV) ∧
            Below w.heap.size w (((((w4.setCell ⟨w.heap.size, 0, none⟩ (.slice (some ⟨b4, 0, none⟩) N4 fc4)).setCell ⟨w.heap.size, 1, none⟩ (.slice none 0 0)).setCell ⟨w.heap.size, 2, none⟩ (.slice none 0 0)).setCell ⟨w.heap.size, 3, none⟩ (.int .i64 m1)).setCell ⟨w.heap.size, 4, none⟩ (.bool false))) := by
          refine Lib.hid ⟨((((H54.out.1.set0 _).set1 _).set2 _).set3 _).set4 _, ((((H54.out.2.far (by simp) _).far (by simp) _).far (by simp) _).far (by simp) _).far (by simp) _, ?_, ((((HB4.out.setCell (by simp) _).setCell (by simp) _).setCell (by simp) _).setCell (by simp) _).setCell (by simp) _⟩
          exact Lies.more (B := w4.heap.size) (((((HR4.out.firm.setFar hq0 _).setFar hq0 _).setFar hq0 _).setFar hq0 _).setFar hq0 _) (by simp)
        clear hw4 hq0 c0 c1 c2 c3 c4 hf H54 HB4 HR4
        generalize ((((w4.setCell ⟨w.heap.size, 0, none⟩ (.slice (some ⟨b4, 0, none⟩) N4 fc4)).setCell ⟨w.heap.size, 1, none⟩ (.slice none 0 0)).setCell ⟨w.heap.size, 2, none⟩ (.slice none 0 0)).setCell ⟨w.heap.size, 3, none⟩ (.int .i64 m1)).setCell ⟨w.heap.size, 4, none⟩ (.bool false) = V5 at *
        obtain ⟨c0, c1, c2, c3, c4, hf⟩ := HV.out.1.cells
        obtain ⟨r0, r1, r2, r3, r4, rf⟩ := HV.out.2.1.cells
        go_wp2_with fail
        exact bodyPost_ret (v := .tuple #[.agg #[.slice (some ⟨b4, 0, none⟩) N4 fc4, .slice none 0 0, .slice none 0 0, .int .i64 L', .bool false], .int .i64 0]) (by simp [results, Tryz.results77, go_sem, r0, r1, r2, r3, r4]) rfl (by
          obtain ⟨e1, e2, e3, e4, e5⟩ := HE.out
          have hw4 := HW4.out
          have hq0 : b4 ≠ w.heap.size := by omega
          have hq1 : b4 ≠ w.heap.size + 1 := by omega
          unfold RefRet
          rw [e1, e2, e3, e4, e5, HF4.out, HN4.out]
          refine ⟨some ⟨b4, 0, none⟩, fc4, none, 0, none, 0, rfl, ⟨?_, .inl rfl, .inl rfl, fun _ => ⟨rfl, rfl, rfl, rfl⟩⟩, ?_, ?_⟩
          · refine Lies.more (B := V5.heap.size) ?_ (by simp)
            exact (((((HV.out.2.2.1.setFar hq0 _).setFar hq1 _).setFar hq1 _).setFar hq1 _).setFar hq1 _).setFar hq1 _
          · exact (((((HV.out.2.2.2.setCell (by simp) _).setCell (by simp) _).setCell (by simp) _).setCell (by simp) _).setCell (by simp) _).setCell (by simp) _
          · rintro b off (e | e | e)
            · simp only [Option.some.injEq, Addr.mk.injEq] at e
              exact .inl (by omega)
            · cases e
            · cases e)
end Go.Proofs.YtlelfakememckaaGreatDoor
