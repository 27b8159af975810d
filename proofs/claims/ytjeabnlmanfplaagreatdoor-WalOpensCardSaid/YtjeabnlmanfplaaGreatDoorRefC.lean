/- Contracts of Crash and Flush of counterfoilref05, over all disks. -/
import Derived.Test.YtjeabnlmanfplaaGreatDoorRefW
namespace Go.Proofs.YtjeabnlmanfplaaGreatDoor
open Go.RowKit

theorem own_setAt {w : World} {base : Nat} {e : TypeId} {g n cap : Nat} {xs : List Value} (h : w.ownsRow base e 1 (.slice (some ⟨g, 0, none⟩) n cap) n xs) {i : Nat} (_hi : i < n) (u : Value) : (w.setCell ⟨g, i, none⟩ u).ownsRow base e 1 (.slice (some ⟨g, 0, none⟩) n cap) n (xs.set i u) := by
  obtain ⟨h1, h2⟩ := h
  refine ⟨by rw [List.length_set]; exact h1, ?_⟩
  rcases h2 with ⟨h0, _⟩ | ⟨g', cap', cur, h0, hb, hg, hn, hm, hs, ht⟩
  · cases h0
  · simp only [Value.slice.injEq, Option.some.injEq, Addr.mk.injEq, and_true, true_and] at h0
    obtain ⟨rfl, rfl⟩ := h0
    refine .inr ⟨g, cap, cur.setIfInBounds i u, rfl, hb, row_set hg i u, hn, hm, by simpa using hs, ?_⟩
    rw [Array.toList_setIfInBounds, List.take_set, ht]

variable {w wr : World} {n fc : Nat} {fs : List Value} {aA : Option Addr} {m ac : Nat} {ats : List Value} {wA : Option Addr} {k wc : Nat} {ws : List Value} {L : Int} {g : Bool}

/-- A store to a firm sector. -/
theorem St3.firmSet {b : Nat} (h : St3 w wr (some ⟨b, 0, none⟩) n fc fs aA m ac ats wA k wc ws L g) {i : Nat} (hi : i < n) (u : Value) : St3 w (wr.setCell ⟨b, i, none⟩ u) (some ⟨b, 0, none⟩) n fc (fs.set i u) aA m ac ats wA k wc ws L g := by
  have hb := own_lt h.of b rfl
  refine ⟨h.d.far (by simp; omega) _, h.r.far (by simp; omega) _, own_setAt h.of hi u, own_set h.oa (h.fa b rfl) u, own_set h.ow (h.fw b rfl) u, h.fa, h.fw, h.aw, h.bel.setCell (by simp; omega) _, by have := h.size; simp; omega⟩

theorem map_set_secV (F : List (List UInt8)) (i : Nat) (x : List UInt8) : (F.map secV).set i (.string (str x)) = (F.set i x).map secV := by
  rw [List.map_set]; rfl

/-- The bools of what is kept. -/
def boolV (b : Bool) : Value := .bool b

/-- What Crash leaves. -/
def RefCrashed (F : List (List UInt8)) (w : World) (e : Ending) (w' : World) : Prop :=
  ∃ b fc, e = .returned (.agg #[.slice (some ⟨b, 0, none⟩) F.length fc, .slice none 0 0, .slice none 0 0, .int .i64 (-1), .bool false]) ∧ w.heap.size ≤ b ∧ RefAt w' w'.heap.size F [] (some ⟨b, 0, none⟩) none 0 none 0 ∧ Below w.heap.size w w'

theorem st3_end {F : List (List UInt8)} {b fc : Nat} {aA wA : Option Addr} {m ac k wc : Nat} {ats ws : List Value} {L : Int} {g : Bool} {w wr : World} (h : St3 w wr (some ⟨b, 0, none⟩) F.length fc (F.map secV) aA m ac ats wA k wc ws L g) {w' : World} (u0 u1 u2 u3 u4 : Value)
    (hw : w' = ((((((((wr.setCell ⟨w.heap.size, 1, none⟩ (.slice none 0 0)).setCell ⟨w.heap.size, 2, none⟩ (.slice none 0 0)).setCell ⟨w.heap.size, 3, none⟩ (.int .i64 (-1))).setCell ⟨w.heap.size, 4, none⟩ (.bool false)).setCell ⟨w.heap.size + 1, 0, none⟩ u0).setCell ⟨w.heap.size + 1, 1, none⟩ u1).setCell ⟨w.heap.size + 1, 2, none⟩ u2).setCell ⟨w.heap.size + 1, 3, none⟩ u3).setCell ⟨w.heap.size + 1, 4, none⟩ u4) :
    RefAt w' w'.heap.size F [] (some ⟨b, 0, none⟩) none 0 none 0 ∧ Below w.heap.size w w' := by
  subst hw
  have hq : w.heap.size + 1 < w.heap.size + 2 := by omega
  have hq0 : w.heap.size < w.heap.size + 2 := by omega
  have h1 := own_low (own_low (own_low (own_low (own_low (own_low (own_low (own_low (own_low h.of 1 (.slice none 0 0) hq0) 2 (.slice none 0 0) hq0) 3 (.int .i64 (-1)) hq0) 4 (.bool false) hq0) 0 u0 hq) 1 u1 hq) 2 u2 hq) 3 u3 hq) 4 u4 hq
  exact ⟨⟨own_lies_ h1, .inl rfl, .inl rfl, fun _ => ⟨rfl, rfl, rfl, rfl⟩⟩, ((((((((h.bel.setCell (by simp) _).setCell (by simp) _).setCell (by simp) _).setCell (by simp) _).setCell (by simp) _).setCell (by simp) _).setCell (by simp) _).setCell (by simp) _).setCell (by simp) _⟩

set_option maxHeartbeats 4000000 in
set_option maxRecDepth 100000 in
theorem RefCrash_any {w : World} {d : DSt} (ho : d.Ok) {fA aA wA : Option Addr} {fc ac wc : Nat} (h : RefAt w w.heap.size d.firm d.loose fA aA ac wA wc) (hl : d.loose.length ≤ 1000001) {A' : Option Addr} {bs : List Bool} {len cap' : Nat} (hk : Lies w w.heap.size A' (bs.map boolV)) (hbl : bs.length = len) (hlen : len ≤ 9223372036854775807) (L : Int) (g : Bool) :
    Calls Tryz.prog 23 #[.agg #[.slice fA d.firm.length fc, .slice aA d.loose.length ac, .slice wA d.loose.length wc, .int .i64 L, .bool g], .slice A' len cap'] w (RefCrashed (d.crashF bs) w) := by
  obtain ⟨hpos, hle⟩ := ho.firm_pos
  have HAt : Hid (∀ p ∈ d.loose, p.1 < d.firm.length) := Lib.hid (fun p hp => by rw [ho.len]; exact (ho.at_ p hp).1)
  have HK := Lib.hid hk
  have HBl := Lib.hid hbl
  have HCF : Hid (d.crashF bs = applyAll d.firm (keepOf bs (d.loose.take d.loose.length))) := Lib.hid (by rw [List.take_length]; rfl)
  have HAl : Hid (∀ l, (applyAll d.firm l).length = d.firm.length) := Lib.hid (fun l => applyAll_length l _)
  obtain ⟨f1, f2, f3⟩ := five_first w (.slice fA d.firm.length fc) (.slice aA d.loose.length ac) (.slice wA d.loose.length wc) (.int .i64 L) (.bool g)
  have HF1 := Lib.hid f1
  have HF2 := Lib.hid f2
  have HF3 := Lib.hid f3
  have HR0 := Lib.hid (h.next f3)
  have HKT := Lib.hid (fun q hq => keepOf_take bs d.loose q hq)
  clear f1 f2 f3 h hk hbl ho
  generalize d.crashF bs = FF at *
  generalize d.firm = F at *
  generalize d.loose = l at *
  go_enter Tryz.func23, Tryz.ntmps23
  go_wp2_with fail
  refine (RefCopy_any HR0.out hpos hle (by omega) L g).mono ?_
  rintro e w1 ⟨fA1, fc1, aA1, ac1, wA1, wc1, rfl, hown1, hb1⟩
  obtain ⟨b, cap, hfA, _⟩ := hown1.firm.form hpos
  simp only [Value.slice.injEq, true_and] at hfA
  obtain ⟨rfl, rfl⟩ := hfA
  have HS := Lib.hid (st3_copy HF1.out HF2.out HF3.out (by simp) hown1 hb1 L g)
  have H51 := Lib.hid (HF1.out.below hb1 (heap_lt HF1.out))
  clear HF1 HF2 HF3 hown1 hb1
  obtain ⟨c0, c1, c2, c3, c4, hf⟩ := H51.out.cells
  obtain ⟨N, hN⟩ : ∃ N, F.length = N := ⟨_, rfl⟩
  obtain ⟨M, hM⟩ : ∃ M, l.length = M := ⟨_, rfl⟩
  have HN := Lib.hid hN
  have HM := Lib.hid hM
  rw [hN] at hpos hle HS HAl HAt c0 ⊢
  rw [hM] at hl HS HCF c1 c2 ⊢
  clear hN hM
  go_wp2_with fail
  go_loopw [5] (fun i wr => ∃ q : Nat, q ≤ M ∧ i = .int .i64 q ∧ Hid (St3 w wr (some ⟨b, 0, none⟩) N fc1 ((applyAll F (keepOf bs (l.take q))).map secV) aA1 M ac1 (l.map atV) wA1 M wc1 (l.map whatV) L g)) (fun i _ => M - (intOf i).toNat)
  case atStart => exact ⟨0, by omega, rfl, HS⟩
  case round =>
    clear HS H51 c0 c1 c2 c3 c4 hf HR0
    obtain ⟨q, hq, rfl, HS⟩ := hrel
    obtain ⟨c0, c1, c2, c3, c4, hf⟩ := HS.out.d.cells
    by_cases hlt : q < M
    · have hql : q < l.length := by rw [HM.out]; exact hlt
      have hstep := HKT.out q hql
      obtain ⟨p, hp⟩ : ∃ p, l[q] = p := ⟨_, rfl⟩
      have hp1 : p.1 < N := by rw [← hp]; exact HAt.out _ (List.getElem_mem hql)
      rw [hp] at hstep
      have hkc : q < len → ∃ bk ok, A' = some ⟨bk, ok, none⟩ ∧ wr.cell? ⟨bk, ok + q, none⟩ = some (.bool (bs.getD q false)) := fun hql2 => by
        have hqb : q < bs.length := by rw [HBl.out]; exact hql2
        obtain ⟨bk, ok, h1, h2, h3⟩ := (HK.out.below HS.out.bel).at_ (fun e => by simp at e; subst e; simp at hqb)
        refine ⟨bk, ok, h1, ?_⟩
        rw [h3 q (by simpa using hqb), List.getElem_map, List.getD_eq_getElem?_getD, List.getElem?_eq_getElem hqb]
        rfl
      by_cases hyes : bs.getD q false = true
      · have hqb : q < len := by
          rw [← HBl.out]
          rcases Nat.lt_or_ge q bs.length with h1 | h1
          · exact h1
          · rw [List.getD_eq_getElem?_getD, List.getElem?_eq_none h1] at hyes; cases hyes
        obtain ⟨bk, ok, hA', hkk⟩ := hkc hqb
        subst hA'
        rw [hyes] at hkk hstep
        have HStep : Hid (applyAll F (keepOf bs (l.take (q + 1))) = (applyAll F (keepOf bs (l.take q))).set p.1 p.2) := Lib.hid (by rw [hstep, if_pos rfl, applyAll_snoc])
        obtain ⟨b1, o1, hA1, _, hc1⟩ := (own_lies_ HS.out.oa).at_ (fun e => by simp at e; subst e; simp at hql)
        obtain ⟨b2, o2, hA2, _, hc2⟩ := (own_lies_ HS.out.ow).at_ (fun e => by simp at e; subst e; simp at hql)
        have d1 := hc1 q (by simpa using hql)
        have d2 := hc2 q (by simpa using hql)
        rw [List.getElem_map, hp] at d1 d2
        change _ = some (Value.int .i64 (p.1 : Int)) at d1
        change _ = some (Value.string (str p.2)) at d2
        subst hA1
        subst hA2
        have d3 := HS.out.of.cellAt p.1 (by omega)
        rw [List.getElem?_eq_getElem (by rw [List.length_map, HAl.out]; exact hp1)] at d3
        have d4 := HS.out.of.frozenAt p.1
        obtain ⟨z, hz⟩ : ∃ z, ((applyAll F (keepOf bs (l.take q))).map secV)[p.1]'(by rw [List.length_map, HAl.out]; exact hp1) = z := ⟨_, rfl⟩
        rw [hz] at d3
        have HS9 : Hid (St3 w (wr.drew.setCell ⟨b, p.1, none⟩ (.string (str p.2))) (some ⟨b, 0, none⟩) N fc1 ((applyAll F (keepOf bs (l.take (q + 1)))).map secV) (some ⟨b1, o1, none⟩) M ac1 (l.map atV) (some ⟨b2, o2, none⟩) M wc1 (l.map whatV) L g) := Lib.hid (by
          rw [HStep.out, ← map_set_secV]
          exact HS.out.drew.firmSet hp1 _)
        obtain ⟨p1, p2⟩ := p
        simp only at d1 d2 d3 d4 hp1 HS9
        clear hkc hstep HStep hyes hp hc1 hc2 hz hql HS
        go_wp2_with fail
        go_still_tail 13, (by kernel_rfl)
        change wpList _ _ _ _ _ wr.drew
        go_wp2
        go_roundw
        case rel => exact ⟨q + 1, by omega, by go_num, HS9⟩
        case measure => simp [intOf]; omega
      · have hno : bs.getD q false = false := by simpa using hyes
        have HS9 : Hid (St3 w wr (some ⟨b, 0, none⟩) N fc1 ((applyAll F (keepOf bs (l.take (q + 1)))).map secV) aA1 M ac1 (l.map atV) wA1 M wc1 (l.map whatV) L g) := Lib.hid (by
          rw [hstep, hno, if_neg (by simp), List.append_nil]
          exact HS.out)
        clear hstep hyes hp hp1 hql HS
        by_cases hqb : q < len
        · obtain ⟨bk, ok, hA', hkk⟩ := hkc hqb
          subst hA'
          rw [hno] at hkk
          clear hkc hno
          go_wp2
          go_roundw
          case rel => exact ⟨q + 1, by omega, by go_num, HS9⟩
          case measure => simp [intOf]; omega
        · have hqb' : decide (q < len) = false := by simpa using hqb
          clear hkc hno
          go_wp2
          go_roundw
          case rel => exact ⟨q + 1, by omega, by go_num, HS9⟩
          case measure => simp [intOf]; omega
    · have HQ : Hid (q = M) := Lib.hid (by omega)
      rw [HQ.out] at HS ⊢
      rw [← HCF.out] at HS
      have hlt2 : decide ((M : Int) < M) = false := by simp
      obtain ⟨r0, r1, r2, r3, r4, rf⟩ := HS.out.r.cells
      clear HQ hlt hq
      go_wp2_with fail
      exact bodyPost_ret (v := .agg #[.slice (some ⟨b, 0, none⟩) N fc1, .slice none 0 0, .slice none 0 0, .int .i64 (-1), .bool false]) (by simp [results, Tryz.results23, go_sem, r0, r1, r2, r3, r4]) rfl (by
        have hFF : FF.length = N := by rw [HCF.out, HAl.out]
        have hst := HS.out
        rw [← hFF] at hst
        obtain ⟨h1, h2⟩ := st3_end hst _ _ _ _ _ rfl
        exact ⟨b, fc1, by rw [hFF], by have := (own_lt hst.of b rfl).1; omega, h1, h2⟩)
end Go.Proofs.YtjeabnlmanfplaaGreatDoor
