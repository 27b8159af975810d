/- Contract of Turn of the package wires. -/
import Derived.Test.YtfcpgkbbocadpaaWireJ
namespace Go.Proofs.Ytfcpgkbbocadpaa
open Go.RowKit

/-- One packet's bytes in a row of the call's own, written. -/
theorem own_turn16 {w : World} {base : Nat} {t : TypeId} {v : Value} {l : List WPk} (h : w.ownsRow base t 2 v l.length (wpCells l)) {k : Nat} (hk : k < l.length) :
    ∃ g c, v = .slice (some ⟨g, 0, none⟩) l.length c ∧ base ≤ g ∧ l.length ≤ c ∧ w.cell? ⟨g, k * 2 + 1, none⟩ = some (.string (str l[k].s)) ∧ w.frozen? ⟨g, k * 2 + 1, none⟩ = false ∧
      ∀ s, WpAt (w.setCell ⟨g, k * 2 + 1, none⟩ (.string (str s))) (w.setCell ⟨g, k * 2 + 1, none⟩ (.string (str s))).heap.size (some ⟨g, 0, none⟩) (l.set k ⟨l[k].to_, s⟩) := by
  obtain ⟨A, c, hv, _, hlies⟩ := own_lies h
  have hA := WpAt.of_lies hlies
  rcases h.2 with ⟨h2, h3⟩ | ⟨g, cap, cur, h2, hg, hheap, hn, _⟩
  · have := wpCells_length l; rw [h3] at this; simp at this; omega
  · subst hv
    simp only [Value.slice.injEq] at h2
    obtain ⟨rfl, _, rfl⟩ := h2
    obtain ⟨b, off, e1, hlt, x0, x1⟩ := hA.at_ (Below.refl _ _) hk
    simp only [Option.some.injEq, Addr.mk.injEq, and_true] at e1
    obtain ⟨rfl, rfl⟩ := e1
    rw [Nat.zero_add] at x0 x1
    refine ⟨g, c, rfl, hg, hn, x1, Lib.frozen_of_heap hheap _, fun s => .inr ⟨g, 0, rfl, by simpa using hlt, fun i hi => ?_⟩⟩
    have hi' : i < l.length := by simpa using hi
    obtain ⟨b, off, e1, _, y0, y1⟩ := hA.at_ (Below.refl _ _) hi'
    simp only [Option.some.injEq, Addr.mk.injEq, and_true] at e1
    obtain ⟨rfl, rfl⟩ := e1
    rw [Nat.zero_add] at y0 y1 ⊢
    by_cases e : k = i
    · subst e
      rw [List.getElem_set_self]
      exact ⟨by rw [World.cell?_setCell_other _ _ _ _ (by intro q; injection q; omega)]; exact y0, World.cell?_setCell_same _ _ _ y1⟩
    · rw [List.getElem_set_ne e]
      exact ⟨by rw [World.cell?_setCell_other _ _ _ _ (by intro q; injection q; omega)]; exact y0, by rw [World.cell?_setCell_other _ _ _ _ (by intro q; injection q; omega)]; exact y1⟩

set_option maxHeartbeats 1000000 in
set_option maxRecDepth 100000 in
theorem WTurn_any {w : World} {A : Option Addr} {c : Nat} {l : List WPk} (k at_ : Int) (b : UInt8) (h : WpAt w w.heap.size A l) (hl : l.length ≤ 1000) (hc : l.length ≤ c) (hn : A = none → c = 0) :
    Calls Try.prog 16 #[.slice A l.length c, .int .i64 k, .int .i64 at_, .int .u8 (b.toNat : Int)] w (WpErr (turnWL l k at_ b) (turnE l k at_) w) := by
  have HF := Lib.hid (Wfind_any k h hl hc)
  by_cases h0 : takeWE l k = 0
  case neg =>
    have h0' : (takeWE l k != 0) = true := by rw [bne_iff_ne]; exact h0
    have e1 : turnE l k at_ = takeWE l k := by unfold turnE; rw [if_pos h0]
    have e2 : turnWL l k at_ b = [] := by unfold turnWL; rw [if_neg (by rw [e1]; exact h0)]
    rw [e1, e2]
    generalize takeWE l k = E at *
    generalize l.length = n at *
    clear h e1 e2
    go_enter Try.func16, Try.ntmps16
    go_wp2_with (go_at_call 23; (with_reducible refine HF.out.mono ?_); rintro e w2 ⟨rfl, hb2⟩; have HB2 := Lib.hid hb2; clear hb2)
    go_ret2
    exact WpErr.none_ HB2.out
  rw [h0] at HF
  obtain ⟨hr, kn, rfl, hk⟩ := take_zero h0
  have hps := (rightW_at hr hk).2.2
  have HW := Lib.hid h
  have HBad := Lib.hid (fun h2 => turn_bad hr hk (at_ := at_) h2 b)
  have HOk := Lib.hid (fun a h2 => turn_ok hr hk (a := a) h2 b)
  have HOne := Lib.hid (fun p => putW_one hk p)
  have HCl := Lib.hid (fun W (hb : Below w.heap.size w W) => WClone_any (c := c) (h.next hb).lies (wpCells_length l) hl (wpCells_one l))
  have HTu := Lib.hid (fun (w : World) (base : Nat) (t : TypeId) (v : Value) (ho : w.ownsRow base t 2 v l.length (wpCells l)) => own_turn16 ho hk)
  obtain ⟨p, hp⟩ : ∃ p, l[kn] = p := ⟨_, rfl⟩
  rw [hp] at HBad HOk hps HTu
  have HPt : Hid (∀ W, Below w.heap.size w W → ∃ b off, A = some ⟨b, off, none⟩ ∧ b < w.heap.size ∧ W.cell? ⟨b, off + kn * 2, none⟩ = some (.int .i64 p.to_) ∧ W.cell? ⟨b, off + kn * 2 + 1, none⟩ = some (.string (str p.s))) := Lib.hid (fun W hb => by
    obtain ⟨b, off, h1, h4, h2, h3⟩ := HW.out.at_ hb hk
    rw [hp] at h2 h3
    exact ⟨b, off, h1, h4, h2, h3⟩)
  have hk1 : (kn : Int) < (l.length : Int) := by omega
  have hk0 : (0 : Int) ≤ (kn : Int) := by omega
  obtain ⟨TL, hTL⟩ : ∃ TL, turnWL l kn at_ b = TL := ⟨_, rfl⟩
  obtain ⟨TE, hTE⟩ : ∃ TE, turnE l kn at_ = TE := ⟨_, rfl⟩
  have HTL := Lib.hid hTL
  have HTE := Lib.hid hTE
  rw [hTL, hTE]
  clear h h0 hr hp hk HW hTL hTE
  generalize hnn : l.length = n at *
  have HNN := Lib.hid hnn
  clear hnn
  by_cases a0 : at_ < 0 ∨ (p.s.length : Int) ≤ at_
  · obtain ⟨e1, e2⟩ := HBad.out a0
    obtain rfl : TE = 1 := HTE.out.symm.trans e1
    obtain rfl : TL = [] := HTL.out.symm.trans e2
    clear e1 e2
    have HCv := Lib.hid (fun W : World => bytes_of_text W (str p.s))
    go_enter Try.func16, Try.ntmps16
    go_upto_region 4 with (go_at_call 23; (with_reducible refine HF.out.mono ?_); rintro e w2 ⟨rfl, hb2⟩; have HB2 := Lib.hid hb2; clear hb2)
    obtain ⟨b0, off, rfl, hblt, x0, x1⟩ := HPt.out _ HB2.out
    obtain ⟨cb, w3, hcv, hby, hb3, hz3⟩ := HCv.out w2
    rw [str_size] at hcv
    have HB3 := Lib.hid hb3
    clear hby hb3 hz3 x0
    rcases a0 with a0 | a0
    · go_wp2_with fail
      go_ret2
      exact WpErr.none_ (below_next HB2.out HB3.out)
    · by_cases a1 : at_ < 0
      · exfalso; omega
      · obtain ⟨an, rfl⟩ := Int.eq_ofNat_of_zero_le (show 0 ≤ at_ by omega)
        have a2 : p.s.length ≤ an := by omega
        have a3 : (0 : Int) ≤ (an : Int) := by omega
        go_wp2_with fail
        go_ret2
        exact WpErr.none_ (below_next HB2.out HB3.out)
  have a1 : ¬ at_ < 0 := fun e => a0 (.inl e)
  have a2 : ¬ (p.s.length : Int) ≤ at_ := fun e => a0 (.inr e)
  clear a0 HBad
  obtain ⟨an, rfl⟩ := Int.eq_ofNat_of_zero_le (show 0 ≤ at_ by omega)
  have han : an < p.s.length := by omega
  obtain ⟨e1, e2⟩ := HOk.out an han
  obtain rfl : TE = 0 := HTE.out.symm.trans e1
  have HT3 : Hid (TL = l.set kn ⟨p.to_, turnedW p.s an b⟩) := Lib.hid (HTL.out.symm.trans (e2.trans (HOne.out _)))
  clear e1 e2 HOk HTL HTE HOne
  have HCv := Lib.hid (fun W : World => bytes_of_text W (str p.s))
  have hat1 : (an : Int) < (p.s.length : Int) := by omega
  have hat0 : (0 : Int) ≤ (an : Int) := by omega
  go_enter Try.func16, Try.ntmps16
  go_upto_region 4 with (go_at_call 23; (with_reducible refine HF.out.mono ?_); rintro e w2 ⟨rfl, hb2⟩; have HB2 := Lib.hid hb2; clear hb2)
  obtain ⟨b0, off, rfl, hblt, x0, x1⟩ := HPt.out _ HB2.out
  obtain ⟨cb, w3, hcv, hby, hb3, hz3⟩ := HCv.out w2
  rw [str_size] at hcv
  rw [str_list] at hby
  have HB3 := Lib.hid (below_next HB2.out hb3)
  obtain ⟨y0, y1⟩ := hby an han
  have HBy := Lib.hid hby
  clear hb3 hby x0
  go_upto_region 8 with fail
  rw [u8_turn]
  have hby4 := HBy.out.set an (p.s[an] ^^^ b)
  obtain ⟨W4, hW4⟩ : ∃ W4, w3.setCell ⟨w2.heap.size, an, none⟩ (.int .u8 (((p.s[an] ^^^ b).toNat : Nat) : Int)) = W4 := ⟨_, rfl⟩
  have HB4 : Hid (Below w.heap.size w W4) := Lib.hid (by rw [← hW4]; exact HB3.out.setCell (p := ⟨w2.heap.size, an, none⟩) HB2.out.size _)
  have h4 : w2.heap.size < W4.heap.size := by rw [← hW4]; simp; omega
  rw [hW4] at hby4 ⊢
  have e5 : p.s.set an (p.s[an] ^^^ b) = turnedW p.s an b := by
    unfold turnedW
    rw [List.getD_eq_getElem?_getD, List.getElem?_eq_getElem han]; rfl
  rw [e5] at hby4
  have HBy4 := Lib.hid hby4
  have hl5 : (turnedW p.s an b).length = p.s.length := turnedW_len _ _ _
  have HL5 := Lib.hid hl5
  obtain ⟨X, hX⟩ : ∃ X, turnedW p.s an b = X := ⟨_, rfl⟩
  rw [hX] at HT3 HBy4 HL5
  clear y0 y1 x1 hcv hz3 hW4 hby4 e5 hl5 hX HBy HCv
  go_upto_region 9 with (go_at_call 25; (with_reducible refine (HCl.out _ HB4.out).mono ?_); rintro e w5 ⟨v5, rfl, ho5, hb5⟩; have HO5 := Lib.hid ho5; have HB5 := Lib.hid hb5; clear ho5 hb5)
  obtain ⟨g, c5, rfl, hg, hgc, z0, z1, HS⟩ := HTu.out _ _ _ _ HO5.out
  have HS5 := Lib.hid HS
  have HGC := Lib.hid hgc
  have hcv2 : (convert 49 9 (.slice (some ⟨w2.heap.size, 0, none⟩) p.s.length cb)).run Try.prog w5 = .ok (.string (str X)) w5 := by
    have hb : BytesIn w5 w2.heap.size X := fun j hj => by
      obtain ⟨q0, q1⟩ := HBy4.out j hj
      exact ⟨(HB5.out.cell (p := ⟨w2.heap.size, j, none⟩) h4).trans q0, by rw [← q1]; simp only [World.frozen?, HB5.out.block _ h4]⟩
    have := text_of_bytes hb cb
    rwa [HL5.out] at this
  clear HS hgc HO5
  go_wp2_with fail
  go_ret2
  have hTL : TL.length = n := by rw [HT3.out, List.length_set, HNN.out]
  refine ⟨some ⟨g, 0, none⟩, c5, ?_, ?_, ⟨?_, by simp⟩, ?_⟩
  · rw [hTL]; rfl
  · rw [HT3.out]; exact HS5.out X
  · rw [hTL]; exact HGC.out
  · exact (below_next HB4.out HB5.out).setCell (p := ⟨g, kn * 2 + 1, none⟩) (Nat.le_trans HB4.out.size hg) _
end Go.Proofs.Ytfcpgkbbocadpaa
