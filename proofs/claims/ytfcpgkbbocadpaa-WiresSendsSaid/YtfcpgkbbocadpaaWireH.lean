/- Contracts of add, Send, Twice of the package wires, and awake. -/
import Derived.Test.YtfcpgkbbocadpaaWireG
namespace Go.Proofs.Ytfcpgkbbocadpaa
open Go.RowKit

theorem WConcat_part {WX : World} {A : Option Addr} {n c : Nat} {l : List WPk} (p : WPk) (hn : l.length = n) (h : WpAt WX WX.heap.size A l) (hx : n ≤ 1000) (hnil : A = none → c = 0) :
    Calls Try.prog 24 #[.slice (some ⟨WX.heap.size + 1, 0, none⟩) 2 2] ((WX.alloc (.cells #[.int .i64 p.to_, .string (str p.s)] 24)).alloc (.cells #[.slice A n c, .slice (some ⟨WX.heap.size, 0, none⟩) 1 1] 22)) (WpEnd (l ++ [p]) WX) := by
  subst hn
  have b1 := below_one WX (.cells #[.int .i64 p.to_, .string (str p.s)] 24)
  have b2 := below_one (WX.alloc (.cells #[.int .i64 p.to_, .string (str p.s)] 24)) (.cells #[.slice A l.length c, .slice (some ⟨WX.heap.size, 0, none⟩) 1 1] 22)
  have hs1 : WpAt (WX.alloc (.cells #[.int .i64 p.to_, .string (str p.s)] 24)) (WX.alloc (.cells #[.int .i64 p.to_, .string (str p.s)] 24)).heap.size (some ⟨WX.heap.size, 0, none⟩) [p] := .inr ⟨WX.heap.size, 0, rfl, by simp, fun j hj => by
    obtain rfl : j = 0 := by simp at hj; omega
    exact ⟨by rw [Lib.cell_of_heap (heap_alloc_new WX _)]; rfl, by rw [Lib.cell_of_heap (heap_alloc_new WX _)]; rfl⟩⟩
  have e1 : (WX.alloc (.cells #[.int .i64 p.to_, .string (str p.s)] 24)).heap.size = WX.heap.size + 1 := by simp
  have hcell := fun j => Lib.cell_of_heap (heap_alloc_new (WX.alloc (.cells #[.int .i64 p.to_, .string (str p.s)] 24)) (.cells #[.slice A l.length c, .slice (some ⟨WX.heap.size, 0, none⟩) 1 1] 22)) j
  rw [e1] at hcell
  refine (WConcat_two (c1 := c) (c2 := 1) (g := WX.heap.size + 1) ((h.next b1).next b2) (hs1.next b2) ⟨by omega, hnil⟩ ⟨by simp, fun h => by cases h⟩ (by simp) (by rw [hcell]; rfl) (by rw [hcell]; rfl)).mono ?_
  rintro e w' ⟨v, rfl, hown, hb⟩
  have e2 : l.length + [p].length = (l ++ [p]).length := by simp
  rw [e2] at hown
  obtain ⟨A', c', hv, h1, h2, h3, h4⟩ := own_endW (w0 := ((WX.alloc (.cells #[.int .i64 p.to_, .string (str p.s)] 24)).alloc (.cells #[.slice A l.length c, .slice (some ⟨WX.heap.size, 0, none⟩) 1 1] 22))) hown hb
  exact ⟨A', c', hv, h1, h2, h3, below_next (below_next b1 b2) h4⟩

theorem take_zero {l : List WPk} {k : Int} (h : takeWE l k = 0) : rightW l = true ∧ ∃ kn : Nat, k = (kn : Int) ∧ kn < l.length := by
  unfold takeWE at h
  split at h
  · omega
  · rename_i h1
    split at h
    · omega
    · rename_i h2
      refine ⟨by cases e : rightW l with | true => rfl | false => exact absurd e h1, k.toNat, by omega, by omega⟩
theorem WpErr.none_ {er : Int} {w w' : World} (hb : Below w.heap.size w w') : WpErr [] er w (.returned (.tuple #[.slice none 0 0, .int .i64 er])) w' :=
  ⟨none, 0, rfl, .inl rfl, ⟨Nat.le_refl _, fun _ => rfl⟩, hb⟩
theorem Wadd_any {w : World} {A : Option Addr} {c : Nat} {l : List WPk} (p : WPk) (h : WpAt w w.heap.size A l) (hl : l.length ≤ 1000) (hn : A = none → c = 0) :
    Calls Try.prog 20 #[.slice A l.length c, p.val] w (WpErr (if l.length = 256 then [] else l ++ [p]) (if l.length = 256 then 6 else 0) w) := by
  have hb0 := below_one w (.cells #[.int .i64 p.to_, .string (str p.s)] 24)
  obtain ⟨V, hV⟩ : ∃ V, V = w.alloc (.cells #[.int .i64 p.to_, .string (str p.s)] 24) := ⟨_, rfl⟩
  have hpb := heap_new w (.cells #[.int .i64 p.to_, .string (str p.s)] 24 (0, 0))
  rw [← hV] at hb0 hpb
  have HB0 := Lib.hid hb0
  have HV := Lib.hid hV
  have p0 : V.cell? ⟨w.heap.size, 0, none⟩ = some (.int .i64 p.to_) := Lib.cell_of_heap hpb 0
  have p1 : V.cell? ⟨w.heap.size, 1, none⟩ = some (.string (str p.s)) := Lib.cell_of_heap hpb 1
  have HC := Lib.hid (WConcat_part (c := c) p rfl (h.next hb0) hl hn)
  have hVs : V.heap.size = w.heap.size + 1 := by rw [hV]; simp
  rw [hVs] at HC
  unfold WPk.val
  clear h hb0 hpb hV hVs
  by_cases h6 : l.length = 256
  · rw [if_pos h6, if_pos h6, h6]
    clear HC
    go_enter Try.func20, Try.ntmps20
    go_wp2_with fail
    go_ret2
    rw [← HV.out]
    exact WpErr.none_ HB0.out
  · rw [if_neg h6, if_neg h6]
    obtain ⟨M, hM⟩ : ∃ M, l ++ [p] = M := ⟨_, rfl⟩
    rw [hM] at HC ⊢
    generalize l.length = n at *
    have h6' : ((n : Int) == 256) = false := by rw [beq_eq_false_iff_ne]; omega
    have h6'' : ¬ (n : Int) = 256 := by omega
    go_enter Try.func20, Try.ntmps20
    go_wp2_with fail
    rw [← HV.out]
    go_wp2_with (go_at_call 24; (with_reducible refine HC.out.mono ?_); rintro e w2 ⟨A2, c2, rfl, hw2, hr2, hn2, hb2⟩; have HW2 := Lib.hid hw2; have HR2 := Lib.hid hr2; have HN2 := Lib.hid hn2; have HB2 := Lib.hid hb2; clear hw2 hr2 hn2 hb2)
    go_ret2
    exact ⟨A2, c2, rfl, HW2.out, ⟨HR2.out, HN2.out⟩, below_next HB0.out HB2.out⟩

theorem WSend_any {w : World} {A : Option Addr} {c : Nat} {l : List WPk} (p : WPk) (h : WpAt w w.heap.size A l) (hl : l.length ≤ 1000) (hc : l.length ≤ c) (hn : A = none → c = 0) :
    Calls Try.prog 8 #[.slice A l.length c, .agg #[.int .i64 p.to_, .string (str p.s)]] w (WpErr (sendL l p) (sendE l p) w) := by
  have hb0 := below_one w (.cells #[.int .i64 p.to_, .string (str p.s)] 24)
  obtain ⟨V, hV⟩ : ∃ V, V = w.alloc (.cells #[.int .i64 p.to_, .string (str p.s)] 24) := ⟨_, rfl⟩
  have hpb := heap_new w (.cells #[.int .i64 p.to_, .string (str p.s)] 24 (0, 0))
  rw [← hV] at hb0 hpb
  have HB0 := Lib.hid hb0
  have HV := Lib.hid hV
  have HP : ∀ W, Below V.heap.size V W → W.cell? ⟨w.heap.size, 0, none⟩ = some (.int .i64 p.to_) ∧ W.cell? ⟨w.heap.size, 1, none⟩ = some (.string (str p.s)) := fun W hb => by
    have hlt : w.heap.size < V.heap.size := by rw [hV]; simp
    exact ⟨(hb.cell (p := ⟨w.heap.size, 0, none⟩) hlt).trans (Lib.cell_of_heap hpb 0), (hb.cell (p := ⟨w.heap.size, 1, none⟩) hlt).trans (Lib.cell_of_heap hpb 1)⟩
  have HP := Lib.hid HP
  have HR := Lib.hid (WRight_any (h.next hb0) hl hc)
  have HA := Lib.hid (fun W (hb : Below V.heap.size V W) => Wadd_any (c := c) p ((h.next hb0).next hb) hl hn)
  have HS := Lib.hid (fun W => WisSite_any p.to_ W)
  have HLo := Lib.hid (fun W => WisLong_any p W)
  have HE1 := Lib.hid (fun hh => send_bad (l := l) (p := p) hh)
  have HE2 := Lib.hid (fun h1 h2 => send_long (l := l) (p := p) h1 h2)
  have HE3 := Lib.hid (fun h1 h2 h3 => send_full (l := l) (p := p) h1 h2 h3)
  have HE4 := Lib.hid (fun h1 h2 h3 => send_ok (l := l) (p := p) h1 h2 h3)
  obtain ⟨SL, hSL⟩ : ∃ SL, sendL l p = SL := ⟨_, rfl⟩
  obtain ⟨SE, hSE⟩ : ∃ SE, sendE l p = SE := ⟨_, rfl⟩
  rw [hSL, hSE] at HE1 HE2 HE3 HE4 ⊢
  unfold WPk.val at HA HLo
  clear h hb0 hpb hV hSL hSE
  by_cases hr : rightW l = true
  case neg =>
    have hr2 : rightW l = false := by cases e : rightW l with | true => exact absurd e hr | false => rfl
    obtain ⟨rfl, rfl⟩ := HE1.out (.inl hr2)
    rw [hr2] at HR
    clear hr hr2 HE1 HE2 HE3 HE4
    go_enter Try.func8, Try.ntmps8
    go_wp2_with fail
    rw [← HV.out]
    go_wp2_with (go_at_call 11; (with_reducible refine HR.out.mono ?_); rintro e w2 ⟨rfl, hb2⟩; have HB2 := Lib.hid hb2; clear hb2)
    go_ret2
    exact WpErr.none_ (below_next HB0.out HB2.out)
  rw [hr] at HR
  by_cases hs : 0 ≤ p.to_ ∧ p.to_ ≤ 1
  case neg =>
    obtain ⟨rfl, rfl⟩ := HE1.out (by omega)
    rw [decide_eq_false hs] at HS
    clear hr hs HE1 HE2 HE3 HE4
    go_enter Try.func8, Try.ntmps8
    go_wp2_with fail
    rw [← HV.out]
    go_wp2_with (first | (go_at_call 11; (with_reducible refine HR.out.mono ?_); rintro e w2 ⟨rfl, hb2⟩; have HB2 := Lib.hid hb2; obtain ⟨q0, q1⟩ := HP.out _ hb2; clear hb2) | (go_at_call 18; (with_reducible refine (HS.out _).mono ?_); rintro e w3 ⟨rfl, rfl⟩))
    go_ret2
    exact WpErr.none_ (below_next HB0.out HB2.out)
  rw [decide_eq_true hs] at HS
  have hneg : ¬ (rightW l = false ∨ p.to_ < 0 ∨ 1 < p.to_) := by rw [hr]; simp; omega
  by_cases h4 : 4103 < p.s.length
  · obtain ⟨rfl, rfl⟩ := HE2.out hneg h4
    rw [decide_eq_true h4] at HLo
    clear hr hs hneg h4 HE1 HE2 HE3 HE4
    go_enter Try.func8, Try.ntmps8
    go_wp2_with fail
    rw [← HV.out]
    go_wp2_with (first | (go_at_call 11; (with_reducible refine HR.out.mono ?_); rintro e w2 ⟨rfl, hb2⟩; have HB2 := Lib.hid hb2; obtain ⟨q0, q1⟩ := HP.out _ hb2; clear hb2) | (go_at_call 18; (with_reducible refine (HS.out _).mono ?_); rintro e w3 ⟨rfl, rfl⟩) | (go_at_call 19; (with_reducible refine (HLo.out _).mono ?_); rintro e w4 ⟨rfl, hb4⟩; have HB4 := Lib.hid hb4; clear hb4))
    go_ret2
    exact WpErr.none_ (below_next HB0.out (below_next HB2.out HB4.out))
  rw [decide_eq_false h4] at HLo
  have HF : Hid ((if l.length = 256 then [] else l ++ [p]) = SL ∧ (if l.length = 256 then (6 : Int) else 0) = SE) := Lib.hid (by
    have := rightW_len hr
    by_cases h5 : 255 < l.length
    · obtain ⟨e1, e2⟩ := HE3.out hneg h4 h5
      rw [e1, e2, if_pos (by omega), if_pos (by omega)]
      exact ⟨rfl, rfl⟩
    · obtain ⟨e1, e2⟩ := HE4.out hneg h4 h5
      rw [e1, e2, if_neg (by omega), if_neg (by omega)]
      exact ⟨rfl, rfl⟩)
  rw [HF.out.1, HF.out.2] at HA
  clear hr hs hneg h4 HE1 HE2 HE3 HE4 HF
  go_enter Try.func8, Try.ntmps8
  go_wp2_with fail
  rw [← HV.out]
  go_wp2_with (first | (go_at_call 11; (with_reducible refine HR.out.mono ?_); rintro e w2 ⟨rfl, hb2⟩; have HB2 := Lib.hid hb2; obtain ⟨q0, q1⟩ := HP.out _ hb2; clear hb2) | (go_at_call 18; (with_reducible refine (HS.out _).mono ?_); rintro e w3 ⟨rfl, rfl⟩) | (go_at_call 19; (with_reducible refine (HLo.out _).mono ?_); rintro e w4 ⟨rfl, hb4⟩; have HB4 := Lib.hid (below_next HB2.out hb4); obtain ⟨q2, q3⟩ := HP.out _ HB4.out; clear hb4) | (go_at_call 20; (with_reducible refine (HA.out _ HB4.out).mono ?_); rintro e w5 ⟨A5, c5, rfl, hw5, hr5, hb5⟩; have HW5 := Lib.hid hw5; have HR5 := Lib.hid hr5; have HB5 := Lib.hid hb5; clear hw5 hr5 hb5))
  go_ret2
  exact ⟨A5, c5, rfl, HW5.out, HR5.out, below_next HB0.out (below_next HB4.out HB5.out)⟩

theorem WTwice_any {w : World} {A : Option Addr} {c : Nat} {l : List WPk} (k : Int) (h : WpAt w w.heap.size A l) (hl : l.length ≤ 1000) (hc : l.length ≤ c) (hn : A = none → c = 0) :
    Calls Try.prog 15 #[.slice A l.length c, .int .i64 k] w (WpErr (twiceL l k) (twiceE l k) w) := by
  have HF := Lib.hid (Wfind_any k h hl hc)
  by_cases h0 : takeWE l k = 0
  case neg =>
    have h0' : (takeWE l k != 0) = true := by rw [bne_iff_ne]; exact h0
    have e1 : twiceE l k = takeWE l k := by unfold twiceE; rw [if_pos h0]
    have e2 : twiceL l k = [] := by unfold twiceL; rw [if_neg (by rw [e1]; exact h0)]
    rw [e1, e2]
    generalize takeWE l k = E at *
    generalize l.length = n at *
    clear h e1 e2
    go_enter Try.func15, Try.ntmps15
    go_wp2_with (go_at_call 23; (with_reducible refine HF.out.mono ?_); rintro e w2 ⟨rfl, hb2⟩; have HB2 := Lib.hid hb2; clear hb2)
    go_ret2
    exact WpErr.none_ HB2.out
  rw [h0] at HF
  obtain ⟨hr, kn, rfl, hk⟩ := take_zero h0
  have HA := Lib.hid (fun W (hb : Below w.heap.size w W) => Wadd_any (c := c) l[kn] (h.next hb) hl hn)
  have HW := Lib.hid h
  have HE : Hid ((if l.length = 256 then [] else l ++ [l[kn]]) = twiceL l kn ∧ (if l.length = 256 then (6 : Int) else 0) = twiceE l kn) := Lib.hid (by
    have := rightW_len hr
    by_cases h5 : 255 < l.length
    · obtain ⟨e1, e2⟩ := twice_full hr hk h5
      rw [e1, e2, if_pos (by omega), if_pos (by omega)]
      exact ⟨rfl, rfl⟩
    · obtain ⟨e1, e2⟩ := twice_ok hr hk h5
      rw [e1, e2, if_neg (by omega), if_neg (by omega)]
      exact ⟨rfl, rfl⟩)
  rw [HE.out.1, HE.out.2] at HA
  generalize twiceL l kn = SL at HA ⊢
  generalize twiceE l kn = SE at HA ⊢
  obtain ⟨p, hp⟩ : ∃ p, l[kn] = p := ⟨_, rfl⟩
  have HPt : Hid (∀ W, Below w.heap.size w W → ∃ b off, A = some ⟨b, off, none⟩ ∧ W.cell? ⟨b, off + kn * 2, none⟩ = some (.int .i64 p.to_) ∧ W.cell? ⟨b, off + kn * 2 + 1, none⟩ = some (.string (str p.s))) := Lib.hid (fun W hb => by
    obtain ⟨b, off, h1, _, h2, h3⟩ := HW.out.at_ hb hk
    rw [hp] at h2 h3
    exact ⟨b, off, h1, h2, h3⟩)
  rw [hp] at HA
  unfold WPk.val at HA
  have hk1 : (kn : Int) < (l.length : Int) := by omega
  have hk0 : (0 : Int) ≤ (kn : Int) := by omega
  clear h h0 hr HE HW hp hk
  generalize l.length = n at *
  go_enter Try.func15, Try.ntmps15
  go_wp2_with (first | (go_at_call 23; (with_reducible refine HF.out.mono ?_); rintro e w2 ⟨rfl, hb2⟩; have HB2 := Lib.hid hb2; obtain ⟨b, off, rfl, q0, q1⟩ := HPt.out _ hb2; clear hb2) | (go_at_call 20; (with_reducible refine (HA.out _ HB2.out).mono ?_); rintro e w5 ⟨A5, c5, rfl, hw5, hr5, hb5⟩; have HW5 := Lib.hid hw5; have HR5 := Lib.hid hr5; have HB5 := Lib.hid hb5; clear hw5 hr5 hb5))
  go_ret2
  exact ⟨A5, c5, rfl, HW5.out, HR5.out, below_next HB2.out HB5.out⟩

theorem awake16_any (w : World) : Calls Try.prog 7 #[] w fun e w' => e = .returned (.bool true) ∧ Below w.heap.size w w' := by
  have HS := Lib.hid (fun W => WSend_any (A := none) (c := 0) (w := W) (l := []) ⟨1, [97]⟩ (.inl rfl) (by simp) (by simp) (fun _ => rfl))
  rw [show sendL [] ⟨1, [97]⟩ = [⟨1, [97]⟩] from by decide, show sendE [] ⟨1, [97]⟩ = 0 from by decide] at HS
  unfold WpErr at HS
  simp only [List.length_nil, List.length_cons, Nat.zero_add] at HS
  rw [show str [97] = ⟨#[97]⟩ from rfl] at HS
  go_enter Try.func7, Try.ntmps7
  go_wp2_with (go_at_call 8; (with_reducible refine (HS.out _).mono ?_); rintro e w2 ⟨A, c, rfl, hw, hr, hb⟩; have HB := Lib.hid hb; obtain ⟨b, off, rfl, _, q0, q1⟩ := hw.at_ (Below.refl _ _) (i := 0) (by simp); dsimp only [List.getElem_cons_zero] at q0 q1; rw [show str [97] = ⟨#[97]⟩ from rfl] at q1; clear hw hr hb)
  go_ret
  exact ⟨rfl, HB.out⟩
end Go.Proofs.Ytfcpgkbbocadpaa
