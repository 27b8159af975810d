/- Contracts of the document's Right, Equal, Packet, Put and Tick. -/
import Derived.Test.YtdhmkcomngbmaaaLinkG
import Derived.Test.YtdhmkcomngbmaaaFrameRef
namespace Go.Proofs.Ytdhmkcomngbmaaa
open Go.RowKit

/-- An end as the document's value. -/
def LEnd.rval (x : LEnd) (A : Option Addr) (c : Nat) : Value := .agg #[.int .i64 x.ep, .int .i64 x.ot, .int .i64 x.fi, .int .i64 x.wa, .slice A x.out.length c]

set_option maxHeartbeats 4000000 in
set_option maxRecDepth 100000 in
theorem RRight_any (x : LEnd) (A : Option Addr) (c : Nat) (w : World) (h : Strs w w.heap.size A x.out) (hl : x.out.length ≤ 9223372036854775807) :
    Calls Try.prog 15 #[x.rval A c] w fun e w' => e = .returned (.bool (okB x)) ∧ Below w.heap.size w w' := by
  obtain ⟨ep, ot, fi, wa, out⟩ := x
  unfold LEnd.rval
  simp only at h hl ⊢
  have HB : Hid (Below w.heap.size w (w.alloc (.cells #[.int .i64 ep, .int .i64 ot, .int .i64 fi, .int .i64 wa, .slice A out.length c] 33))) := Lib.hid (below_one _ _)
  have hok := okB_iff ⟨ep, ot, fi, wa, out⟩
  obtain ⟨r, hr⟩ : ∃ r, okB ⟨ep, ot, fi, wa, out⟩ = r := ⟨_, rfl⟩
  rw [hr] at hok ⊢
  have HOk := Lib.hid hok
  have HNo : Hid (¬ LEnd.Ok ⟨ep, ot, fi, wa, out⟩ → r = false) := Lib.hid (fun hn => by rw [Bool.eq_false_iff]; exact fun e => hn (hok.1 e))
  clear hr hok
  by_cases g0 : ep < 1
  case pos =>
    have hf := HNo.out (fun e => by have := e.e1; dsimp only at this; omega)
    subst hf
    go_enter Try.func15, Try.ntmps15
    go_wp2_with fail
    go_ret
    exact ⟨rfl, HB.out⟩
  case neg =>
  by_cases g1 : 1099511627776 < ep
  case pos =>
    have hf := HNo.out (fun e => by have := e.e2; dsimp only at this; omega)
    subst hf
    go_enter Try.func15, Try.ntmps15
    go_wp2_with fail
    go_ret
    exact ⟨rfl, HB.out⟩
  case neg =>
  by_cases g2 : ot < 0
  case pos =>
    have hf := HNo.out (fun e => by have := e.o1; dsimp only at this; omega)
    subst hf
    go_enter Try.func15, Try.ntmps15
    go_wp2_with fail
    go_ret
    exact ⟨rfl, HB.out⟩
  case neg =>
  by_cases g3 : 1099511627776 < ot
  case pos =>
    have hf := HNo.out (fun e => by have := e.o2; dsimp only at this; omega)
    subst hf
    go_enter Try.func15, Try.ntmps15
    go_wp2_with fail
    go_ret
    exact ⟨rfl, HB.out⟩
  case neg =>
  by_cases g4 : fi < 1
  case pos =>
    have hf := HNo.out (fun e => by have := e.f1; dsimp only at this; omega)
    subst hf
    go_enter Try.func15, Try.ntmps15
    go_wp2_with fail
    go_ret
    exact ⟨rfl, HB.out⟩
  case neg =>
  by_cases g5 : 1099511627776 < fi
  case pos =>
    have hf := HNo.out (fun e => by have := e.f2; dsimp only at this; omega)
    subst hf
    go_enter Try.func15, Try.ntmps15
    go_wp2_with fail
    go_ret
    exact ⟨rfl, HB.out⟩
  case neg =>
  by_cases g6 : wa < 1
  case pos =>
    have hf := HNo.out (fun e => by have := e.w1; dsimp only at this; omega)
    subst hf
    go_enter Try.func15, Try.ntmps15
    go_wp2_with fail
    go_ret
    exact ⟨rfl, HB.out⟩
  case neg =>
  by_cases g7 : 1099511627776 < wa
  case pos =>
    have hf := HNo.out (fun e => by have := e.w2; dsimp only at this; omega)
    subst hf
    go_enter Try.func15, Try.ntmps15
    go_wp2_with fail
    go_ret
    exact ⟨rfl, HB.out⟩
  case neg =>
  by_cases g8 : 64 < out.length
  case pos =>
    have hf := HNo.out (fun e => by have := e.len; dsimp only at this; omega)
    have g9 : (64 : Int) < (out.length : Int) := by omega
    subst hf
    go_enter Try.func15, Try.ntmps15
    go_wp2_with fail
    go_ret
    exact ⟨rfl, HB.out⟩
  case neg =>
  have hAll : Hid (out.all fitB = true → r = true) := Lib.hid (fun hall => HOk.out.2 ⟨by dsimp only; omega, by dsimp only; omega, by dsimp only; omega, by dsimp only; omega, by dsimp only; omega, by dsimp only; omega, by dsimp only; omega, by dsimp only; omega, by dsimp only; omega, fun p hp => by
    have := List.all_eq_true.1 hall p hp
    simp [fitB] at this
    omega⟩)
  have hBad : Hid (∀ p ∈ out, fitB p = false → r = false) := Lib.hid (fun p hp hf => HNo.out (fun e => by
    have := e.each p hp
    simp [fitB] at hf
    omega))
  have HA := Lib.hid (h.next HB.out)
  have HF := Lib.hid (Five.new w (.int .i64 ep) (.int .i64 ot) (.int .i64 fi) (.int .i64 wa) (.slice A out.length c) 33)
  have g9 : ¬ (64 : Int) < (out.length : Int) := by omega
  obtain ⟨n, hn⟩ : ∃ n, out.length = n := ⟨_, rfl⟩
  have HN := Lib.hid hn
  rw [hn] at HA HF HB hl g8 g9 ⊢
  clear h hn HNo HOk
  obtain ⟨V, hV⟩ : ∃ V, V = w.alloc (.cells #[.int .i64 ep, .int .i64 ot, .int .i64 fi, .int .i64 wa, .slice A n c] 33) := ⟨_, rfl⟩
  rw [← hV] at HA HF HB
  have HV := Lib.hid hV
  clear hV
  go_enter Try.func15, Try.ntmps15
  go_upto_region 1 with fail
  rw [← HV.out]
  have x0 := HF.out.c0
  have x1 := HF.out.c1
  have x2 := HF.out.c2
  have x3 := HF.out.c3
  have x4 := HF.out.c4
  go_wp2_with fail
  go_loop [3] (fun i => ∃ k : Nat, k ≤ n ∧ i = .int .i64 k ∧ Hid ((out.take k).all fitB = true)) (fun i => n - (intOf i).toNat)
  case atStart => exact ⟨0, by omega, rfl, Lib.hid (by simp)⟩
  case round =>
    obtain ⟨k, hk, rfl, HK⟩ := hrel
    by_cases hlt : k < n
    · have hkl : k < out.length := by rw [HN.out]; exact hlt
      obtain ⟨b, off, rfl, _, hc⟩ := HA.out.at_ hkl
      unfold txt at hc
      have HT := Lib.hid (List.take_succ_eq_append_getElem hkl)
      obtain ⟨s, hs⟩ : ∃ s, out[k] = s := ⟨_, rfl⟩
      have HM : Hid (s ∈ out) := Lib.hid (by rw [← hs]; exact List.getElem_mem hkl)
      rw [hs] at hc HT
      have hi0 : (0 : Int) ≤ (k : Int) := by omega
      have hi1 : (k : Int) < (n : Int) := by omega
      clear hs hkl
      by_cases hq : 512 < s.length
      · have hq' : (512 : Int) < ((str s).size : Int) := by rw [str_size]; omega
        have hf := hBad.out s HM.out (by simp [fitB, hq])
        subst hf
        go_wp2_with fail
        go_ret
        exact ⟨rfl, HB.out⟩
      · have hq' : ¬ (512 : Int) < ((str s).size : Int) := by rw [str_size]; omega
        have HQ : Hid (fitB s = true) := Lib.hid (by simp [fitB]; omega)
        go_wp2_with fail
        go_round
        case rel => exact ⟨k + 1, by omega, by go_num, Lib.hid (by rw [HT.out, List.all_append, HK.out]; simp [HQ.out])⟩
        case measure => simp [intOf]; omega
    · have ht := hAll.out (by have := HK.out; rwa [List.take_of_length_le (by rw [HN.out]; omega)] at this)
      subst ht
      go_wp2_with fail
      go_ret
      exact ⟨rfl, HB.out⟩

/-- Equal, of the same ends. -/
theorem REqual_yes (x : LEnd) (A1 A2 : Option Addr) (c1 c2 B1 B2 : Nat) (w : World) (hn : x.out.length ≤ maxLen) (h1 : Strs w B1 A1 x.out) (h2 : Strs w B2 A2 x.out) (hB1 : B1 ≤ w.heap.size) (hB2 : B2 ≤ w.heap.size) :
    Calls Try.prog 17 #[x.rval A1 c1, x.rval A2 c2] w fun e w' => e = .returned (.bool true) ∧ Below w.heap.size w w' := by
  obtain ⟨ep, ot, fi, wa, out⟩ := x
  unfold LEnd.rval
  simp only at h1 h2 hn ⊢
  have hb := below_news w (.cells #[.int .i64 ep, .int .i64 ot, .int .i64 fi, .int .i64 wa, .slice A1 out.length c1] 33) (.cells #[.int .i64 ep, .int .i64 ot, .int .i64 fi, .int .i64 wa, .slice A2 out.length c2] 33)
  have HS := Lib.hid (Same_yes A1 A2 c1 c2 B1 B2 out _ hn (h1.below (hb.mono hB1)) (h2.below (hb.mono hB2)))
  have HB := Lib.hid hb
  clear h1 h2 hn hB1 hB2 hb
  generalize out.length = n at *
  go_enter Try.func17, Try.ntmps17
  go_wp2_with (go_at_call 19; refine HS.out.mono ?_; rintro e w' ⟨rfl, hb⟩)
  go_ret
  exact ⟨rfl, below_next HB.out hb⟩

set_option maxHeartbeats 1000000 in
set_option maxRecDepth 100000 in
theorem RPacket_any (x : LEnd) (A : Option Addr) (c : Nat) (kind : Nat) (num : Int) (p : List UInt8) (w : World) (hx : x.Ok3) (hk : kind = 1 ∨ kind = 2) (h0 : 0 ≤ num) (h1 : num ≤ 2199023255552) (hp : p.length ≤ 512) :
    Calls Try.prog 38 #[x.rval A c, .int .i64 kind, .int .i64 num, .string (str p)] w fun e w' => e = .returned (.string (str (pktB x kind num p))) ∧ Below w.heap.size w w' := by
  have hlen : (pktL x.ep x.ot num x.wa p).length ≤ 4096 := by rw [pktL_length]; omega
  have hse : sealE (kind : Int) (pktL x.ep x.ot num x.wa p) = 0 := sealE_ok (by omega) (by omega)
  have HS : Hid (∀ W : World, Calls Try.prog 51 #[.int .i64 kind, .string (str (pktL x.ep x.ot num x.wa p))] W fun e w' => e = .returned (.tuple #[.string (str (pktB x kind num p)), .int .i64 0]) ∧ Below W.heap.size W w') := Lib.hid (fun W => by
    have := RefSeal_any kind (str (pktL x.ep x.ot num x.wa p)) W (by rw [str_size]; unfold maxLen; omega)
    rw [str_list, hse, sealB_ok hse] at this
    exact this)
  have HP : Hid (∀ (n : Int), 0 ≤ n → n ≤ 2199023255552 → ∀ W : World, Calls Try.prog 50 #[.int .i64 n, .int .i64 8] W fun e w' => e = .returned (.tuple #[.string (str (enc 8 n.toNat)), .int .i64 0]) ∧ Below W.heap.size W w') := Lib.hid (fun n a b W => by
    obtain ⟨e1, e2⟩ := put_eight a b
    have := RefPut_any n 8 W (by omega)
    rwa [e1, e2] at this)
  obtain ⟨e1, e2, o1, o2, w1, w2⟩ := hx
  have HP0 := Lib.hid (HP.out x.ep (by omega) (by omega))
  have HP1 := Lib.hid (HP.out x.ot (by omega) (by omega))
  have HP2 := Lib.hid (HP.out num (by omega) (by omega))
  have HP3 := Lib.hid (HP.out x.wa (by omega) (by omega))
  have HE : Hid (str (enc 8 x.ep.toNat) ++ str (enc 8 x.ot.toNat) ++ str (enc 8 num.toNat) ++ str (enc 8 x.wa.toNat) ++ str p = str (pktL x.ep x.ot num x.wa p)) := Lib.hid (by
    rw [str_cat, str_cat, str_cat, str_cat]; unfold pktL; simp only [List.append_assoc])
  have l0 := enc_length 8 x.ep.toNat
  have l1 := enc_length 8 x.ot.toNat
  have l2 := enc_length 8 num.toNat
  have l3 := enc_length 8 x.wa.toNat
  generalize pktB x kind num p = R at *
  generalize pktL x.ep x.ot num x.wa p = PL at *
  obtain ⟨ep, ot, fi, wa, out⟩ := x
  unfold LEnd.rval
  simp only at HP0 HP1 HP2 HP3 HE l0 l1 l2 l3 ⊢
  clear e1 e2 o1 o2 w1 w2 h0 h1 hse hlen HP
  generalize enc 8 ep.toNat = E0 at *
  generalize enc 8 ot.toNat = E1 at *
  generalize enc 8 num.toNat = E2 at *
  generalize enc 8 wa.toNat = E3 at *
  have z1 : ¬ 9223372036854775807 < (str E0).size + (str E1).size := by rw [str_size, str_size]; omega
  have z2 : ¬ 9223372036854775807 < (str E0 ++ str E1).size + (str E2).size := by rw [str_cat, str_size, str_size, List.length_append]; omega
  have z3 : ¬ 9223372036854775807 < (str E0 ++ str E1 ++ str E2).size + (str E3).size := by rw [str_cat, str_cat, str_size, str_size, List.length_append, List.length_append]; omega
  have z4 : ¬ 9223372036854775807 < (str E0 ++ str E1 ++ str E2 ++ str E3).size + (str p).size := by rw [str_cat, str_cat, str_cat, str_size, str_size, List.length_append, List.length_append, List.length_append]; omega
  clear l0 l1 l2 l3 hp
  generalize out.length = n at *
  have HF := Lib.hid (Five.new w (.int .i64 ep) (.int .i64 ot) (.int .i64 fi) (.int .i64 wa) (.slice A n c) 33)
  have HB := Lib.hid (below_one w (.cells #[.int .i64 ep, .int .i64 ot, .int .i64 fi, .int .i64 wa, .slice A n c] 33))
  go_enter Try.func38, Try.ntmps38
  go_wp2_with fail
  refine (HP0.out _).mono ?_
  rintro e wa1 ⟨rfl, hb1⟩
  replace HF := Lib.hid (HF.out.below hb1)
  replace HB := Lib.hid (below_next HB.out hb1)
  have x1 := HF.out.c1
  clear hb1
  go_wp2_with fail
  refine (HP1.out _).mono ?_
  rintro e wa2 ⟨rfl, hb2⟩
  replace HF := Lib.hid (HF.out.below hb2)
  replace HB := Lib.hid (below_next HB.out hb2)
  clear hb2 x1
  go_wp2_with fail
  refine (HP2.out _).mono ?_
  rintro e wa3 ⟨rfl, hb3⟩
  replace HF := Lib.hid (HF.out.below hb3)
  replace HB := Lib.hid (below_next HB.out hb3)
  have x3 := HF.out.c3
  clear hb3
  go_wp2_with fail
  refine (HP3.out _).mono ?_
  rintro e wa4 ⟨rfl, hb4⟩
  replace HB := Lib.hid (below_next HB.out hb4)
  clear hb4 x3
  go_wp2_with fail
  rw [HE.out]
  refine (HS.out _).mono ?_
  rintro e wa5 ⟨rfl, hb5⟩
  go_wp2
  go_ret
  exact ⟨rfl, below_next HB.out hb5⟩
end Go.Proofs.Ytdhmkcomngbmaaa
