/- The contract of (*ends).comes, a packet to end 0. -/
import Derived.Test.YtdhmkcomngbmaaaLinkCo
namespace Go.Proofs.Ytdhmkcomngbmaaa
open Go.RowKit

set_option maxHeartbeats 4000000 in
set_option maxRecDepth 100000 in
theorem comes_any0 {B H : Nat} {w : World} {l : Line} {m : LnM} (h : LnAt B H w l m) (hl : l.net.length ≤ 1000) (hp : (l.st 0).came.length ≤ 1000) (hx : (l.st 0).x.Ok) (hB : B ≤ w.heap.size) (s : List UInt8) (hs : s.length ≤ 10000) (bad : Bool) :
    Calls Try.prog 28 #[.pointer (some ⟨H, 0, none⟩), .agg #[.int .i64 0, .string (str s), .bool bad]] w (LnEnd B H (l.comes ⟨0, s, bad⟩) w) := by
  have HL := Lib.hid h
  have hHlt := h.lt
  obtain ⟨o1, o2, o3⟩ := h.out 0 (by omega)
  obtain ⟨x, hxx⟩ : ∃ x, (l.st 0).x = x := ⟨_, rfl⟩
  rw [hxx] at hx o1 o3
  obtain ⟨y, hy⟩ : ∃ y, (takeX x s).1 = y := ⟨_, rfl⟩
  obtain ⟨k, hk⟩ : ∃ k, (takeX x s).2 = k := ⟨_, rfl⟩
  have HE : Hid (l.comes ⟨0, s, bad⟩ = Line.send ⟨setS l.st 0 ⟨y, (l.st 0).put, if k.has = true then (l.st 0).came ++ [k.piece] else (l.st 0).came⟩, l.net⟩ ⟨1 - 0, k.reply, false⟩) := Lib.hid (by unfold Line.comes Site.took; dsimp only; rw [hxx, hy, hk])
  have HXX := Lib.hid hxx
  have HY := Lib.hid hy
  have HK := Lib.hid hk
  clear hxx hy hk
  obtain ⟨A, hA⟩ : ∃ A, m.A 0 = A := ⟨_, rfl⟩
  obtain ⟨c, hc⟩ : ∃ c, m.c 0 = c := ⟨_, rfl⟩
  rw [hA] at o1 o2
  rw [hc] at o2 o3
  have HO1 := Lib.hid o1
  have HO2 := Lib.hid o2
  have HO3 := Lib.hid o3
  have HXO := Lib.hid hx
  have HA := Lib.hid hA
  have HC := Lib.hid hc
  clear o1 o2 o3 hx h hA hc
  go_enter Try.func28, Try.ntmps28
  go_upto_region 1 with fail
  obtain ⟨V, hV⟩ : ∃ V, V = w.alloc (.cells #[.int .i64 0, .string (str s), .bool bad] 65) := ⟨_, rfl⟩
  have hbV := below_one w (.cells #[.int .i64 0, .string (str s), .bool bad] 65)
  have hP := heap_new w (.cells #[.int .i64 0, .string (str s), .bool bad] 65 (0, 0))
  rw [← hV] at hbV hP ⊢
  have HBV := Lib.hid hbV
  have HPb := Lib.hid hP
  have hVs : V.heap.size = w.heap.size + 1 := by rw [hV]; simp
  clear hbV hP hV
  have HLV := Lib.hid (HL.out.later HBV.out)
  have HX : Hid (∀ W, Below V.heap.size V W → W.cell? ⟨w.heap.size, 0, none⟩ = some (.int .i64 0) ∧ W.cell? ⟨w.heap.size, 1, none⟩ = some (.string (str s)) ∧ W.cell? ⟨H, 0, none⟩ = some (.int .i64 x.ep) ∧ W.cell? ⟨H, 1, none⟩ = some (.int .i64 x.ot) ∧ W.cell? ⟨H, 2, none⟩ = some (.int .i64 x.fi) ∧ W.cell? ⟨H, 3, none⟩ = some (.slice A x.out.length c) ∧ W.cell? ⟨H, 4, none⟩ = some (.int .i64 x.wa)) := Lib.hid (fun W hb => by
    have h0 := Lib.cell_of_heap ((hb.block w.heap.size (by omega)).trans HPb.out)
    have hc := fun j => (HLV.out.later hb).cell j
    rw [← HXX.out, ← HA.out, ← HC.out]
    exact ⟨h0 0, h0 1, hc 0, hc 1, hc 2, hc 3, hc 4⟩)
  have HPf : Hid (∀ W, Below V.heap.size V W → Calls Try.prog 21 #[x.val A c, .string (str s)] W (TakeEndS A (y, k) W)) := Lib.hid (fun W hb => by rw [← show takeX x s = (y, k) from Prod.ext HY.out HK.out]; exact LTake_anyS x A c s W ((HO1.out.next HBV.out).next hb) HO2.out HO3.out HXO.out (by omega))
  have hbd : Below V.heap.size V V.drew := (Below.refl _ _).drew
  have hbE := hbd.alloc (Nat.le_refl _) (.cells #[.int .i64 0, .int .i64 0, .int .i64 0, .slice none 0 0, .int .i64 0] 24)
  have hbC := hbd.alloc (Nat.le_refl _) (.cells #[.string ⟨#[]⟩, .bool false, .string ⟨#[]⟩, .bool false] 42)
  have hbEC := hbE.alloc hbE.size (.cells #[.string ⟨#[]⟩, .bool false, .string ⟨#[]⟩, .bool false] 42)
  have hbCE := hbC.alloc hbC.size (.cells #[.int .i64 0, .int .i64 0, .int .i64 0, .slice none 0 0, .int .i64 0] 24)
  rw [alloc_drew] at hbE hbC
  rw [alloc_drew, alloc_drew] at hbEC hbCE
  have HBd := Lib.hid hbd
  have HBE := Lib.hid hbE
  have HBC := Lib.hid hbC
  have HBEC := Lib.hid hbEC
  have HBCE := Lib.hid hbCE
  have HPd := Lib.hid (HPf.out _ hbd)
  have HPE := Lib.hid (HPf.out _ hbE)
  have HPC := Lib.hid (HPf.out _ hbC)
  have HPEC := Lib.hid (HPf.out _ hbEC)
  have HPCE := Lib.hid (HPf.out _ hbCE)
  clear hbd hbE hbC hbEC hbCE
  unfold LEnd.val at HPd HPE HPC HPEC HPCE
  have HVs := Lib.hid hVs
  clear hVs
  have hd0 := HX.out _ HBd.out
  have hAV : ∀ a, A = some a → a.block < V.heap.size := fun a ha => by have := HL.out.ins 0 (by omega) a (HA.out.trans ha); have := HBV.out.size; omega
  have HAV := Lib.hid hAV
  clear hAV
  go_cut [4, 5] from 4 to 18 (fun v4 v5 wx => Hid (∃ (A9 : Option Addr) (c9 K4 K5 : Nat), v4 = .pointer (some ⟨K4, 0, none⟩) ∧ v5 = .pointer (some ⟨K5, 0, none⟩) ∧ CoAt A V wx y k A9 c9 K4 K5))
  case first =>
   go_region_held3 (fun w' => w'.cell? ⟨w.heap.size, 0, none⟩ = some (.int .i64 0) ∧ w'.cell? ⟨w.heap.size, 1, none⟩ = some (.string (str s)) ∧ w'.cell? ⟨H, 0, none⟩ = some (.int .i64 x.ep) ∧ w'.cell? ⟨H, 1, none⟩ = some (.int .i64 x.ot) ∧ w'.cell? ⟨H, 2, none⟩ = some (.int .i64 x.fi) ∧ w'.cell? ⟨H, 3, none⟩ = some (.slice A x.out.length c) ∧ w'.cell? ⟨H, 4, none⟩ = some (.int .i64 x.wa)) (first | with_reducible exact hd0 | with_reducible exact HX.out _ HB9.out | with_reducible exact HX.out _ HBE.out | with_reducible exact HX.out _ HBC.out | with_reducible exact HX.out _ HBEC.out | with_reducible exact HX.out _ HBCE.out | with_reducible exact HX.out _ (HK1.out _) | with_reducible exact HX.out _ (HK2.out _ _) | with_reducible exact HX.out _ (HK2.out _) | with_reducible exact HX.out _ HK3.out | with_reducible exact HX.out _ HK4.out) (first
    | (go_at_call 21; (first
      | ((with_reducible refine HPd.out.mono ?_); rintro e w9 ⟨A9, c9, rfl, hs9, hn9, hc9, hb9, hsr9⟩; dsimp only at hs9 hc9; dsimp only [LEnd.val, CameL.val]; have HS9 := Lib.hid hs9; have HN9 := Lib.hid hn9; have HC9 := Lib.hid hc9; have HR9 := Lib.hid hsr9; have HB9 := Lib.hid (HBd.out.trans (hb9.mono HBd.out.size)); have HK1 := Lib.hid (fun o => HB9.out.alloc HB9.out.size o); have HK2 := Lib.hid (fun o o' => (HK1.out o).alloc (HK1.out o).size o'); clear hs9 hn9 hc9 hb9 hsr9)
      | ((with_reducible refine HPE.out.mono ?_); rintro e w9 ⟨A9, c9, rfl, hs9, hn9, hc9, hb9, hsr9⟩; dsimp only at hs9 hc9; dsimp only [LEnd.val, CameL.val]; have HS9 := Lib.hid hs9; have HN9 := Lib.hid hn9; have HC9 := Lib.hid hc9; have HR9 := Lib.hid hsr9; have HB9 := Lib.hid (HBE.out.trans (hb9.mono HBE.out.size)); have HF9 := Lib.hid ((Five.new V (.int .i64 0) (.int .i64 0) (.int .i64 0) (.slice none 0 0) (.int .i64 0) 24).drew.below hb9); have f0 := HF9.out.c0; have f1 := HF9.out.c1; have f2 := HF9.out.c2; have f3 := HF9.out.c3; have f4 := HF9.out.c4; have ff := HF9.out.fr; have hz1 : V.heap.size < w9.heap.size := heap_lt HF9.out.blk; have hz2 : V.heap.size ≠ w9.heap.size := Nat.ne_of_lt hz1; have HK1 := Lib.hid (fun o => HB9.out.alloc HB9.out.size o); have HK3 := Lib.hid (below_five HB9.out (Nat.le_refl V.heap.size) (.int .i64 y.ep) (.int .i64 y.ot) (.int .i64 y.fi) (.slice A9 y.out.length c9) (.int .i64 y.wa)); have HK2 := Lib.hid (fun o => HK3.out.alloc HK3.out.size o); unfold fiveSet at HK2 HK3; clear hs9 hn9 hc9 hb9 hsr9)
      | ((with_reducible refine HPC.out.mono ?_); rintro e w9 ⟨A9, c9, rfl, hs9, hn9, hc9, hb9, hsr9⟩; dsimp only at hs9 hc9; dsimp only [LEnd.val, CameL.val]; have HS9 := Lib.hid hs9; have HN9 := Lib.hid hn9; have HC9 := Lib.hid hc9; have HR9 := Lib.hid hsr9; have HB9 := Lib.hid (HBC.out.trans (hb9.mono HBC.out.size)); have HQ9 := Lib.hid ((Quad.new V (.string ⟨#[]⟩) (.bool false) (.string ⟨#[]⟩) (.bool false) 42).drew.below hb9); have q0 := HQ9.out.c0; have q1 := HQ9.out.c1; have q2 := HQ9.out.c2; have q3 := HQ9.out.c3; have qf := HQ9.out.fr; have hz1 : V.heap.size < w9.heap.size := heap_lt HQ9.out.blk; have hz2 : V.heap.size ≠ w9.heap.size := Nat.ne_of_lt hz1; have HK1 := Lib.hid (fun o => HB9.out.alloc HB9.out.size o); have HK3 := Lib.hid (below_quad HB9.out (Nat.le_refl V.heap.size) (.string (str k.piece)) (.bool k.has) (.string (str k.reply)) (.bool k.anew)); have HK2 := Lib.hid (fun o => HK3.out.alloc HK3.out.size o); unfold quadSet at HK2 HK3; clear hs9 hn9 hc9 hb9 hsr9)
      | ((with_reducible refine HPEC.out.mono ?_); rintro e w9 ⟨A9, c9, rfl, hs9, hn9, hc9, hb9, hsr9⟩; dsimp only at hs9 hc9; dsimp only [LEnd.val, CameL.val]; have HS9 := Lib.hid hs9; have HN9 := Lib.hid hn9; have HC9 := Lib.hid hc9; have HR9 := Lib.hid hsr9; have HB9 := Lib.hid (HBEC.out.trans (hb9.mono HBEC.out.size)); have HF9 := Lib.hid (((Five.new V (.int .i64 0) (.int .i64 0) (.int .i64 0) (.slice none 0 0) (.int .i64 0) 24).below (below_one _ _)).drew.below hb9); have f0 := HF9.out.c0; have f1 := HF9.out.c1; have f2 := HF9.out.c2; have f3 := HF9.out.c3; have f4 := HF9.out.c4; have ff := HF9.out.fr; have HQ9 := Lib.hid ((quad_new1 V (.int .i64 0) (.int .i64 0) (.int .i64 0) (.slice none 0 0) (.int .i64 0) (.string ⟨#[]⟩) (.bool false) (.string ⟨#[]⟩) (.bool false) 42).drew.below hb9); have q0 := HQ9.out.c0; have q1 := HQ9.out.c1; have q2 := HQ9.out.c2; have q3 := HQ9.out.c3; have qf := HQ9.out.fr; have hz1 : V.heap.size < w9.heap.size := heap_lt HF9.out.blk; have hz2 : V.heap.size + 1 < w9.heap.size := heap_lt HQ9.out.blk; have HK3 := Lib.hid (below_five HB9.out (Nat.le_refl V.heap.size) (.int .i64 y.ep) (.int .i64 y.ot) (.int .i64 y.fi) (.slice A9 y.out.length c9) (.int .i64 y.wa)); have HK4 := Lib.hid (below_quad HK3.out (Nat.le_succ V.heap.size) (.string (str k.piece)) (.bool k.has) (.string (str k.reply)) (.bool k.anew)); unfold quadSet fiveSet at HK4; unfold fiveSet at HK3; clear hs9 hn9 hc9 hb9 hsr9)
      | ((with_reducible refine HPCE.out.mono ?_); rintro e w9 ⟨A9, c9, rfl, hs9, hn9, hc9, hb9, hsr9⟩; dsimp only at hs9 hc9; dsimp only [LEnd.val, CameL.val]; have HS9 := Lib.hid hs9; have HN9 := Lib.hid hn9; have HC9 := Lib.hid hc9; have HR9 := Lib.hid hsr9; have HB9 := Lib.hid (HBCE.out.trans (hb9.mono HBCE.out.size)); have HQ9 := Lib.hid (((Quad.new V (.string ⟨#[]⟩) (.bool false) (.string ⟨#[]⟩) (.bool false) 42).below (below_one _ _)).drew.below hb9); have q0 := HQ9.out.c0; have q1 := HQ9.out.c1; have q2 := HQ9.out.c2; have q3 := HQ9.out.c3; have qf := HQ9.out.fr; have HF9 := Lib.hid ((five_new1 V (.string ⟨#[]⟩) (.bool false) (.string ⟨#[]⟩) (.bool false) (.int .i64 0) (.int .i64 0) (.int .i64 0) (.slice none 0 0) (.int .i64 0) 24).drew.below hb9); have f0 := HF9.out.c0; have f1 := HF9.out.c1; have f2 := HF9.out.c2; have f3 := HF9.out.c3; have f4 := HF9.out.c4; have ff := HF9.out.fr; have hz1 : V.heap.size < w9.heap.size := heap_lt HQ9.out.blk; have hz2 : V.heap.size + 1 < w9.heap.size := heap_lt HF9.out.blk; have HK3 := Lib.hid (below_five HB9.out (Nat.le_succ V.heap.size) (.int .i64 y.ep) (.int .i64 y.ot) (.int .i64 y.fi) (.slice A9 y.out.length c9) (.int .i64 y.wa)); have HK4 := Lib.hid (below_quad HK3.out (Nat.le_refl V.heap.size) (.string (str k.piece)) (.bool k.has) (.string (str k.reply)) (.bool k.anew)); unfold quadSet fiveSet at HK4; unfold fiveSet at HK3; clear hs9 hn9 hc9 hb9 hsr9))))
   all_goals
    have HCC := Lib.hid (CoCall.mk_ (V := V) HS9.out HN9.out HC9.out HB9.out HR9.out HAV.out)
    go_wp2_with fail
    first
    | (have HW := Lib.hid (HCC.out.w1 (k := k)); go_meet; case rel => (with_reducible exact Lib.hid ⟨_, _, _, _, rfl, rfl, HW.out⟩))
    | (have HW := Lib.hid (HCC.out.w2 (k := k)); go_meet; case rel => (with_reducible exact Lib.hid ⟨_, _, _, _, rfl, rfl, HW.out⟩))
    | (have HW := Lib.hid (HCC.out.w3 (k := k) HF9.out); unfold fiveSet at HW; go_meet; case rel => (with_reducible exact Lib.hid ⟨_, _, _, _, rfl, rfl, HW.out⟩))
    | (have HW := Lib.hid (HCC.out.w4 (k := k) HF9.out HQ9.out); unfold quadSet fiveSet at HW; go_meet; case rel => (with_reducible exact Lib.hid ⟨_, _, _, _, rfl, rfl, HW.out⟩))
    | (have HW := Lib.hid (HCC.out.w5 (k := k) HQ9.out); unfold quadSet at HW; go_meet; case rel => (with_reducible exact Lib.hid ⟨_, _, _, _, rfl, rfl, HW.out⟩))
    | (have HW := Lib.hid (HCC.out.w6 (k := k) HF9.out HQ9.out); unfold quadSet fiveSet at HW; go_meet; case rel => (with_reducible exact Lib.hid ⟨_, _, _, _, rfl, rfl, HW.out⟩))
    | fail
  case rest =>
  clear hd0 HPd HPE HPC HPEC HPCE HBd HBE HBC HBEC HBCE HPf
  obtain ⟨A9, c9, K4, K5, rfl, rfl, hco⟩ := hcut.out
  have HCo := Lib.hid hco
  obtain ⟨p0, p1, x0, x1, x2, x3, x4⟩ := HX.out _ hco.bel
  have e0 := hco.e.c0
  have e1 := hco.e.c1
  have e2 := hco.e.c2
  have e3 := hco.e.c3
  have e4 := hco.e.c4
  have xf := fun j => (HLV.out.later hco.bel).fr j
  clear hcut hco
  go_wp2_with fail
  go_region
  clear p0 p1 x0 x1 x2 x3 x4 e0 e1 e2 e3 e4 xf
  have hbc := HBV.out.trans (HCo.out.bel.mono HBV.out.size)
  have hK4 : K4 ≠ H := by have := HCo.out.k4; have := HVs.out; omega
  have hK5 : K5 ≠ H := by have := HCo.out.k5; have := HVs.out; omega
  have hsr := HCo.out.sr
  have HL1 := Lib.hid (((HL.out.later hbc).setEnd (i := 0) (by omega) y A9 c9 (HCo.out.st.more HCo.out.bel.size) HCo.out.nn HCo.out.cc (fun a ha => by
    rcases hsr (a.block + 1) a ha with h | ⟨a', e1, e2⟩
    · omega
    · have := HL.out.ins 0 (by omega) a' (HA.out.trans e1); have := hbc.size; omega) (fun j g a hj e1 e2 => by
    rcases hsr (a.block + 1) a e2 with h | ⟨a', e3, e4⟩
    · omega
    · rw [← e4]; exact HL.out.off j 0 hj (by omega) g a' e1 (HA.out.trans e3)) 0 1 2 3 4 ⟨rfl, rfl, rfl, rfl, rfl⟩).later (Below.refl _ _).drew)
  have HB2 := Lib.hid ((below_endSet (hbc.mono (Nat.le_of_lt hHlt)) (Nat.le_refl H) 0 1 2 3 4 y A9 c9).drew)
  have hBX : B ≤ (endSet wc H 0 1 2 3 4 y A9 c9).drew.heap.size := by rw [drew_size, endSet_size]; have := hbc.size; omega
  have HQ1 := Lib.hid (HCo.out.c.endSet hK5 0 1 2 3 4 y A9 c9)
  have HP1 := Lib.hid ((heap_endSet_far wc (show w.heap.size ≠ H by omega) 0 1 2 3 4 y A9 c9).trans ((HCo.out.bel.block w.heap.size (by have := HVs.out; omega)).trans HPb.out))
  unfold endSet at HL1 HB2 hBX HQ1 HP1
  generalize hX : ((((wc.setCell ⟨H, 0, none⟩ (.int .i64 y.ep)).setCell ⟨H, 1, none⟩ (.int .i64 y.ot)).setCell ⟨H, 2, none⟩ (.int .i64 y.fi)).setCell ⟨H, 3, none⟩ (.slice A9 y.out.length c9)).setCell ⟨H, 4, none⟩ (.int .i64 y.wa) = X at HL1 HB2 hBX HQ1 HP1 ⊢
  have HK5 : Hid (w.heap.size < K5) := Lib.hid (by have := HCo.out.k5; have := HVs.out; omega)
  clear hX hbc hK4 hsr HCo
  have p0 : X.drew.cell? ⟨w.heap.size, 0, none⟩ = some (.int .i64 0) := Lib.cell_of_heap HP1.out 0
  have k0 : X.drew.cell? ⟨K5, 0, none⟩ = some (.string (str k.piece)) := HQ1.out.c0
  have k1 : X.drew.cell? ⟨K5, 1, none⟩ = some (.bool k.has) := HQ1.out.c1
  have k2 : X.drew.cell? ⟨K5, 2, none⟩ = some (.string (str k.reply)) := HQ1.out.c2
  cases hh : k.has with
  | false =>
    rw [hh] at k1
    have hsd := send_any HL1.out hl hBX ⟨1 - 0, k.reply, false⟩
    dsimp only at hsd
    rw [show (((1 - 0 : Nat)) : Int) = 1 from by decide] at hsd
    have HSd := Lib.hid hsd
    have HE2 : Hid (l.comes ⟨0, s, bad⟩ = Line.send ⟨setS l.st 0 ⟨y, (l.st 0).put, (l.st 0).came⟩, l.net⟩ ⟨1 - 0, k.reply, false⟩) := Lib.hid (by rw [HE.out, hh]; rfl)
    clear hsd
    go_wp2_with (go_at_call 27; (with_reducible refine HSd.out.mono ?_); rintro e W7 ⟨rfl, hL7, hB7⟩)
    go_end0
    exact ⟨rfl, by rw [HE2.out]; exact hL7, HB2.out.trans hB7⟩
  | true =>
    rw [hh] at k1
    have HE2 : Hid (l.comes ⟨0, s, bad⟩ = Line.send ⟨setS l.st 0 ⟨y, (l.st 0).put, (l.st 0).came ++ [k.piece]⟩, l.net⟩ ⟨1 - 0, k.reply, false⟩) := Lib.hid (by rw [HE.out, hh]; rfl)
    go_wp2_with fail
    have HQ2 : Hid (qd k X.drew K5) := Lib.hid ⟨HQ1.out.blk⟩
    have HP2 : Hid (X.drew.heap[w.heap.size]? = some (.cells #[.int .i64 0, .string (str s), .bool bad] 65 (0, 0))) := Lib.hid HP1.out
    clear HQ1 HP1 p0 k0 k1 k2
    generalize X.drew = Y at HL1 HB2 hBX HQ2 HP2 ⊢
    obtain ⟨A0, c0, hv⟩ := own_form15Q (HL1.out.came 0 (by omega))
    have hv' : m.v 3 = .slice A0 (setS l.st 0 ⟨y, (l.st 0).put, (l.st 0).came⟩ 0).came.length c0 := hv
    rw [setS_at] at hv'
    have hOw := HL1.out.came 0 (by omega)
    rw [show (⟨updN m.A 0 A9, updN m.c 0 c9, m.v⟩ : LnM).v (3 + 0) = m.v 3 from rfl, hv'] at hOw
    dsimp only at hOw
    rw [setS_at] at hOw
    have HOd := Lib.hid (own_drew hOw)
    have hHY := HL1.out.lt
    have HMv := Lib.hid hv'
    have hRw : ∀ q, (Value.slice A0 ((l.st 0).came.length) c0).ownBlock = some q → q < w.heap.size := fun q e => (HL.out.row_lt (k := 3) (by omega) (by rw [hv']; exact e)).2
    clear hOw hv hv'
    dsimp only at HOd HMv
    obtain ⟨np, hnp⟩ : ∃ np, (l.st 0).came.length = np := ⟨_, rfl⟩
    rw [hnp] at HOd hp HMv hRw
    have HNp := Lib.hid hnp
    have HNw : Hid (∀ q, (Value.slice A0 np c0).ownBlock = some q → q < w.heap.size) := Lib.hid hRw
    clear hnp hRw
    obtain ⟨i0, hi0, hz0, hz1, hz2⟩ := info_parts Try.infoStr
    have hfit : np + 1 ≤ maxLen := by unfold maxLen; omega
    have hfit2 : (np + 1) * 16 ≤ 140737488355328 := by omega
    have HBd := Lib.hid ((Below.refl Y.heap.size Y).drew)
    have HBa := Lib.hid ((Below.refl Y.heap.size Y).drew.alloc (Nat.le_refl _) (.cells #[.string (str k.piece)] 9))
    have HLd := Lib.hid (HL1.out.later HBa.out)
    obtain ⟨M, hM⟩ : ∃ M : LnM, (⟨updN m.A 0 A9, updN m.c 0 c9, m.v⟩ : LnM) = M := ⟨_, rfl⟩
    have hMv : M.v 3 = .slice A0 np c0 := by rw [← hM]; exact HMv.out
    have HMV := Lib.hid hMv
    rw [hM] at HL1 HLd
    clear hM hMv HMv
    obtain ⟨L, hL⟩ : ∃ L : Line, (⟨setS l.st 0 ⟨y, (l.st 0).put, (l.st 0).came⟩, l.net⟩ : Line) = L := ⟨_, rfl⟩
    rw [hL] at HL1 HLd
    have HLL := Lib.hid hL
    clear hL
    have HRl := Lib.hid (fun q (e : (Value.slice A0 np c0).ownBlock = some q) => (HLd.out.row_lt (k := 3) (by omega) (by rw [HMV.out]; exact e)))
    have HS : Hid (∀ W6 : World, W6.heap[H]? = some (.cells (lnCells L M) 61 (0, 0)) → W6.heap[w.heap.size]? = some (.cells #[.int .i64 0, .string (str s), .bool bad] 65 (0, 0)) → qd k W6 K5 →
      W6.cell? ⟨w.heap.size, 0, none⟩ = some (.int .i64 0) ∧ W6.cell? ⟨H, 13, none⟩ = some (.slice A0 np c0) ∧ W6.cell? ⟨K5, 0, none⟩ = some (.string (str k.piece))) := Lib.hid (fun W6 h1 h2 h3 => ⟨Lib.cell_of_heap h2 0, by rw [Lib.cell_of_heap h1, ← HMV.out]; rfl, h3.c0⟩)
    have hwY := heap_lt HP2.out
    have hKY := heap_lt HQ2.out.blk
    have HSd := Lib.hid (HS.out _ HL1.out.blk HP2.out HQ2.out)
    have hsd0 := HS.out Y.drew HL1.out.blk HP2.out ⟨HQ2.out.blk⟩
    have HSa := Lib.hid (HS.out _ HLd.out.blk ((HBa.out.block _ hwY).trans HP2.out) ⟨(HBa.out.block _ hKY).trans HQ2.out.blk⟩)
    rw [alloc_drew] at HSa
    have HFin : Hid (∀ (g cap : Nat) (w6 : World), w6.ownsRow B 9 1 (.slice (some ⟨g, 0, none⟩) (np + 1) cap) (np + 1) ((l.st 0).came.map txt ++ [.string (str k.piece)]) → (Y.alloc (.cells #[.string (str k.piece)] 9)).drew.grownBy w6 (Value.slice A0 np c0).ownBlock → ((Value.slice A0 np c0).ownBlock = some g ∨ g = Y.heap.size + 1) → qd k w6 K5 → w6.heap[w.heap.size]? = some (.cells #[.int .i64 0, .string (str s), .bool bad] 65 (0, 0)) →
      Hid ((∃ m', LnAt B H (w6.setCell ⟨H, 13, none⟩ (.slice (some ⟨g, 0, none⟩) (np + 1) cap)) ⟨setS l.st 0 ⟨y, (l.st 0).put, (l.st 0).came ++ [k.piece]⟩, l.net⟩ m') ∧ Below H w (w6.setCell ⟨H, 13, none⟩ (.slice (some ⟨g, 0, none⟩) (np + 1) cap)) ∧ (w6.setCell ⟨H, 13, none⟩ (.slice (some ⟨g, 0, none⟩) (np + 1) cap)).heap[w.heap.size]? = some (.cells #[.int .i64 0, .string (str s), .bool bad] 65 (0, 0)) ∧ qd k (w6.setCell ⟨H, 13, none⟩ (.slice (some ⟨g, 0, none⟩) (np + 1) cap)) K5)) := Lib.hid (fun g cap w6 ho hg0 hat hq6 hp6 => Lib.hid (by
      have hg : (Y.drew.alloc (.cells #[.string (str k.piece)] 9)).grownBy w6 (Value.slice A0 np c0).ownBlock := hg0
      have h6 := HLd.out
      rw [← HLL.out] at h6
      have hb6 : Below H w w6 := (HB2.out.drew.alloc (Nat.le_of_lt hHY) _).grown hg (by simp; omega) (fun q hq => by have := (HRl.out q hq).1; have := HLd.out.lo; omega)
      refine ⟨⟨_, h6.came_ (i := 0) (k := 13) (w' := w6) (u := .slice (some ⟨g, 0, none⟩) (np + 1) cap) (by omega) k.piece (by show World.grownBy _ w6 (M.v 3).ownBlock; rw [HMV.out]; exact hg) (fun q hq => by
        show (M.v 3).ownBlock = some q ∨ _
        rw [HMV.out]
        have hq' : g = q := by simpa [Value.ownBlock] using hq
        subst hq'
        rcases hat with e | e
        · exact .inl e
        · right; rw [e]; simp) (by rw [HNp.out]) rfl ho rfl⟩, hb6.setCell (p := ⟨H, 13, none⟩) (Nat.le_refl _) _, (Below.heap_setCell _ _ _ _ (by show w.heap.size ≠ H; omega)).trans hp6, ⟨(Below.heap_setCell _ _ _ _ (by show K5 ≠ H; exact hK5)).trans hq6.blk⟩⟩))
    obtain ⟨pc, rc, kc⟩ := hsd0
    obtain ⟨pa, ra, ka⟩ := HSa.out
    have hcell6 := HL1.out.fr 13
    clear HSd
    go_cut [28] from 28 to 44 (fun v28 wx => Hid ((∃ m', LnAt B H wx ⟨setS l.st 0 ⟨y, (l.st 0).put, (l.st 0).came ++ [k.piece]⟩, l.net⟩ m') ∧ Below H w wx ∧ wx.heap[w.heap.size]? = some (.cells #[.int .i64 0, .string (str s), .bool bad] 65 (0, 0)) ∧ qd k wx K5))
    case first =>
     go_region_law (refine step_append_lies _ (by rfl) (.tmp 37) (.tmp 40) 22 (by rfl) B 9 i0 (.string ⟨#[]⟩) 1 16 Try.underlying22 hi0 hz0 hz1 hz2 rfl (by decide) (.slice A0 np c0) np ((l.st 0).came.map txt) (by rfl) (HOd.out.alloc _) ⟨Y.heap.size, 0, none⟩ 1 1 [.string (str k.piece)] (by rfl) (by rfl) (cell_one15 _ _ _) (by simp [Value.oneCell']) (by omega) hfit hfit2 (by simp; omega) (Y.heap.size + 1) (by simp) ?_; intro g cap w6 hown hg hat hltg; have HH6 : Hid (w6.heap[H]? = some (.cells (lnCells L M) 61 (0, 0))) := Lib.hid ((hg.block H HLd.out.lt (fun e => by have := (HRl.out H e.symm).1; have := HLd.out.lo; omega)).trans HLd.out.blk); have HOw6 := Lib.hid hown; have HG6 := Lib.hid hg; have HAt6 := Lib.hid hat; have hP6 := (hg.block w.heap.size (by simp; omega) (fun e => Nat.lt_irrefl _ (HNw.out _ e.symm))).trans ((HBa.out.block _ hwY).trans HP2.out); have hQ6 := (hg.block K5 (by simp; omega) (fun e => Nat.lt_irrefl _ (Nat.lt_trans (HNw.out _ e.symm) HK5.out))).trans ((HBa.out.block _ hKY).trans HQ2.out.blk); have HS6 := Lib.hid (HS.out w6 HH6.out hP6 ⟨hQ6⟩); have HP6 := Lib.hid hP6; have HQ6 : Hid (qd k w6 K5) := Lib.hid ⟨hQ6⟩; have xfp := Lib.frozen_of_heap HH6.out 13; clear hown hg hat hltg hP6 hQ6; clear pc rc kc pa ra ka; obtain ⟨pc, rc, kc⟩ := HS6.out)
     all_goals
      go_wp2_with fail
      go_meet
      case rel => (with_reducible exact HFin.out _ _ _ HOw6.out HG6.out HAt6.out HQ6.out HP6.out)
    case rest =>
     clear pc rc kc pa ra ka hcell6
     obtain ⟨⟨m', hL9⟩, hB9, hP9, hQ9⟩ := hcut.out
     have HB9 := Lib.hid hB9
     have hs9 : B ≤ wc.heap.size := by have := hB9.size; omega
     have hsd := send_any hL9 hl hs9 ⟨1 - 0, k.reply, false⟩
     dsimp only at hsd
     rw [show (((1 - 0 : Nat)) : Int) = 1 from by decide] at hsd
     have HSd := Lib.hid hsd
     have p0 : wc.cell? ⟨w.heap.size, 0, none⟩ = some (.int .i64 0) := Lib.cell_of_heap hP9 0
     have k2 := hQ9.c2
     clear hsd hL9 hB9 hP9 hQ9 hcut HFin
     go_wp2_with (go_at_call 27; (with_reducible refine HSd.out.mono ?_); rintro e W7 ⟨rfl, hL7, hB7⟩)
     go_end0
     exact ⟨rfl, by rw [HE2.out]; exact hL7, HB9.out.trans hB7⟩
end Go.Proofs.Ytdhmkcomngbmaaa
