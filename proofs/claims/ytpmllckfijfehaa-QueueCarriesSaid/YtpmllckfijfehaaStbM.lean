/- slices.SortStableFunc's family at writes: the contract of symMergeCmpFunc (two sorted stretches become one), by way of three. -/
import Derived.Test.YtpmllckfijfehaaStbR
namespace Go.Proofs.Ytpmllckfijfehaa
open Go.Shelf Go.RowKit Go.Lib Go.Sort
variable {P : Program} {α : Type} [Inhabited α]

set_option maxHeartbeats 4000000 in
set_option maxRecDepth 1000000 in
/-- symMergeCmpFunc where the left stretch has one element. -/
theorem symMerge_left (L : StbLays P) (k : Nat) (aE : ∀ w, (isAgg 61).run P w = .ok true w) (zE : ∀ w, (Go.sizeOf 61).run P w = .ok k w) (enc : α → List Value) (cf : α → α → Int) (hS : SWO (ltOf cf)) (g : Nat) (cb : Array Value) (blk off cap : Nat) (d0 : Array α) (w0 : World)
    (eg : ∀ args w, (callFunc g args).run P w = .ok (.enter g args) w) (hcmp : CmpLays P g cb enc k cf blk off d0.size w0) (R : RowK enc k w0 blk off d0)
    (a b : Nat) (d : Array α) (w : World) (hs : d.size = d0.size) (S : SWK enc k w0 blk off d w) (hab : a + 1 < b) (hb : b ≤ d.size) (hsz : d.size ≤ 4000) (so : sortF (ltOf cf) (getF d) (a + 1) b) :
    Calls P 70 #[.slice (some ⟨blk, off, none⟩) d.size cap, .int .i64 a, .int .i64 ((a : Int) + 1), .int .i64 b, .func (.func g) #[] cb] w fun e w' => e = .returned (.tuple #[]) ∧ ∃ d', Merged (ltOf cf) a b d d' ∧ SWK enc k w0 blk off d' w' := by
  have mixed := L.mixed; have t0 := L.t0; have a0 := L.a0; have z0 := L.z0; have v0 := L.v0; have t3 := L.t3; have a3 := L.a3; have z3 := L.z3; have v3 := L.v3; have t4 := L.t4; have a4 := L.a4; have z4 := L.z4; have v4 := L.v4; have t22 := L.t22; have a22 := L.a22; have z22 := L.z22; have v22 := L.v22; have t46 := L.t46; have a46 := L.a46; have z46 := L.z46; have v46 := L.v46; have t80 := L.t80; have a80 := L.a80; have z80 := L.z80; have v80 := L.v80
  have u22 := run_underlying L.t22
  have FG := L.f_sym
  have HC : Aside _ := hcmp
  have S0 : Aside (SWK enc k w0 blk off d w) := S
  have HS8 := Lib.hid hs
  clear S hcmp hs
  have HSo := Lib.hid so
  have HSW := Lib.hid hS
  clear so hS
  have q1 : (a : Int) + 1 - (a : Int) = 1 := by omega
  go_enter FG, Try.ntmps70
  go_wp2
  go_loopg [10, 11] (b - a) (fun kx s10 s11 wr => ∃ i j : Nat, s10 = .int .i64 i ∧ s11 = .int .i64 j ∧ a + 1 ≤ i ∧ i ≤ j ∧ j ≤ b ∧ j - i ≤ kx ∧ Aside (SWK enc k w0 blk off d wr) ∧ Hid ((∀ y, a + 1 ≤ y → y < i → ltOf cf (getF d y) (getF d a) = true) ∧ (∀ y, j ≤ y → y < b → ltOf cf (getF d y) (getF d a) = false)))
  case atStart => exact ⟨a + 1, b, by go_num, rfl, Nat.le_refl _, by omega, Nat.le_refl _, by omega, S0, Lib.hid ⟨fun y h1 h2 => by omega, fun y h1 h2 => by omega⟩⟩
  case round =>
    clear S0
    obtain ⟨i, j, rfl, rfl, hai, hij, hjb, hkx, S1, HI⟩ := hrel
    by_cases hlt : i < j
    · have hltz : (i : Int) < (j : Int) := by omega
      obtain ⟨h, hh⟩ : ∃ h : Nat, (i + j) / 2 = h := ⟨_, rfl⟩
      have hih : i ≤ h := by omega
      have hhj : h < j := by omega
      have hhz : ((i : Int) + (j : Int)) / 2 = (h : Int) := by omega
      clear hh
      go_wp2_with fail
      cases hL : ltOf cf d[h]! d[a]! with
      | true =>
        have ea1 : ((h : Int)).toNat = h := by omega
        have pa1 : (0 : Int) ≤ (h : Int) := by omega
        have ba1 : (h : Int) < (d.size : Int) := by omega
        have ra1 : IntKind.i64.wrap ((h : Int)) = (h : Int) := by rw [IntKind.wrap_i64]; omega
        have ec1 : ((a : Int)).toNat = a := by omega
        have pc1 : (0 : Int) ≤ (a : Int) := by omega
        have bc1 : (a : Int) < (d.size : Int) := by omega
        have rc1 : IntKind.i64.wrap ((a : Int)) = (a : Int) := by rw [IntKind.wrap_i64]; omega
        obtain ⟨x1, hx1⟩ : ∃ x, x = d[h]! := ⟨_, rfl⟩
        obtain ⟨y1, hy1⟩ : ∃ x, x = d[a]! := ⟨_, rfl⟩
        have l1a := S1.out.ld R HS8.out P (h) (by omega)
        have l1b := S1.out.ld R HS8.out P (a) (by omega)
        rw [← hx1] at l1a
        rw [← hy1] at l1b
        have hc1 := S1.out.cmp HC.out HS8.out x1 y1
        have hv1 : cf x1 y1 < 0 := by rw [hx1, hy1]; exact of_decide_eq_true hL
        have hd1 : decide (cf x1 y1 < 0) = true := decide_eq_true hv1
        clear hx1 hy1
        go_wp2_with fail
        go_quiet_grown (first | (go_at_fn g; refine Calls.grown_of (hc1 _ _)))
        have S2 : Aside (SWK enc k w0 blk off d (grow (wr.drewN nq) osq)) := S1.out.grown nq osq
        clear l1a l1b hc1 S1
        generalize grow (wr.drewN nq) osq = w2 at S2 ⊢
        clear nq osq
        go_wp2_with fail
        go_roundg (j - (h + 1))
        case measure => omega
        case rel =>
          have I2 : Hid ((∀ y, a + 1 ≤ y → y < h + 1 → ltOf cf (getF d y) (getF d a) = true) ∧ (∀ y, j ≤ y → y < b → ltOf cf (getF d y) (getF d a) = false)) := Lib.hid ⟨fun y h1 h2 => by
            by_cases c : y = h
            · subst c; exact hL
            · exact SWO.le_lt HSW.out (HSo.out _ _ h1 (by omega) (by omega)) hL, HI.out.2⟩
          exact ⟨h + 1, j, by go_num, rfl, by omega, by omega, hjb, Nat.le_refl _, S2, I2⟩
      | false =>
        have ea1 : ((h : Int)).toNat = h := by omega
        have pa1 : (0 : Int) ≤ (h : Int) := by omega
        have ba1 : (h : Int) < (d.size : Int) := by omega
        have ra1 : IntKind.i64.wrap ((h : Int)) = (h : Int) := by rw [IntKind.wrap_i64]; omega
        have ec1 : ((a : Int)).toNat = a := by omega
        have pc1 : (0 : Int) ≤ (a : Int) := by omega
        have bc1 : (a : Int) < (d.size : Int) := by omega
        have rc1 : IntKind.i64.wrap ((a : Int)) = (a : Int) := by rw [IntKind.wrap_i64]; omega
        obtain ⟨x1, hx1⟩ : ∃ x, x = d[h]! := ⟨_, rfl⟩
        obtain ⟨y1, hy1⟩ : ∃ x, x = d[a]! := ⟨_, rfl⟩
        have l1a := S1.out.ld R HS8.out P (h) (by omega)
        have l1b := S1.out.ld R HS8.out P (a) (by omega)
        rw [← hx1] at l1a
        rw [← hy1] at l1b
        have hc1 := S1.out.cmp HC.out HS8.out x1 y1
        have hv1 : ¬ cf x1 y1 < 0 := by rw [hx1, hy1]; exact of_decide_eq_false hL
        have hd1 : decide (cf x1 y1 < 0) = false := decide_eq_false hv1
        clear hx1 hy1
        go_wp2_with fail
        go_quiet_grown (first | (go_at_fn g; refine Calls.grown_of (hc1 _ _)))
        have S2 : Aside (SWK enc k w0 blk off d (grow (wr.drewN nq) osq)) := S1.out.grown nq osq
        clear l1a l1b hc1 S1
        generalize grow (wr.drewN nq) osq = w2 at S2 ⊢
        clear nq osq
        go_wp2_with fail
        go_roundg (h - i)
        case measure => omega
        case rel =>
          have I2 : Hid ((∀ y, a + 1 ≤ y → y < i → ltOf cf (getF d y) (getF d a) = true) ∧ (∀ y, h ≤ y → y < b → ltOf cf (getF d y) (getF d a) = false)) := Lib.hid ⟨HI.out.1, fun y h1 h2 => by
            by_cases c : y = h
            · subst c; exact hL
            · exact HSW.out.ntrans _ _ _ (HSo.out _ _ (by omega) (by omega) h2) hL⟩
          exact ⟨i, h, rfl, rfl, hai, hih, by omega, Nat.le_refl _, S2, I2⟩
    · have hltz : ¬ (i : Int) < (j : Int) := by omega
      have hji : j = i := by omega
      rw [hji] at HI hjb
      clear hji hij hkx
      go_wp2_with fail
      go_loopg [13] (i - a) (fun kx s13 wr2 => ∃ (t : Nat) (dk : Array α), s13 = .int .i64 t ∧ a ≤ t ∧ t + 1 ≤ i ∧ i - t ≤ kx ∧ dk.size = d.size ∧ Aside (SWK enc k w0 blk off dk wr2) ∧ Hid (getF dk = rotF (getF d) a (a + 1) (t + 1)))
      case atStart => exact ⟨a, d, rfl, Nat.le_refl _, by omega, by omega, rfl, S1, Lib.hid (rotF_end _ _ _).symm⟩
      case round =>
        clear S1
        obtain ⟨t, dk, rfl, hat, hti, hkx, hds, S3, HR⟩ := hrel
        by_cases hlt2 : t + 1 < i
        · have hlt2z : (t : Int) < (i : Int) - 1 := by omega
          have HR2 : Hid (getF (swp dk t (t + 1)) = rotF (getF d) a (a + 1) (t + 2)) := Lib.hid (getF_up hds hat (by omega) HR.out)
          go_wp2_with fail
          have ea2 : ((t : Int)).toNat = t := by omega
          have pa2 : (0 : Int) ≤ (t : Int) := by omega
          have ba2 : (t : Int) < (d.size : Int) := by omega
          have ra2 : IntKind.i64.wrap ((t : Int)) = (t : Int) := by rw [IntKind.wrap_i64]; omega
          have ec2 : ((t : Int) + 1).toNat = t + 1 := by omega
          have pc2 : (0 : Int) ≤ (t : Int) + 1 := by omega
          have bc2 : (t : Int) + 1 < (d.size : Int) := by omega
          have rc2 : IntKind.i64.wrap ((t : Int) + 1) = (t : Int) + 1 := by rw [IntKind.wrap_i64]; omega
          have S4 : Aside (SWK enc k w0 blk off (swp dk (t) (t + 1)) ((wr.drew.setCells blk (off + (t) * k) (enc dk[t + 1]!)).setCells blk (off + (t + 1) * k) (enc dk[t]!))) := S3.out.swapped R (t) (t + 1) (by omega) (by omega)
          have l2a := S3.out.ld1 R (hds.trans HS8.out) P (t) (by omega)
          have l2b := S3.out.ld1 R (hds.trans HS8.out) P (t + 1) (by omega)
          have s2a := S3.out.st1 R (hds.trans HS8.out) P (t) (by omega) dk[t + 1]!
          have s2b := S3.out.st2 R (hds.trans HS8.out) P (t) (t + 1) (by omega) (by omega) dk[t + 1]! dk[t]!
          have n2a : (enc dk[t]!).length = k := R.hk _
          have n2b : (enc dk[t + 1]!).length = k := R.hk _
          generalize enc dk[t]! = cI2 at S4 l2a s2b n2a
          generalize enc dk[t + 1]! = cJ2 at S4 l2b s2a s2b n2b
          clear S3
          go_big_region_o
          clear l2a l2b s2a s2b
          generalize (wr.drew.setCells blk (off + (t) * k) cJ2).setCells blk (off + (t + 1) * k) cI2 = w4 at S4 ⊢
          go_wp2
          go_roundg (i - (t + 1))
          case measure => omega
          case rel => exact ⟨t + 1, swp dk t (t + 1), by go_num, by omega, by omega, Nat.le_refl _, by rw [size_swp]; exact hds, S4, HR2⟩
        · have hlt2z : ¬ (t : Int) < (i : Int) - 1 := by omega
          have hti2 : t + 1 = i := by omega
          go_wp2_with fail
          (try simp only [Exit.inBlock, Exit.then]); refine bodyPost_ret (results_none rfl _ _ _) rfl ?_
          exact ⟨rfl, dk, merged_one_left HSW.out hds (by omega) hai hjb (by rw [HR.out, hti2]) HSo.out HI.out.1 HI.out.2, S3.out⟩

set_option maxHeartbeats 4000000 in
set_option maxRecDepth 1000000 in
/-- symMergeCmpFunc where the right stretch has one element, the left more. -/
theorem symMerge_right (L : StbLays P) (k : Nat) (aE : ∀ w, (isAgg 61).run P w = .ok true w) (zE : ∀ w, (Go.sizeOf 61).run P w = .ok k w) (enc : α → List Value) (cf : α → α → Int) (hS : SWO (ltOf cf)) (g : Nat) (cb : Array Value) (blk off cap : Nat) (d0 : Array α) (w0 : World)
    (eg : ∀ args w, (callFunc g args).run P w = .ok (.enter g args) w) (hcmp : CmpLays P g cb enc k cf blk off d0.size w0) (R : RowK enc k w0 blk off d0)
    (a m : Nat) (d : Array α) (w : World) (hs : d.size = d0.size) (S : SWK enc k w0 blk off d w) (ham : a + 1 < m) (hb : m + 1 ≤ d.size) (hsz : d.size ≤ 4000) (so : sortF (ltOf cf) (getF d) a m) :
    Calls P 70 #[.slice (some ⟨blk, off, none⟩) d.size cap, .int .i64 a, .int .i64 m, .int .i64 ((m : Int) + 1), .func (.func g) #[] cb] w fun e w' => e = .returned (.tuple #[]) ∧ ∃ d', Merged (ltOf cf) a (m + 1) d d' ∧ SWK enc k w0 blk off d' w' := by
  have mixed := L.mixed; have t0 := L.t0; have a0 := L.a0; have z0 := L.z0; have v0 := L.v0; have t3 := L.t3; have a3 := L.a3; have z3 := L.z3; have v3 := L.v3; have t4 := L.t4; have a4 := L.a4; have z4 := L.z4; have v4 := L.v4; have t22 := L.t22; have a22 := L.a22; have z22 := L.z22; have v22 := L.v22; have t46 := L.t46; have a46 := L.a46; have z46 := L.z46; have v46 := L.v46; have t80 := L.t80; have a80 := L.a80; have z80 := L.z80; have v80 := L.v80
  have u22 := run_underlying L.t22
  have FG := L.f_sym
  have HC : Aside _ := hcmp
  have S0 : Aside (SWK enc k w0 blk off d w) := S
  have HS8 := Lib.hid hs
  clear S hcmp hs
  have HSo := Lib.hid so
  have HSW := Lib.hid hS
  clear so hS
  have q1 : ((m : Int) - (a : Int) == 1) = false := by rw [beq_eq_false_iff_ne]; omega
  have q2 : (m : Int) + 1 - (m : Int) = 1 := by omega
  go_enter FG, Try.ntmps70
  go_wp2
  go_loopg [14, 15] (m - a) (fun kx s10 s11 wr => ∃ i j : Nat, s10 = .int .i64 i ∧ s11 = .int .i64 j ∧ a ≤ i ∧ i ≤ j ∧ j ≤ m ∧ j - i ≤ kx ∧ Aside (SWK enc k w0 blk off d wr) ∧ Hid ((∀ y, a ≤ y → y < i → ltOf cf (getF d m) (getF d y) = false) ∧ (∀ y, j ≤ y → y < m → ltOf cf (getF d m) (getF d y) = true)))
  case atStart => exact ⟨a, m, rfl, rfl, Nat.le_refl _, by omega, Nat.le_refl _, by omega, S0, Lib.hid ⟨fun y h1 h2 => by omega, fun y h1 h2 => by omega⟩⟩
  case round =>
    clear S0
    obtain ⟨i, j, rfl, rfl, hai, hij, hjb, hkx, S1, HI⟩ := hrel
    by_cases hlt : i < j
    · have hltz : (i : Int) < (j : Int) := by omega
      obtain ⟨h, hh⟩ : ∃ h : Nat, (i + j) / 2 = h := ⟨_, rfl⟩
      have hih : i ≤ h := by omega
      have hhj : h < j := by omega
      have hhz : ((i : Int) + (j : Int)) / 2 = (h : Int) := by omega
      clear hh
      go_wp2_with fail
      cases hL : ltOf cf d[m]! d[h]! with
      | false =>
        have ea1 : ((m : Int)).toNat = m := by omega
        have pa1 : (0 : Int) ≤ (m : Int) := by omega
        have ba1 : (m : Int) < (d.size : Int) := by omega
        have ra1 : IntKind.i64.wrap ((m : Int)) = (m : Int) := by rw [IntKind.wrap_i64]; omega
        have ec1 : ((h : Int)).toNat = h := by omega
        have pc1 : (0 : Int) ≤ (h : Int) := by omega
        have bc1 : (h : Int) < (d.size : Int) := by omega
        have rc1 : IntKind.i64.wrap ((h : Int)) = (h : Int) := by rw [IntKind.wrap_i64]; omega
        obtain ⟨x1, hx1⟩ : ∃ x, x = d[m]! := ⟨_, rfl⟩
        obtain ⟨y1, hy1⟩ : ∃ x, x = d[h]! := ⟨_, rfl⟩
        have l1a := S1.out.ld R HS8.out P (m) (by omega)
        have l1b := S1.out.ld R HS8.out P (h) (by omega)
        rw [← hx1] at l1a
        rw [← hy1] at l1b
        have hc1 := S1.out.cmp HC.out HS8.out x1 y1
        have hv1 : ¬ cf x1 y1 < 0 := by rw [hx1, hy1]; exact of_decide_eq_false hL
        have hd1 : decide (cf x1 y1 < 0) = false := decide_eq_false hv1
        clear hx1 hy1
        go_wp2_with fail
        go_quiet_grown (first | (go_at_fn g; refine Calls.grown_of (hc1 _ _)))
        have S2 : Aside (SWK enc k w0 blk off d (grow (wr.drewN nq) osq)) := S1.out.grown nq osq
        clear l1a l1b hc1 S1
        generalize grow (wr.drewN nq) osq = w2 at S2 ⊢
        clear nq osq
        go_wp2_with fail
        go_roundg (j - (h + 1))
        case measure => omega
        case rel =>
          have I2 : Hid ((∀ y, a ≤ y → y < h + 1 → ltOf cf (getF d m) (getF d y) = false) ∧ (∀ y, j ≤ y → y < m → ltOf cf (getF d m) (getF d y) = true)) := Lib.hid ⟨fun y h1 h2 => by
            by_cases c : y = h
            · subst c; exact hL
            · exact HSW.out.ntrans _ _ _ hL (HSo.out _ _ h1 (by omega) (by omega)), HI.out.2⟩
          exact ⟨h + 1, j, by go_num, rfl, by omega, by omega, hjb, Nat.le_refl _, S2, I2⟩
      | true =>
        have ea1 : ((m : Int)).toNat = m := by omega
        have pa1 : (0 : Int) ≤ (m : Int) := by omega
        have ba1 : (m : Int) < (d.size : Int) := by omega
        have ra1 : IntKind.i64.wrap ((m : Int)) = (m : Int) := by rw [IntKind.wrap_i64]; omega
        have ec1 : ((h : Int)).toNat = h := by omega
        have pc1 : (0 : Int) ≤ (h : Int) := by omega
        have bc1 : (h : Int) < (d.size : Int) := by omega
        have rc1 : IntKind.i64.wrap ((h : Int)) = (h : Int) := by rw [IntKind.wrap_i64]; omega
        obtain ⟨x1, hx1⟩ : ∃ x, x = d[m]! := ⟨_, rfl⟩
        obtain ⟨y1, hy1⟩ : ∃ x, x = d[h]! := ⟨_, rfl⟩
        have l1a := S1.out.ld R HS8.out P (m) (by omega)
        have l1b := S1.out.ld R HS8.out P (h) (by omega)
        rw [← hx1] at l1a
        rw [← hy1] at l1b
        have hc1 := S1.out.cmp HC.out HS8.out x1 y1
        have hv1 : cf x1 y1 < 0 := by rw [hx1, hy1]; exact of_decide_eq_true hL
        have hd1 : decide (cf x1 y1 < 0) = true := decide_eq_true hv1
        clear hx1 hy1
        go_wp2_with fail
        go_quiet_grown (first | (go_at_fn g; refine Calls.grown_of (hc1 _ _)))
        have S2 : Aside (SWK enc k w0 blk off d (grow (wr.drewN nq) osq)) := S1.out.grown nq osq
        clear l1a l1b hc1 S1
        generalize grow (wr.drewN nq) osq = w2 at S2 ⊢
        clear nq osq
        go_wp2_with fail
        go_roundg (h - i)
        case measure => omega
        case rel =>
          have I2 : Hid ((∀ y, a ≤ y → y < i → ltOf cf (getF d m) (getF d y) = false) ∧ (∀ y, h ≤ y → y < m → ltOf cf (getF d m) (getF d y) = true)) := Lib.hid ⟨HI.out.1, fun y h1 h2 => by
            by_cases c : y = h
            · subst c; exact hL
            · exact SWO.lt_le HSW.out hL (HSo.out _ _ (by omega) (by omega) h2)⟩
          exact ⟨i, h, rfl, rfl, hai, hih, by omega, Nat.le_refl _, S2, I2⟩
    · have hltz : ¬ (i : Int) < (j : Int) := by omega
      have hji : j = i := by omega
      rw [hji] at HI hjb
      clear hji hij hkx
      go_wp2_with fail
      go_loopg [17] (m - a) (fun kx s13 wr2 => ∃ (t : Nat) (dk : Array α), s13 = .int .i64 t ∧ i ≤ t ∧ t ≤ m ∧ t - i ≤ kx ∧ dk.size = d.size ∧ Aside (SWK enc k w0 blk off dk wr2) ∧ Hid (getF dk = rotF (getF d) t m (m + 1)))
      case atStart => exact ⟨m, d, rfl, hjb, Nat.le_refl _, by omega, rfl, S1, Lib.hid (rotF_same _ _ _).symm⟩
      case round =>
        clear S1
        obtain ⟨t, dk, rfl, hat, hti, hkx, hds, S3, HR⟩ := hrel
        by_cases hlt2 : i < t
        · obtain ⟨u, rfl⟩ : ∃ u, t = u + 1 := ⟨t - 1, by omega⟩
          have hlt2z : (i : Int) < (u : Int) + 1 := by omega
          have HR2 : Hid (getF (swp dk (u + 1) u) = rotF (getF d) u m (m + 1)) := Lib.hid (getF_down hds hti (by omega) HR.out)
          go_wp2_with fail
          have ea2 : ((u : Int) + 1).toNat = u + 1 := by omega
          have pa2 : (0 : Int) ≤ (u : Int) + 1 := by omega
          have ba2 : (u : Int) + 1 < (d.size : Int) := by omega
          have ra2 : IntKind.i64.wrap ((u : Int) + 1) = (u : Int) + 1 := by rw [IntKind.wrap_i64]; omega
          have ec2 : ((u : Int)).toNat = u := by omega
          have pc2 : (0 : Int) ≤ (u : Int) := by omega
          have bc2 : (u : Int) < (d.size : Int) := by omega
          have rc2 : IntKind.i64.wrap ((u : Int)) = (u : Int) := by rw [IntKind.wrap_i64]; omega
          have S4 : Aside (SWK enc k w0 blk off (swp dk (u + 1) (u)) ((wr.drew.setCells blk (off + (u + 1) * k) (enc dk[u]!)).setCells blk (off + (u) * k) (enc dk[u + 1]!))) := S3.out.swapped R (u + 1) (u) (by omega) (by omega)
          have l2a := S3.out.ld1 R (hds.trans HS8.out) P (u + 1) (by omega)
          have l2b := S3.out.ld1 R (hds.trans HS8.out) P (u) (by omega)
          have s2a := S3.out.st1 R (hds.trans HS8.out) P (u + 1) (by omega) dk[u]!
          have s2b := S3.out.st2 R (hds.trans HS8.out) P (u + 1) (u) (by omega) (by omega) dk[u]! dk[u + 1]!
          have n2a : (enc dk[u + 1]!).length = k := R.hk _
          have n2b : (enc dk[u]!).length = k := R.hk _
          generalize enc dk[u + 1]! = cI2 at S4 l2a s2b n2a
          generalize enc dk[u]! = cJ2 at S4 l2b s2a s2b n2b
          clear S3
          go_big_region_o
          clear l2a l2b s2a s2b
          generalize (wr.drew.setCells blk (off + (u + 1) * k) cJ2).setCells blk (off + (u) * k) cI2 = w4 at S4 ⊢
          go_wp2
          go_roundg (u - i)
          case measure => omega
          case rel => exact ⟨u, swp dk (u + 1) u, by first | rfl | go_num | (congr 1; omega), by omega, by omega, Nat.le_refl _, by rw [size_swp]; exact hds, S4, HR2⟩
        · have hlt2z : ¬ (i : Int) < (t : Int) := by omega
          have hti2 : t = i := by omega
          go_wp2_with fail
          (try simp only [Exit.inBlock, Exit.then]); refine bodyPost_ret (results_none rfl _ _ _) rfl ?_
          exact ⟨rfl, dk, merged_one_right HSW.out hds hb hai hjb (by rw [HR.out, hti2]) HSo.out HI.out.1 HI.out.2, S3.out⟩

end Go.Proofs.Ytpmllckfijfehaa
