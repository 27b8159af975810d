/- slices.SortStableFunc's family at writes: the contract of symMergeCmpFunc, whole. -/
import Derived.Test.YtpmllckfijfehaaStbM
import Derived.Deep.Cut
namespace Go.Proofs.Ytpmllckfijfehaa
open Go.Shelf Go.RowKit Go.Lib Go.Sort
variable {P : Program} {α : Type} [Inhabited α]

section
omit [Inhabited α]
theorem rot_sort1 {lt : α → α → Bool} {f : Nat → α} {a m st en : Nat} (h : sortF lt f a m) (_h1 : st ≤ m) : sortF lt (rotF f st m en) a st := fun i j g1 g2 g3 => by
  unfold rotF; rw [if_pos (by omega : j < st ∨ en ≤ j), if_pos (by omega : i < st ∨ en ≤ i)]; exact h i j g1 g2 (by omega)
theorem rot_sort2 {lt : α → α → Bool} {f : Nat → α} {m b st en mid : Nat} (h : sortF lt f m b) (_h1 : st ≤ m) (h2 : m ≤ en) (h3 : en ≤ b) (h4 : st + (en - m) = mid) : sortF lt (rotF f st m en) st mid := fun i j g1 g2 g3 => by
  unfold rotF; rw [if_neg (by omega : ¬ (j < st ∨ en ≤ j)), if_neg (by omega : ¬ (i < st ∨ en ≤ i)), if_pos (by omega), if_pos (by omega)]; exact h _ _ (by omega) (by omega) (by omega)
theorem rot_sort3 {lt : α → α → Bool} {f : Nat → α} {a m st en mid : Nat} (h : sortF lt f a m) (h0 : a ≤ st) (_h1 : st ≤ m) (h2 : m ≤ en) (h4 : st + (en - m) = mid) : sortF lt (rotF f st m en) mid en := fun i j g1 g2 g3 => by
  unfold rotF; rw [if_neg (by omega : ¬ (j < st ∨ en ≤ j)), if_neg (by omega : ¬ (i < st ∨ en ≤ i)), if_neg (by omega), if_neg (by omega)]; exact h _ _ (by omega) (by omega) (by omega)
theorem rot_sort4 {lt : α → α → Bool} {f : Nat → α} {m b st en : Nat} (h : sortF lt f m b) (h2 : m ≤ en) : sortF lt (rotF f st m en) en b := fun i j g1 g2 g3 => by
  unfold rotF; rw [if_pos (by omega : j < st ∨ en ≤ j), if_pos (by omega : i < st ∨ en ≤ i)]; exact h _ _ (by omega) (by omega) (by omega)
theorem sortF_part {lt : α → α → Bool} {f : Nat → α} {a b a' b' : Nat} (h : sortF lt f a b) (h1 : a ≤ a') (h2 : b' ≤ b) : sortF lt f a' b' := fun i j g1 g2 g3 => h i j (by omega) g2 (by omega)
theorem sortF_congr {lt : α → α → Bool} {f f' : Nat → α} {a b : Nat} (h : sortF lt f a b) (he : ∀ i, a ≤ i → i < b → f' i = f i) : sortF lt f' a b := fun i j g1 g2 g3 => by rw [he i g1 (by omega), he j (by omega) g3]; exact h i j g1 g2 g3
end

set_option maxHeartbeats 8000000 in
set_option maxRecDepth 1000000 in
/-- symMergeCmpFunc where both stretches have more than one element, under its own contract at less. -/
theorem symMerge_mid (L : StbLays P) (k : Nat) (aE : ∀ w, (isAgg 61).run P w = .ok true w) (zE : ∀ w, (Go.sizeOf 61).run P w = .ok k w) (enc : α → List Value) (cf : α → α → Int) (hS : SWO (ltOf cf)) (g : Nat) (cb : Array Value) (blk off cap : Nat) (d0 : Array α) (w0 : World)
    (eg : ∀ args w, (callFunc g args).run P w = .ok (.enter g args) w) (hcmp : CmpLays P g cb enc k cf blk off d0.size w0) (R : RowK enc k w0 blk off d0)
    (a m b : Nat) (d : Array α) (w : World) (hs : d.size = d0.size) (S : SWK enc k w0 blk off d w) (ham : a + 1 < m) (hmb : m + 1 < b) (hb : b ≤ d.size) (hsz : d.size ≤ 4000) (so1 : sortF (ltOf cf) (getF d) a m) (so2 : sortF (ltOf cf) (getF d) m b)
    (IH : ∀ (a' m' b' : Nat) (d1 : Array α) (w1 : World), b' - a' < b - a → d1.size = d.size → SWK enc k w0 blk off d1 w1 → a' < m' → m' < b' → b' ≤ d.size → sortF (ltOf cf) (getF d1) a' m' → sortF (ltOf cf) (getF d1) m' b' → Calls P 70 #[.slice (some ⟨blk, off, none⟩) d.size cap, .int .i64 a', .int .i64 m', .int .i64 b', .func (.func g) #[] cb] w1 fun e w' => e = .returned (.tuple #[]) ∧ ∃ d', Merged (ltOf cf) a' b' d1 d' ∧ SWK enc k w0 blk off d' w') :
    Calls P 70 #[.slice (some ⟨blk, off, none⟩) d.size cap, .int .i64 a, .int .i64 m, .int .i64 b, .func (.func g) #[] cb] w fun e w' => e = .returned (.tuple #[]) ∧ ∃ d', Merged (ltOf cf) a b d d' ∧ SWK enc k w0 blk off d' w' := by
  have HRot : Hid (∀ (x y z : Nat) (w1 : World), SWK enc k w0 blk off d w1 → x < y → y < z → z ≤ d.size → Calls P 71 #[.slice (some ⟨blk, off, none⟩) d.size cap, .int .i64 x, .int .i64 y, .int .i64 z, .func (.func g) #[] cb] w1 fun e w' => e = .returned (.tuple #[]) ∧ ∃ d', d'.size = d.size ∧ getF d' = rotF (getF d) x y z ∧ SWK enc k w0 blk off d' w') := Lib.hid (fun x y z w1 h1 h2 h3 h4 => rotate_any L k aE zE enc g cb blk off cap x y z d0 d w0 w1 R hs h1 h2 h3 h4 hsz)
  have e55 : ∀ args w, (callFunc 71 args).run P w = .ok (.enter 71 args) w := enters_of L.f_rot (by kernel_rfl) rfl
  have e51 : ∀ args w, (callFunc 70 args).run P w = .ok (.enter 70 args) w := enters_of L.f_sym (by kernel_rfl) rfl
  have HIH := Lib.hid IH
  clear IH
  have mixed := L.mixed; have t0 := L.t0; have a0 := L.a0; have z0 := L.z0; have v0 := L.v0; have t3 := L.t3; have a3 := L.a3; have z3 := L.z3; have v3 := L.v3; have t4 := L.t4; have a4 := L.a4; have z4 := L.z4; have v4 := L.v4; have t22 := L.t22; have a22 := L.a22; have z22 := L.z22; have v22 := L.v22; have t46 := L.t46; have a46 := L.a46; have z46 := L.z46; have v46 := L.v46; have t80 := L.t80; have a80 := L.a80; have z80 := L.z80; have v80 := L.v80
  have u22 := run_underlying L.t22
  have FG := L.f_sym
  have HC : Aside _ := hcmp
  have S0 : Aside (SWK enc k w0 blk off d w) := S
  have HS8 := Lib.hid hs
  clear S hcmp hs
  have HSo1 := Lib.hid so1
  have HSo2 := Lib.hid so2
  have HSW := Lib.hid hS
  clear so1 so2 hS
  have q1 : ((m : Int) - (a : Int) == 1) = false := by rw [beq_eq_false_iff_ne]; omega
  have q2 : ((b : Int) - (m : Int) == 1) = false := by rw [beq_eq_false_iff_ne]; omega
  obtain ⟨mid, hmid⟩ : ∃ mid : Nat, (a + b) / 2 = mid := ⟨_, rfl⟩
  have hm1 : 2 * mid ≤ a + b := by omega
  have hm2 : a + b ≤ 2 * mid + 1 := by omega
  have hmz : ((a : Int) + (b : Int)) / 2 = (mid : Int) := by omega
  clear hmid
  go_enter FG, Try.ntmps70
  go_upto_if 140 with fail
  go_cut [20, 21] from 138 (fun s r wc => ∃ lo hi : Nat, s = .int .i64 lo ∧ r = .int .i64 hi ∧ a ≤ lo ∧ lo ≤ hi ∧ hi ≤ m ∧ mid + m ≤ lo + b ∧ hi ≤ mid ∧ (lo = a ∨ lo + b = mid + m) ∧ (hi = m ∨ hi = mid) ∧ wc = w)
  case first =>
    by_cases hc : mid < m
    · have hcz : (mid : Int) < (m : Int) := by omega
      go_wp2_with fail
      go_meet
      case rel => exact ⟨mid + m - b, mid, by congr 1; omega, rfl, by omega, by omega, by omega, by omega, Nat.le_refl _, Or.inr (by omega), Or.inr rfl, rfl⟩
    · have hcz : ¬ (mid : Int) < (m : Int) := by omega
      go_wp2_with fail
      go_meet
      case rel => exact ⟨a, m, rfl, rfl, Nat.le_refl _, by omega, Nat.le_refl _, by omega, by omega, Or.inl rfl, Or.inl rfl, rfl⟩
  case rest =>
    obtain ⟨lo, hi, rfl, rfl, hlo1, hlo2, hhi1, hlo3, hhi2, hloE, hhiE, rfl⟩ := hcut
    go_wp2_with fail
    go_loopg [20, 21] (hi - lo) (fun kx s10 s11 wr => ∃ i j : Nat, s10 = .int .i64 i ∧ s11 = .int .i64 j ∧ lo ≤ i ∧ i ≤ j ∧ j ≤ hi ∧ j - i ≤ kx ∧ Aside (SWK enc k w0 blk off d wr) ∧ Hid ((∀ c, lo ≤ c → c < i → ltOf cf (getF d (mid + m - 1 - c)) (getF d c) = false) ∧ (∀ c, j ≤ c → c < hi → ltOf cf (getF d (mid + m - 1 - c)) (getF d c) = true)))
    case atStart => exact ⟨lo, hi, rfl, rfl, Nat.le_refl _, hlo2, Nat.le_refl _, Nat.le_refl _, S0, Lib.hid ⟨fun y h1 h2 => by omega, fun y h1 h2 => by omega⟩⟩
    case round =>
      clear S0
      obtain ⟨i, j, rfl, rfl, hai, hij, hjb, hkx, S1, HI⟩ := hrel
      by_cases hlt : i < j
      · have hltz : (i : Int) < (j : Int) := by omega
        obtain ⟨h, hh⟩ : ∃ h : Nat, (i + j) / 2 = h := ⟨_, rfl⟩
        have hih : i ≤ h := by omega
        have hhj : h < j := by omega
        have hhz : ((i : Int) + (j : Int)) / 2 = (h : Int) := by omega
        clear hh
        obtain ⟨v, hv⟩ : ∃ v : Nat, mid + m - 1 - h = v := ⟨_, rfl⟩
        have hvm1 : m ≤ v := by omega
        have hvm2 : v < b := by omega
        have hvz : (mid : Int) + (m : Int) - 1 - (h : Int) = (v : Int) := by omega
        have HV : Hid (v + h + 1 = mid + m) := Lib.hid (by omega)
        clear hv
        go_wp2_with fail
        cases hL : ltOf cf d[v]! d[h]! with
        | false =>
          have ea1 : ((v : Int)).toNat = v := by omega
          have pa1 : (0 : Int) ≤ (v : Int) := by omega
          have ba1 : (v : Int) < (d.size : Int) := by omega
          have ra1 : IntKind.i64.wrap ((v : Int)) = (v : Int) := by rw [IntKind.wrap_i64]; omega
          have ec1 : ((h : Int)).toNat = h := by omega
          have pc1 : (0 : Int) ≤ (h : Int) := by omega
          have bc1 : (h : Int) < (d.size : Int) := by omega
          have rc1 : IntKind.i64.wrap ((h : Int)) = (h : Int) := by rw [IntKind.wrap_i64]; omega
          obtain ⟨x1, hx1⟩ : ∃ x, x = d[v]! := ⟨_, rfl⟩
          obtain ⟨y1, hy1⟩ : ∃ x, x = d[h]! := ⟨_, rfl⟩
          have l1a := S1.out.ld R HS8.out P (v) (by omega)
          have l1b := S1.out.ld R HS8.out P (h) (by omega)
          rw [← hx1] at l1a
          rw [← hy1] at l1b
          have hc1 := S1.out.cmp HC.out HS8.out x1 y1
          have hv1 : ¬ cf x1 y1 < 0 := by rw [hx1, hy1]; exact of_decide_eq_false hL
          have hd1 : decide (cf x1 y1 < 0) = false := decide_eq_false hv1
          clear hx1 hy1
          go_wp2_with fail
          go_quiet_grown (first | (go_at_fn g; refine Calls.grown_of (hc1 _ _)))
          have S2 : Aside (SWK enc k w0 blk off d (grow (wr.drewN nq) osq)) := S1.out.grown nq osq
          clear l1a l1b hc1 S1
          generalize grow (wr.drewN nq) osq = w2 at S2 ⊢
          clear nq osq
          go_wp2_with fail
          go_roundg (j - (h + 1))
          case measure => omega
          case rel =>
            have I2 : Hid ((∀ c, lo ≤ c → c < h + 1 → ltOf cf (getF d (mid + m - 1 - c)) (getF d c) = false) ∧ (∀ c, j ≤ c → c < hi → ltOf cf (getF d (mid + m - 1 - c)) (getF d c) = true)) := Lib.hid ⟨fun y h1 h2 => by
              have hV := HV.out
              by_cases c : y = h
              · subst c; rw [show mid + m - 1 - y = v from by omega]; exact hL
              · exact HSW.out.ntrans _ _ _ (HSW.out.ntrans _ _ _ (HSo2.out v (mid + m - 1 - y) hvm1 (by omega) (by omega)) hL) (HSo1.out y h (by omega) (by omega) (by omega)), HI.out.2⟩
            exact ⟨h + 1, j, by go_num, rfl, by omega, by omega, hjb, Nat.le_refl _, S2, I2⟩
        | true =>
          have ea1 : ((v : Int)).toNat = v := by omega
          have pa1 : (0 : Int) ≤ (v : Int) := by omega
          have ba1 : (v : Int) < (d.size : Int) := by omega
          have ra1 : IntKind.i64.wrap ((v : Int)) = (v : Int) := by rw [IntKind.wrap_i64]; omega
          have ec1 : ((h : Int)).toNat = h := by omega
          have pc1 : (0 : Int) ≤ (h : Int) := by omega
          have bc1 : (h : Int) < (d.size : Int) := by omega
          have rc1 : IntKind.i64.wrap ((h : Int)) = (h : Int) := by rw [IntKind.wrap_i64]; omega
          obtain ⟨x1, hx1⟩ : ∃ x, x = d[v]! := ⟨_, rfl⟩
          obtain ⟨y1, hy1⟩ : ∃ x, x = d[h]! := ⟨_, rfl⟩
          have l1a := S1.out.ld R HS8.out P (v) (by omega)
          have l1b := S1.out.ld R HS8.out P (h) (by omega)
          rw [← hx1] at l1a
          rw [← hy1] at l1b
          have hc1 := S1.out.cmp HC.out HS8.out x1 y1
          have hv1 : cf x1 y1 < 0 := by rw [hx1, hy1]; exact of_decide_eq_true hL
          have hd1 : decide (cf x1 y1 < 0) = true := decide_eq_true hv1
          clear hx1 hy1
          go_wp2_with fail
          go_quiet_grown (first | (go_at_fn g; refine Calls.grown_of (hc1 _ _)))
          have S2 : Aside (SWK enc k w0 blk off d (grow (wr.drewN nq) osq)) := S1.out.grown nq osq
          clear l1a l1b hc1 S1
          generalize grow (wr.drewN nq) osq = w2 at S2 ⊢
          clear nq osq
          go_wp2_with fail
          go_roundg (h - i)
          case measure => omega
          case rel =>
            have I2 : Hid ((∀ c, lo ≤ c → c < i → ltOf cf (getF d (mid + m - 1 - c)) (getF d c) = false) ∧ (∀ c, h ≤ c → c < hi → ltOf cf (getF d (mid + m - 1 - c)) (getF d c) = true)) := Lib.hid ⟨HI.out.1, fun y h1 h2 => by
              have hV := HV.out
              by_cases c : y = h
              · subst c; rw [show mid + m - 1 - y = v from by omega]; exact hL
              · exact SWO.lt_le HSW.out (SWO.le_lt HSW.out (HSo2.out (mid + m - 1 - y) v (by omega) (by omega) (by omega)) hL) (HSo1.out h y (by omega) (by omega) (by omega))⟩
            exact ⟨i, h, rfl, rfl, hai, hih, by omega, Nat.le_refl _, S2, I2⟩
      · have hltz : ¬ (i : Int) < (j : Int) := by omega
        have hji : j = i := by omega
        rw [hji] at HI hjb
        clear hij hkx
        obtain ⟨en, hen⟩ : ∃ en : Nat, mid + m - i = en := ⟨_, rfl⟩
        have hen1 : m ≤ en := by omega
        have hen2 : en ≤ b := by omega
        have hen3 : i + (en - m) = mid := by omega
        have henz : (mid : Int) + (m : Int) - (i : Int) = (en : Int) := by omega
        have hX : Hid (a < i → en < b → ltOf cf (getF d en) (getF d (i - 1)) = false) := Lib.hid (fun h1 h2 => by
          have := HI.out.1 (i - 1) (by omega) (by omega)
          rw [show mid + m - 1 - (i - 1) = en from by omega] at this
          exact this)
        have hY : Hid (i < m → m < en → ltOf cf (getF d (en - 1)) (getF d i) = true) := Lib.hid (fun h1 h2 => by
          have := HI.out.2 i (Nat.le_refl _) (by omega)
          rw [show mid + m - 1 - i = en - 1 from by omega] at this
          exact this)
        have hia : a ≤ i := by omega
        have him : i ≤ m := by omega
        clear hen HI hlt hloE hhiE hji
        have HEnd : Hid (∀ d1 d2 d3, d1.size = d.size → getF d1 = rotF (getF d) i m en → Merged (ltOf cf) a mid d1 d2 → Merged (ltOf cf) mid b d2 d3 → Merged (ltOf cf) a b d d3) := Lib.hid (fun d1 d2 d3 g1 g2 g3 g4 => merged_halves HSW.out (by omega) (by omega) hb hia him hen1 hen2 hen3 HSo1.out HSo2.out hX.out hY.out g1 g2 g3 g4)
        go_upto_region 39 with fail
        go_cut [185] from 178 (fun v wx => v = .bool (decide (i < m ∧ m < en)) ∧ wx = wr)
        case first =>
          by_cases hc1 : i < m
          · have c1 : (i : Int) < (m : Int) := by omega
            have c1' : decide ((i : Int) < (m : Int)) = true := by rw [decide_eq_true_iff]; exact c1
            by_cases hc2 : m < en
            · have c2 : (m : Int) < (en : Int) := by omega
              go_wp2_with fail
              go_meet
              case rel => exact ⟨by rw [decide_eq_true (⟨hc1, hc2⟩ : i < m ∧ m < en)], rfl⟩
            · have c2 : ¬ (m : Int) < (en : Int) := by omega
              go_wp2_with fail
              go_meet
              case rel => exact ⟨by rw [decide_eq_false (fun h : i < m ∧ m < en => hc2 h.2)], rfl⟩
          · have c1 : ¬ (i : Int) < (m : Int) := by omega
            go_wp2_with fail
            go_meet
            case rel => exact ⟨by rw [decide_eq_false (fun h : i < m ∧ m < en => hc1 h.1)], rfl⟩
        case rest =>
          obtain ⟨rfl, rfl⟩ := hcut
          go_upto_if 185 with fail
          go_cut [20] from 178 (fun s wc => s = .int .i64 i ∧ ∃ d1, d1.size = d.size ∧ Hid (getF d1 = rotF (getF d) i m en) ∧ Aside (SWK enc k w0 blk off d1 wc))
          case first =>
            by_cases hc : i < m ∧ m < en
            · rw [decide_eq_true hc]
              have HR := Lib.hid (HRot.out i m en _ S1.out hc.1 hc.2 (by omega))
              clear hc
              go_wp2_with (go_at_fn 71; refine HR.out.mono ?_; rintro e w1 ⟨rfl, d1, hd1, he1, hS1⟩; have HD1 := Lib.hid he1; have S2 : Aside _ := hS1; clear he1 hS1)
              go_meet
              case rel => exact ⟨rfl, d1, hd1, HD1, S2⟩
            · rw [decide_eq_false hc]
              have hR : Hid (getF d = rotF (getF d) i m en) := Lib.hid (by
                by_cases hc1 : i < m
                · rw [show en = m from by omega, rotF_end]
                · rw [show i = m from by omega, rotF_same])
              clear hc
              go_wp2_with fail
              go_meet
              case rel => exact ⟨rfl, d, rfl, hR, S1⟩
          case rest =>
            clear S1
            obtain ⟨rfl, d1, hd1, HD1, S2⟩ := hcut
            go_upto_region 41 with fail
            go_cut [199] from 192 (fun v wx => v = .bool (decide (a < i ∧ i < mid)) ∧ wx = wc)
            case first =>
              by_cases hc1 : a < i
              · have c1 : (a : Int) < (i : Int) := by omega
                have c1' : decide ((a : Int) < (i : Int)) = true := by rw [decide_eq_true_iff]; exact c1
                by_cases hc2 : i < mid
                · have c2 : (i : Int) < (mid : Int) := by omega
                  go_wp2_with fail
                  go_meet
                  case rel => exact ⟨by rw [decide_eq_true (⟨hc1, hc2⟩ : a < i ∧ i < mid)], rfl⟩
                · have c2 : ¬ (i : Int) < (mid : Int) := by omega
                  go_wp2_with fail
                  go_meet
                  case rel => exact ⟨by rw [decide_eq_false (fun h : a < i ∧ i < mid => hc2 h.2)], rfl⟩
              · have c1 : ¬ (a : Int) < (i : Int) := by omega
                go_wp2_with fail
                go_meet
                case rel => exact ⟨by rw [decide_eq_false (fun h : a < i ∧ i < mid => hc1 h.1)], rfl⟩
            case rest =>
              obtain ⟨rfl, rfl⟩ := hcut
              go_upto_if 199 with fail
              go_cut [20] from 192 (fun s wc => s = .int .i64 i ∧ ∃ d2, Hid (Merged (ltOf cf) a mid d1 d2) ∧ Aside (SWK enc k w0 blk off d2 wc))
              case first =>
                by_cases hc : a < i ∧ i < mid
                · rw [decide_eq_true hc]
                  have HR := Lib.hid (HIH.out a i mid d1 _ (by omega) hd1 S2.out hc.1 hc.2 (by omega) (by rw [HD1.out]; exact rot_sort1 HSo1.out him) (by rw [HD1.out]; exact rot_sort2 HSo2.out him hen1 hen2 hen3))
                  clear hc
                  go_wp2_with (go_at_fn 70; refine HR.out.mono ?_; rintro e w1 ⟨rfl, d2, hd2, hS2⟩; have HD2 := Lib.hid hd2; have S3 : Aside _ := hS2; clear hd2 hS2)
                  go_meet
                  case rel => exact ⟨rfl, d2, HD2, S3⟩
                · rw [decide_eq_false hc]
                  have HM : Hid (Merged (ltOf cf) a mid d1 d1) := Lib.hid (Merged.none_ (by
                    rw [HD1.out]
                    by_cases hc1 : a < i
                    · rw [show mid = i from by omega]; exact rot_sort1 HSo1.out him
                    · rw [show a = i from by omega]; exact rot_sort2 HSo2.out him hen1 hen2 hen3))
                  clear hc
                  go_wp2_with fail
                  go_meet
                  case rel => exact ⟨rfl, d1, HM, S2⟩
              case rest =>
                clear S2
                obtain ⟨rfl, d2, HM2, S3⟩ := hcut
                have hd2 : d2.size = d.size := by rw [HM2.out.size, hd1]
                have HS3 : Hid (sortF (ltOf cf) (getF d2) mid en) := Lib.hid (sortF_congr (by rw [HD1.out]; exact rot_sort3 HSo1.out hia him hen1 hen3) (fun x h1 h2 => HM2.out.out x (Or.inr h1)))
                have HS4 : Hid (sortF (ltOf cf) (getF d2) en b) := Lib.hid (sortF_congr (by rw [HD1.out]; exact rot_sort4 HSo2.out hen1) (fun x h1 h2 => HM2.out.out x (Or.inr (by omega))))
                go_upto_region 43 with fail
                go_cut [213] from 206 (fun v wx => v = .bool (decide (mid < en ∧ en < b)) ∧ wx = wc)
                case first =>
                  by_cases hc1 : mid < en
                  · have c1 : (mid : Int) < (en : Int) := by omega
                    have c1' : decide ((mid : Int) < (en : Int)) = true := by rw [decide_eq_true_iff]; exact c1
                    by_cases hc2 : en < b
                    · have c2 : (en : Int) < (b : Int) := by omega
                      go_wp2_with fail
                      go_meet
                      case rel => exact ⟨by rw [decide_eq_true (⟨hc1, hc2⟩ : mid < en ∧ en < b)], rfl⟩
                    · have c2 : ¬ (en : Int) < (b : Int) := by omega
                      go_wp2_with fail
                      go_meet
                      case rel => exact ⟨by rw [decide_eq_false (fun h : mid < en ∧ en < b => hc2 h.2)], rfl⟩
                  · have c1 : ¬ (mid : Int) < (en : Int) := by omega
                    go_wp2_with fail
                    go_meet
                    case rel => exact ⟨by rw [decide_eq_false (fun h : mid < en ∧ en < b => hc1 h.1)], rfl⟩
                case rest =>
                  obtain ⟨rfl, rfl⟩ := hcut
                  by_cases hc : mid < en ∧ en < b
                  · rw [decide_eq_true hc]
                    have HR := Lib.hid (HIH.out mid en b d2 _ (by omega) hd2 S3.out hc.1 hc.2 hb HS3.out HS4.out)
                    clear hc
                    go_wp2_with (go_at_fn 70; refine HR.out.mono ?_; rintro e w1 ⟨rfl, d3, hd3, hS3⟩; have HM3 := Lib.hid (HEnd.out d1 d2 d3 hd1 HD1.out HM2.out hd3); have S4 : Aside _ := hS3; clear hd3 hS3)
                    go_end0
                    exact ⟨rfl, d3, HM3.out, S4.out⟩
                  · rw [decide_eq_false hc]
                    have HM3 := Lib.hid (HEnd.out d1 d2 d2 hd1 HD1.out HM2.out (Merged.none_ (by
                      by_cases hc1 : mid < en
                      · rw [show b = en from by omega]; exact HS3.out
                      · rw [show mid = en from by omega]; exact HS4.out)))
                    clear hc
                    go_wp2_with fail
                    go_end0
                    exact ⟨rfl, d2, HM3.out, S3.out⟩

end Go.Proofs.Ytpmllckfijfehaa
