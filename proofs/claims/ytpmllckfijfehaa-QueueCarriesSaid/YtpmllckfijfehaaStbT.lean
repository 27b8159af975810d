/- slices.SortStableFunc's family at writes: the contracts of symMergeCmpFunc (whole), stableCmpFunc and SortStableFunc. -/
import Derived.Test.YtpmllckfijfehaaStbN
import Derived.Test.YtpmllckfijfehaaStbB
namespace Go.Proofs.Ytpmllckfijfehaa
open Go.Shelf Go.RowKit Go.Lib Go.Sort
variable {P : Program} {α : Type} [Inhabited α]

/-- symMergeCmpFunc: two sorted stretches become one. -/
theorem symMerge_any (L : StbLays P) (k : Nat) (aE : ∀ w, (isAgg 61).run P w = .ok true w) (zE : ∀ w, (Go.sizeOf 61).run P w = .ok k w) (enc : α → List Value) (cf : α → α → Int) (hS : SWO (ltOf cf)) (g : Nat) (cb : Array Value) (blk off cap : Nat) (d0 : Array α) (w0 : World)
    (eg : ∀ args w, (callFunc g args).run P w = .ok (.enter g args) w) (hcmp : CmpLays P g cb enc k cf blk off d0.size w0) (R : RowK enc k w0 blk off d0) : ∀ (N a m b : Nat) (d : Array α) (w : World), b - a ≤ N → d.size = d0.size → SWK enc k w0 blk off d w → a < m → m < b → b ≤ d.size → d.size ≤ 4000 → sortF (ltOf cf) (getF d) a m → sortF (ltOf cf) (getF d) m b →
    Calls P 70 #[.slice (some ⟨blk, off, none⟩) d.size cap, .int .i64 a, .int .i64 m, .int .i64 b, .func (.func g) #[] cb] w fun e w' => e = .returned (.tuple #[]) ∧ ∃ d', Merged (ltOf cf) a b d d' ∧ SWK enc k w0 blk off d' w' := by
  intro N
  induction N with
  | zero => intro a m b d w h1 h2 h3 h4 h5; omega
  | succ N ih =>
    intro a m b d w h1 h2 h3 h4 h5 h6 h7 s1 s2
    by_cases e1 : m = a + 1
    · subst e1
      have := symMerge_left L k aE zE enc cf hS g cb blk off cap d0 w0 eg hcmp R a b d w h2 h3 h5 h6 h7 s2
      rw [show (((a + 1 : Nat)) : Int) = (a : Int) + 1 from by omega]
      exact this
    · by_cases e2 : b = m + 1
      · subst e2
        have := symMerge_right L k aE zE enc cf hS g cb blk off cap d0 w0 eg hcmp R a m d w h2 h3 (by omega) h6 h7 s1
        rw [show (((m + 1 : Nat)) : Int) = (m : Int) + 1 from by omega]
        exact this
      · exact symMerge_mid L k aE zE enc cf hS g cb blk off cap d0 w0 eg hcmp R a m b d w h2 h3 (by omega) (by omega) h6 h7 s1 s2 (fun a' m' b' d1 w1 g1 g2 g3 g4 g5 g6 g7 g8 => by
          have := ih a' m' b' d1 w1 (by omega) (by omega) g3 g4 g5 (by omega) (by omega) g7 g8
          rw [g2] at this
          exact this)

set_option maxHeartbeats 8000000 in
set_option maxRecDepth 1000000 in
/-- stableCmpFunc: in order, equals in their order. -/
theorem stable_any (L : StbLays P) (k : Nat) (aE : ∀ w, (isAgg 61).run P w = .ok true w) (zE : ∀ w, (Go.sizeOf 61).run P w = .ok k w) (enc : α → List Value) (cf : α → α → Int) (hS : SWO (ltOf cf)) (g : Nat) (cb : Array Value) (blk off cap : Nat) (d0 : Array α) (w0 : World)
    (eg : ∀ args w, (callFunc g args).run P w = .ok (.enter g args) w) (hcmp : CmpLays P g cb enc k cf blk off d0.size w0) (R : RowK enc k w0 blk off d0) (hsz : d0.size ≤ 4000)
    (hins : ∀ (a b : Nat) (d : Array α) (w : World), d.size = d0.size → SWK enc k w0 blk off d w → a ≤ b → b ≤ d0.size → Calls P 69 #[.slice (some ⟨blk, off, none⟩) d0.size cap, .int .i64 a, .int .i64 b, .func (.func g) #[] cb] w fun e w' => e = .returned (.tuple #[]) ∧ ∃ d', Merged (ltOf cf) a b d d' ∧ SWK enc k w0 blk off d' w') :
    Calls P 65 #[.slice (some ⟨blk, off, none⟩) d0.size cap, .int .i64 d0.size, .func (.func g) #[] cb] w0 fun e w' => e = .returned (.tuple #[]) ∧ ∃ d', d'.size = d0.size ∧ Stb (ltOf cf) d0.size (getF d0) (getF d') ∧ sortF (ltOf cf) (getF d') 0 d0.size ∧ SWK enc k w0 blk off d' w' := by
  have mixed := L.mixed; have t0 := L.t0; have a0 := L.a0; have z0 := L.z0; have v0 := L.v0; have t3 := L.t3; have a3 := L.a3; have z3 := L.z3; have v3 := L.v3; have t4 := L.t4; have a4 := L.a4; have z4 := L.z4; have v4 := L.v4; have t22 := L.t22; have a22 := L.a22; have z22 := L.z22; have v22 := L.v22; have t46 := L.t46; have a46 := L.a46; have z46 := L.z46; have v46 := L.v46; have t80 := L.t80; have a80 := L.a80; have z80 := L.z80; have v80 := L.v80
  have u22 := run_underlying L.t22
  have e50 : ∀ args w, (callFunc 69 args).run P w = .ok (.enter 69 args) w := enters_of L.f_ins (by kernel_rfl) rfl
  have e51 : ∀ args w, (callFunc 70 args).run P w = .ok (.enter 70 args) w := enters_of L.f_sym (by kernel_rfl) rfl
  have S0 : Aside (SWK enc k w0 blk off d0 w0) := SWK.start R.hH
  obtain ⟨n, hn⟩ : ∃ n, d0.size = n := ⟨_, rfl⟩
  have HSym : Hid (∀ (x y z : Nat) (d : Array α) (w : World), d.size = n → SWK enc k w0 blk off d w → x < y → y < z → z ≤ n → sortF (ltOf cf) (getF d) x y → sortF (ltOf cf) (getF d) y z → Calls P 70 #[.slice (some ⟨blk, off, none⟩) n cap, .int .i64 x, .int .i64 y, .int .i64 z, .func (.func g) #[] cb] w fun e w' => e = .returned (.tuple #[]) ∧ ∃ d', Merged (ltOf cf) x z d d' ∧ SWK enc k w0 blk off d' w') := Lib.hid (fun x y z d w h1 h2 h3 h4 h5 h6 h7 => by
    have := symMerge_any L k aE zE enc cf hS g cb blk off cap d0 w0 eg hcmp R (z - x) x y z d w (Nat.le_refl _) (by omega) h2 h3 h4 (by omega) (by omega) h6 h7
    rw [h1] at this
    exact this)
  rw [hn] at hins hsz ⊢
  have HIns := Lib.hid hins
  have HN := Lib.hid hn
  clear hins hcmp hS eg aE zE R hn
  have FG := L.f_stb
  go_enter FG, Try.ntmps65
  go_wp2
  go_loopg [7, 8] (n + 20) (fun kx s7 s8 wr => ∃ (t x : Nat) (dk : Array α), s7 = .int .i64 x ∧ s8 = .int .i64 ((x : Int) + 20) ∧ Hid (x = t * 20) ∧ x ≤ n ∧ n - x ≤ kx ∧ dk.size = n ∧ Hid (InsInv (ltOf cf) (getF dk) t) ∧ Hid (Stb (ltOf cf) n (getF d0) (getF dk)) ∧ Aside (SWK enc k w0 blk off dk wr))
  case atStart => exact ⟨0, 0, d0, rfl, rfl, Lib.hid rfl, Nat.zero_le _, by omega, HN.out, Lib.hid (fun u hu => by omega), Lib.hid (Stb.refl _ _ _), S0⟩
  case round =>
    clear S0
    obtain ⟨t, x, dk, rfl, rfl, HX, hxn, hkx, hds, HI, HB, S1⟩ := hrel
    by_cases hle : x + 20 ≤ n
    · have hlez : (x : Int) + 20 ≤ (n : Int) := by omega
      have HC : Hid (Calls P 69 #[.slice (some ⟨blk, off, none⟩) n cap, .int .i64 x, .int .i64 ((x : Int) + 20), .func (.func g) #[] cb] wr fun e w' => e = .returned (.tuple #[]) ∧ ∃ d', Merged (ltOf cf) x (x + 20) dk d' ∧ SWK enc k w0 blk off d' w') := Lib.hid (by
        have := HIns.out x (x + 20) dk wr hds S1.out (by omega) hle
        rw [show ((x + 20 : Nat) : Int) = (x : Int) + 20 from by omega] at this
        exact this)
      go_wp2_with (go_at_fn 69; refine HC.out.mono ?_; rintro e w1 ⟨rfl, d1, hd1, hS1⟩; have HD1 := Lib.hid hd1; have S2 : Aside _ := hS1; clear hd1 hS1)
      go_roundg (n - (x + 20))
      case measure => omega
      case rel => exact ⟨t + 1, x + 20, d1, by first | rfl | go_num | (congr 1), by first | rfl | go_num | (congr 1; omega), Lib.hid (by have := HX.out; omega), hle, Nat.le_refl _, by rw [HD1.out.size, hds], Lib.hid (by have := ins_step HI.out (by rw [← HX.out]; exact HD1.out); exact this), Lib.hid (HB.out.trans (by have := HD1.out.stb; rw [hds] at this; exact this)), S2⟩
    · have hlez : ¬ (x : Int) + 20 ≤ (n : Int) := by omega
      have HC := Lib.hid (HIns.out x n dk wr hds S1.out hxn (Nat.le_refl _))
      go_wp2_with (go_at_fn 69; refine HC.out.mono ?_; rintro e w1 ⟨rfl, d1, hd1, hS1⟩; have HD1 := Lib.hid hd1; have S2 : Aside _ := hS1; clear hd1 hS1)
      have HBk : Hid (Blk (ltOf cf) (getF d1) 20 n) := Lib.hid (ins_fin HI.out (by rw [← HX.out]; exact HD1.out) (by have := HX.out; omega) (by have := HX.out; omega))
      have HB1 : Hid (Stb (ltOf cf) n (getF d0) (getF d1)) := Lib.hid (HB.out.trans (by have := HD1.out.stb; rw [hds] at this; exact this))
      have hds1 : d1.size = n := by rw [HD1.out.size, hds]
      clear HC HD1 S1 HI HB hlez hle hkx hxn
      go_loopg [6] n (fun kx s6 wr2 => ∃ (B : Nat) (dk : Array α), s6 = .int .i64 B ∧ 0 < B ∧ B ≤ 8020 ∧ n - B ≤ kx ∧ dk.size = n ∧ Hid (Blk (ltOf cf) (getF dk) B n) ∧ Hid (Stb (ltOf cf) n (getF d0) (getF dk)) ∧ Aside (SWK enc k w0 blk off dk wr2))
      case atStart => exact ⟨20, d1, rfl, by omega, by omega, by omega, hds1, HBk, HB1, S2⟩
      case round =>
        clear S2 HBk HB1 hds1
        obtain ⟨B, dk, rfl, hB0, hB1, hkB, hds, HBk, HB, S1⟩ := hrel
        by_cases hlt : B < n
        · have hltz : (B : Int) < (n : Int) := by omega
          go_wp2_with fail
          go_loopg [7, 8] (n + 1) (fun kx s7 s8 wr3 => ∃ (c x : Nat) (dj : Array α), s7 = .int .i64 x ∧ s8 = .int .i64 ((x : Int) + 2 * (B : Int)) ∧ Hid (x = c * (2 * B)) ∧ x ≤ n ∧ n + 1 - x ≤ kx ∧ dj.size = n ∧ Hid (MrgInv (ltOf cf) (getF dj) B c n) ∧ Hid (Stb (ltOf cf) n (getF d0) (getF dj)) ∧ Aside (SWK enc k w0 blk off dj wr3))
          case atStart => exact ⟨0, 0, dk, rfl, by first | rfl | (congr 1; omega), Lib.hid (by rw [Nat.zero_mul]), Nat.zero_le _, by omega, hds, Lib.hid (mrg_start HBk.out), HB, S1⟩
          case round =>
            clear S1 HB HBk hds
            obtain ⟨c, x, dj, rfl, rfl, HX, hxn, hkx, hds, HI, HB, S1⟩ := hrel
            by_cases hle : x + 2 * B ≤ n
            · have hlez : (x : Int) + 2 * (B : Int) ≤ (n : Int) := by omega
              have HC : Hid (Calls P 70 #[.slice (some ⟨blk, off, none⟩) n cap, .int .i64 x, .int .i64 ((x : Int) + (B : Int)), .int .i64 ((x : Int) + 2 * (B : Int)), .func (.func g) #[] cb] wr fun e w' => e = .returned (.tuple #[]) ∧ ∃ d', Merged (ltOf cf) x (x + 2 * B) dj d' ∧ SWK enc k w0 blk off d' w') := Lib.hid (by
                obtain ⟨p1, p2⟩ := mrg_pre HX.out HI.out (y := x + 2 * B) (Nat.le_refl _) hle
                rw [Nat.min_eq_left (by omega)] at p1
                have := HSym.out x (x + B) (x + 2 * B) dj wr hds S1.out (by omega) (by omega) hle p1 p2
                rw [show ((x + B : Nat) : Int) = (x : Int) + (B : Int) from by omega, show ((x + 2 * B : Nat) : Int) = (x : Int) + 2 * (B : Int) from by omega] at this
                exact this)
              go_wp2_with (go_at_fn 70; refine HC.out.mono ?_; rintro e w1 ⟨rfl, d2, hd2, hS2⟩; have HD2 := Lib.hid hd2; have S2 : Aside _ := hS2; clear hd2 hS2)
              go_roundg (n + 1 - (x + 2 * B))
              case measure => omega
              case rel => exact ⟨c + 1, x + 2 * B, d2, by first | rfl | go_num | (congr 1; omega), by first | rfl | go_num | (congr 1; omega), Lib.hid (dbl HX.out).2.2.1.symm, hle, Nat.le_refl _, by rw [HD2.out.size, hds], Lib.hid (mrg_step HX.out HI.out HD2.out), Lib.hid (HB.out.trans (by have := HD2.out.stb; rw [hds] at this; exact this)), S2⟩
            · have hlez : ¬ (x : Int) + 2 * (B : Int) ≤ (n : Int) := by omega
              by_cases hm : x + B < n
              · have hmz : (x : Int) + (B : Int) < (n : Int) := by omega
                have HC : Hid (Calls P 70 #[.slice (some ⟨blk, off, none⟩) n cap, .int .i64 x, .int .i64 ((x : Int) + (B : Int)), .int .i64 n, .func (.func g) #[] cb] wr fun e w' => e = .returned (.tuple #[]) ∧ ∃ d', Merged (ltOf cf) x n dj d' ∧ SWK enc k w0 blk off d' w') := Lib.hid (by
                  obtain ⟨p1, p2⟩ := mrg_pre HX.out HI.out (y := n) (by omega) (Nat.le_refl _)
                  rw [Nat.min_eq_left (by omega)] at p1
                  have := HSym.out x (x + B) n dj wr hds S1.out (by omega) (by omega) (Nat.le_refl _) p1 p2
                  rw [show ((x + B : Nat) : Int) = (x : Int) + (B : Int) from by omega] at this
                  exact this)
                go_wp2_with (go_at_fn 70; refine HC.out.mono ?_; rintro e w1 ⟨rfl, d2, hd2, hS2⟩; have HD2 := Lib.hid hd2; have S2 : Aside _ := hS2; clear hd2 hS2)
                go_roundg (n - 2 * B)
                case measure => omega
                case rel => exact ⟨2 * B, d2, by first | rfl | go_num | (congr 1; omega), by omega, by omega, Nat.le_refl _, by rw [HD2.out.size, hds], Lib.hid (mrg_fin HX.out HI.out HD2.out hxn (by omega)), Lib.hid (HB.out.trans (by have := HD2.out.stb; rw [hds] at this; exact this)), S2⟩
              · have hmz : ¬ (x : Int) + (B : Int) < (n : Int) := by omega
                go_wp2_with fail
                go_roundg (n - 2 * B)
                case measure => omega
                case rel => exact ⟨2 * B, dj, by first | rfl | go_num | (congr 1; omega), by omega, by omega, Nat.le_refl _, hds, Lib.hid (mrg_none HX.out HI.out hxn (by omega) hB0), HB, S1⟩
        · have hltz : ¬ (B : Int) < (n : Int) := by omega
          go_wp2_with fail
          go_end0
          exact ⟨rfl, dk, hds, HB.out, blk_all HBk.out (by omega), S1.out⟩

end Go.Proofs.Ytpmllckfijfehaa
