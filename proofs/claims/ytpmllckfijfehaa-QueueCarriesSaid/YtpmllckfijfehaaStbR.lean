/- slices.SortStableFunc's family at writes: the contract of rotateCmpFunc. -/
import Derived.Test.YtpmllckfijfehaaStbS
namespace Go.Proofs.Ytpmllckfijfehaa
open Go.Shelf Go.RowKit Go.Lib Go.Sort
variable {P : Program} {α : Type} [Inhabited α]

set_option maxHeartbeats 4000000 in
set_option maxRecDepth 1000000 in
/-- rotateCmpFunc: two stretches next to one another change places. -/
theorem rotate_any (L : StbLays P) (k : Nat) (aE : ∀ w, (isAgg 61).run P w = .ok true w) (zE : ∀ w, (Go.sizeOf 61).run P w = .ok k w) (enc : α → List Value) (g : Nat) (cb : Array Value) (blk off cap a m b : Nat) (d0 d : Array α) (w0 w : World)
    (R : RowK enc k w0 blk off d0) (hs : d.size = d0.size) (S : SWK enc k w0 blk off d w) (ham : a < m) (hmb : m < b) (hb : b ≤ d.size) (hsz : d.size ≤ 4000) :
    Calls P 71 #[.slice (some ⟨blk, off, none⟩) d.size cap, .int .i64 a, .int .i64 m, .int .i64 b, .func (.func g) #[] cb] w fun e w' => e = .returned (.tuple #[]) ∧ ∃ d', d'.size = d.size ∧ getF d' = rotF (getF d) a m b ∧ SWK enc k w0 blk off d' w' := by
  have mixed := L.mixed; have t0 := L.t0; have a0 := L.a0; have z0 := L.z0; have v0 := L.v0; have t3 := L.t3; have a3 := L.a3; have z3 := L.z3; have v3 := L.v3; have t4 := L.t4; have a4 := L.a4; have z4 := L.z4; have v4 := L.v4; have t22 := L.t22; have a22 := L.a22; have z22 := L.z22; have v22 := L.v22; have t46 := L.t46; have a46 := L.a46; have z46 := L.z46; have v46 := L.v46; have t80 := L.t80; have a80 := L.a80; have z80 := L.z80; have v80 := L.v80
  have u22 := run_underlying L.t22
  have e56 : ∀ args w, (callFunc 72 args).run P w = .ok (.enter 72 args) w := enters_of L.f_swr (by kernel_rfl) rfl
  have HC : Hid (∀ (x y n : Nat) (dk : Array α) (w1 : World), dk.size = d.size → SWK enc k w0 blk off dk w1 → x + n ≤ y → y + n ≤ d.size → Calls P 72 #[.slice (some ⟨blk, off, none⟩) d.size cap, .int .i64 x, .int .i64 y, .int .i64 n, .func (.func g) #[] cb] w1 fun e w' => e = .returned (.tuple #[]) ∧ ∃ d', d'.size = d.size ∧ getF d' = swapF (getF dk) x y n ∧ SWK enc k w0 blk off d' w') := Lib.hid (fun x y n dk w1 h1 h2 h3 h4 => by
    have := swapRange_any L k aE zE enc g cb blk off cap x y n d0 dk w0 w1 R (by omega) h2 h3 (by omega) (by omega)
    rw [h1] at this
    exact this)
  have FG := L.f_rot
  have S0 : Aside (SWK enc k w0 blk off d w) := S
  have HS := Lib.hid hs
  clear S hs aE zE R
  go_enter FG, Try.ntmps71
  go_wp2
  go_loopg [10, 11] (b - a) (fun kx s10 s11 wr => ∃ (i j : Nat) (dk : Array α), s10 = .int .i64 i ∧ s11 = .int .i64 j ∧ 0 < i ∧ 0 < j ∧ i + j ≤ kx ∧ a + i ≤ m ∧ m + j ≤ b ∧ dk.size = d.size ∧ Aside (SWK enc k w0 blk off dk wr) ∧ Hid (rotF (getF dk) (m - i) m (m + j) = rotF (getF d) a m b))
  case atStart => exact ⟨m - a, b - m, d, by first | rfl | (congr 1; omega), by first | rfl | (congr 1; omega), by omega, by omega, by omega, by omega, by omega, rfl, S0, Lib.hid (by rw [show m - (m - a) = a from by omega, show m + (b - m) = b from by omega])⟩
  case round =>
    clear S0
    obtain ⟨i, j, dk, rfl, rfl, hi, hj, hkx, hai, hbj, hds, S1, HE⟩ := hrel
    rcases Nat.lt_trichotomy i j with hij | hij | hij
    · have hne : ((i : Int) != (j : Int)) = true := by rw [bne_iff_ne]; omega
      have hgt : ¬ (j : Int) < (i : Int) := by omega
      have HC1 : Hid (Calls P 72 #[.slice (some ⟨blk, off, none⟩) d.size cap, .int .i64 ((m : Int) - (i : Int)), .int .i64 ((m : Int) + (j : Int) - (i : Int)), .int .i64 (i), .func (.func g) #[] cb] wr fun e w' => e = .returned (.tuple #[]) ∧ ∃ d', d'.size = d.size ∧ getF d' = swapF (getF dk) (m - i) (m + j - i) (i) ∧ SWK enc k w0 blk off d' w') := Lib.hid (by
        have := HC.out (m - i) (m + j - i) (i) dk wr hds S1.out (by omega) (by omega)
        rw [show (((m - i) : Nat) : Int) = (m : Int) - (i : Int) from by omega, show (((m + j - i) : Nat) : Int) = (m : Int) + (j : Int) - (i : Int) from by omega] at this
        exact this)
      go_wp2_with (go_at_fn 72; refine HC1.out.mono ?_; rintro e w1 ⟨rfl, d1, hd1, he1, hS1⟩; have HD1 := Lib.hid he1; have S2 : Aside _ := hS1; clear he1 hS1)
      go_roundg (i + (j - i))
      case measure => omega
      case rel => exact ⟨i, j - i, d1, rfl, by first | rfl | (congr 1; omega), hi, by omega, Nat.le_refl _, hai, by omega, hd1, S2, Lib.hid (by rw [HD1.out, show m + (j - i) = m + j - i from by omega, ← HE.out]; exact rotF_right _ _ _ _ _ (by omega) (by omega))⟩
    · subst hij
      have hne : ((i : Int) != (i : Int)) = false := by rw [bne_eq_false_iff_eq]
      have HC1 : Hid (Calls P 72 #[.slice (some ⟨blk, off, none⟩) d.size cap, .int .i64 ((m : Int) - (i : Int)), .int .i64 (m), .int .i64 (i), .func (.func g) #[] cb] wr fun e w' => e = .returned (.tuple #[]) ∧ ∃ d', d'.size = d.size ∧ getF d' = swapF (getF dk) (m - i) (m) (i) ∧ SWK enc k w0 blk off d' w') := Lib.hid (by
        have := HC.out (m - i) (m) (i) dk wr hds S1.out (by omega) (by omega)
        rw [show (((m - i) : Nat) : Int) = (m : Int) - (i : Int) from by omega] at this
        exact this)
      go_wp2_with (go_at_fn 72; refine HC1.out.mono ?_; rintro e w1 ⟨rfl, d1, hd1, he1, hS1⟩; have HD1 := Lib.hid he1; have S2 : Aside _ := hS1; clear he1 hS1)
      go_end0
      exact ⟨rfl, d1, hd1, by rw [HD1.out, ← HE.out]; exact swapF_rot _ _ _ _ (by omega), S2.out⟩
    · have hne : ((i : Int) != (j : Int)) = true := by rw [bne_iff_ne]; omega
      have hgt : (j : Int) < (i : Int) := by omega
      have HC1 : Hid (Calls P 72 #[.slice (some ⟨blk, off, none⟩) d.size cap, .int .i64 ((m : Int) - (i : Int)), .int .i64 (m), .int .i64 (j), .func (.func g) #[] cb] wr fun e w' => e = .returned (.tuple #[]) ∧ ∃ d', d'.size = d.size ∧ getF d' = swapF (getF dk) (m - i) (m) (j) ∧ SWK enc k w0 blk off d' w') := Lib.hid (by
        have := HC.out (m - i) (m) (j) dk wr hds S1.out (by omega) (by omega)
        rw [show (((m - i) : Nat) : Int) = (m : Int) - (i : Int) from by omega] at this
        exact this)
      go_wp2_with (go_at_fn 72; refine HC1.out.mono ?_; rintro e w1 ⟨rfl, d1, hd1, he1, hS1⟩; have HD1 := Lib.hid he1; have S2 : Aside _ := hS1; clear he1 hS1)
      go_roundg (i - j + j)
      case measure => omega
      case rel => exact ⟨i - j, j, d1, by first | rfl | (congr 1; omega), rfl, by omega, hj, by omega, by omega, hbj, hd1, S2, Lib.hid (by rw [HD1.out, show m - (i - j) = m - i + j from by omega, ← HE.out]; exact rotF_left _ _ _ _ _ rfl (by omega))⟩
end Go.Proofs.Ytpmllckfijfehaa
