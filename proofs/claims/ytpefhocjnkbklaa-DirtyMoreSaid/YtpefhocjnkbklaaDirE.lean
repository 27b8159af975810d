/- Bitmaps: contract of bits.OnesCount64. -/
import Derived.Test.YtpefhocjnkbklaaDirD
namespace Go.Proofs.Ytpefhocjnkbklaa
open Go.RowKit

/-! ### How many bits are set, byte by byte -/

theorem and_part (k a b c d : Nat) (ha : a < 2 ^ k) (hc : c < 2 ^ k) : (a + 2 ^ k * b) &&& (c + 2 ^ k * d) = (a &&& c) + 2 ^ k * (b &&& d) := by
  have hac : a &&& c < 2 ^ k := Nat.and_lt_two_pow _ hc
  apply Nat.eq_of_testBit_eq
  intro i
  rw [Nat.testBit_and, Nat.add_comm a, Nat.add_comm c, Nat.add_comm (a &&& c), Nat.testBit_two_pow_mul_add _ ha, Nat.testBit_two_pow_mul_add _ hc, Nat.testBit_two_pow_mul_add _ hac]
  split <;> simp
theorem and_byte (a b c d : Nat) (ha : a < 256) (hc : c < 256) : (a + 256 * b) &&& (c + 256 * d) = (a &&& c) + 256 * (b &&& d) := and_part 8 a b c d ha hc
theorem and_four (a0 a1 a2 a3 c r : Nat) (h0 : a0 < 256) (h1 : a1 < 256) (h2 : a2 < 256) (h3 : a3 < 256) (hc : c < 256) :
    (a0 + 256 * (a1 + 256 * (a2 + 256 * a3))) &&& (c + 256 * (c + 256 * (c + 256 * (c + 256 * r)))) = (a0 &&& c) + 256 * ((a1 &&& c) + 256 * ((a2 &&& c) + 256 * (a3 &&& c))) := by
  rw [and_byte _ _ _ _ h0 hc, and_byte _ _ _ _ h1 hc, and_byte _ _ _ _ h2 hc]
  have : a3 &&& (c + 256 * r) = a3 &&& c := by
    have := and_byte a3 0 c r h3 hc
    simpa using this
  rw [this]
def f1 (a : Nat) : Nat := (a / 2 &&& 85) + (a &&& 85)
def f2 (a : Nat) : Nat := (a / 4 &&& 51) + (a &&& 51)
def f3 (a : Nat) : Nat := a / 16 + a % 16
theorem byte1 : ∀ a : Fin 256, ∀ c : Fin 2, (a.val / 2 + 128 * c.val) &&& 85 = a.val / 2 &&& 85 := by decide +kernel
theorem byte2 : ∀ a : Fin 256, ∀ c : Fin 4, (a.val / 4 + 64 * c.val) &&& 51 = a.val / 4 &&& 51 := by decide +kernel
theorem f1_le : ∀ a : Fin 256, f1 a.val ≤ 170 := by decide +kernel
theorem f2_nib : ∀ a : Fin 256, f2 (f1 a.val) % 16 ≤ 4 ∧ f2 (f1 a.val) / 16 ≤ 4 := by decide +kernel
theorem byte3 : ∀ d : Fin 69, ∀ c : Fin 5, d.val % 16 ≤ 4 → d.val / 16 ≤ 4 → (d.val / 16 + 16 * c.val + d.val) &&& 15 = f3 d.val := by decide +kernel
theorem pop_byte : ∀ a : Fin 256, f3 (f2 (f1 a.val)) = (bitsAt a.val 0 8).length := by decide +kernel
theorem bitsAt_join (x k n m : Nat) : bitsAt x k (n + m) = bitsAt x k n ++ bitsAt x (k + n) m := by
  induction n generalizing k with
  | zero => simp [bitsAt]
  | succ n ih =>
    rw [show n + 1 + m = (n + m) + 1 from by omega, bitsAt, bitsAt, ih, show k + 1 + n = k + (n + 1) from by omega]
    split <;> simp
theorem bitsAt_shift {x y k j n : Nat} (h : ∀ i, i < n → x.testBit (k + i) = y.testBit (j + i)) : (bitsAt x k n).length = (bitsAt y j n).length := by
  induction n generalizing k j with
  | zero => rfl
  | succ n ih =>
    have h0 := h 0 (by omega)
    have := ih (k := k + 1) (j := j + 1) fun i hi => by
      have := h (i + 1) (by omega)
      rw [show k + (i + 1) = k + 1 + i from by omega, show j + (i + 1) = j + 1 + i from by omega] at this
      exact this
    rw [bitsAt, bitsAt]
    simp only [Nat.add_zero] at h0
    rw [h0]
    split <;> simp [this]
theorem bits_of_byte (x s : Nat) : (bitsAt x s 8).length = (bitsAt (x / 2 ^ s % 256) 0 8).length := bitsAt_shift fun i hi => by
  rw [show (256 : Nat) = 2 ^ 8 from rfl, Nat.testBit_mod_two_pow, Nat.testBit_div_two_pow]
  simp [hi, Nat.add_comm]
theorem pop_four (x : Nat) : popN x = f3 (f2 (f1 (x % 256))) + f3 (f2 (f1 (x / 256 % 256))) + f3 (f2 (f1 (x / 65536 % 256))) + f3 (f2 (f1 (x / 16777216 % 256))) := by
  have b := fun a (h : a < 256) => pop_byte ⟨a, h⟩
  simp only at b
  rw [b _ (Nat.mod_lt _ (by decide)), b _ (Nat.mod_lt _ (by decide)), b _ (Nat.mod_lt _ (by decide)), b _ (Nat.mod_lt _ (by decide))]
  unfold popN
  rw [show (32 : Nat) = 8 + (8 + (8 + 8)) from rfl, bitsAt_join, bitsAt_join, bitsAt_join]
  simp only [List.length_append]
  rw [bits_of_byte x 0, bits_of_byte x (0 + 8), bits_of_byte x (0 + 8 + 8), bits_of_byte x (0 + 8 + 8 + 8)]
  simp only [Nat.zero_add, Nat.reduceAdd, Nat.reducePow, Nat.div_one]
  omega
theorem sum_four {p0 p1 p2 p3 : Nat} (h0 : p0 ≤ 8) (h1 : p1 ≤ 8) (h2 : p2 ≤ 8) (h3 : p3 ≤ 8) {y : Nat} (hy : y = p0 + 256 * (p1 + 256 * (p2 + 256 * p3))) : (y + y / 256 + (y + y / 256) / 65536) % 128 = p0 + p1 + p2 + p3 := by
  have e1 : y / 256 = p1 + 256 * (p2 + 256 * p3) := by omega
  rw [e1, hy]
  have e2 : (p0 + 256 * (p1 + 256 * (p2 + 256 * p3)) + (p1 + 256 * (p2 + 256 * p3))) / 65536 = p2 + p3 + 256 * p3 := by omega
  rw [e2]
  omega
/-- The steps of OnesCount64. -/
theorem ones_steps (x : Nat) (h : x < 4294967296) : ∃ y1 y2 y3 : Nat, y1 < 4294967296 ∧ y2 < 2147483648 ∧ y3 < 2147483648 ∧
    (x / 2 &&& 6148914691236517205) + (x &&& 6148914691236517205) = y1 ∧ (y1 / 4 &&& 3689348814741910323) + (y1 &&& 3689348814741910323) = y2 ∧
    (y2 / 16 + y2) &&& 1085102592571150095 = y3 ∧ (y3 + y3 / 256 + (y3 + y3 / 256) / 65536) % 128 = popN x := by
  obtain ⟨a0, a1, a2, a3, h0, h1, h2, h3, hx⟩ : ∃ a0 a1 a2 a3 : Nat, a0 < 256 ∧ a1 < 256 ∧ a2 < 256 ∧ a3 < 256 ∧ x = a0 + 256 * (a1 + 256 * (a2 + 256 * a3)) :=
    ⟨x % 256, x / 256 % 256, x / 65536 % 256, x / 16777216 % 256, by omega, by omega, by omega, by omega, by omega⟩
  have hp : popN x = f3 (f2 (f1 a0)) + f3 (f2 (f1 a1)) + f3 (f2 (f1 a2)) + f3 (f2 (f1 a3)) := by
    rw [pop_four, show x % 256 = a0 from by omega, show x / 256 % 256 = a1 from by omega, show x / 65536 % 256 = a2 from by omega, show x / 16777216 % 256 = a3 from by omega]
  have l1 := fun a (h : a < 256) => f1_le ⟨a, h⟩
  have n2 := fun a (h : a < 256) => f2_nib ⟨a, h⟩
  simp only at l1 n2
  have m1 : (6148914691236517205 : Nat) = 85 + 256 * (85 + 256 * (85 + 256 * (85 + 256 * 1431655765))) := rfl
  have m2 : (3689348814741910323 : Nat) = 51 + 256 * (51 + 256 * (51 + 256 * (51 + 256 * 858993459))) := rfl
  have m3 : (1085102592571150095 : Nat) = 15 + 256 * (15 + 256 * (15 + 256 * (15 + 256 * 252645135))) := rfl
  have e1 : (x / 2 &&& 6148914691236517205) + (x &&& 6148914691236517205) = f1 a0 + 256 * (f1 a1 + 256 * (f1 a2 + 256 * f1 a3)) := by
    have hd : x / 2 = (a0 / 2 + 128 * (a1 % 2)) + 256 * ((a1 / 2 + 128 * (a2 % 2)) + 256 * ((a2 / 2 + 128 * (a3 % 2)) + 256 * (a3 / 2))) := by omega
    have t0 := byte1 ⟨a0, h0⟩ ⟨a1 % 2, by omega⟩
    have t1 := byte1 ⟨a1, h1⟩ ⟨a2 % 2, by omega⟩
    have t2 := byte1 ⟨a2, h2⟩ ⟨a3 % 2, by omega⟩
    simp only at t0 t1 t2
    rw [m1, hd, and_four _ _ _ _ _ _ (by omega) (by omega) (by omega) (by omega) (by decide), t0, t1, t2, hx, and_four _ _ _ _ _ _ h0 h1 h2 h3 (by decide)]
    unfold f1
    omega
  have q0 := l1 a0 h0; have q1 := l1 a1 h1; have q2 := l1 a2 h2; have q3 := l1 a3 h3
  obtain ⟨b0, hb0⟩ : ∃ b, f1 a0 = b := ⟨_, rfl⟩
  obtain ⟨b1, hb1⟩ : ∃ b, f1 a1 = b := ⟨_, rfl⟩
  obtain ⟨b2, hb2⟩ : ∃ b, f1 a2 = b := ⟨_, rfl⟩
  obtain ⟨b3, hb3⟩ : ∃ b, f1 a3 = b := ⟨_, rfl⟩
  have r0 := n2 a0 h0; have r1 := n2 a1 h1; have r2 := n2 a2 h2; have r3 := n2 a3 h3
  rw [hb0] at e1 q0 r0 hp
  rw [hb1] at e1 q1 r1 hp
  rw [hb2] at e1 q2 r2 hp
  rw [hb3] at e1 q3 r3 hp
  have e2 : ((b0 + 256 * (b1 + 256 * (b2 + 256 * b3))) / 4 &&& 3689348814741910323) + ((b0 + 256 * (b1 + 256 * (b2 + 256 * b3))) &&& 3689348814741910323) = f2 b0 + 256 * (f2 b1 + 256 * (f2 b2 + 256 * f2 b3)) := by
    have hd : (b0 + 256 * (b1 + 256 * (b2 + 256 * b3))) / 4 = (b0 / 4 + 64 * (b1 % 4)) + 256 * ((b1 / 4 + 64 * (b2 % 4)) + 256 * ((b2 / 4 + 64 * (b3 % 4)) + 256 * (b3 / 4))) := by omega
    have t0 := byte2 ⟨b0, by omega⟩ ⟨b1 % 4, by omega⟩
    have t1 := byte2 ⟨b1, by omega⟩ ⟨b2 % 4, by omega⟩
    have t2 := byte2 ⟨b2, by omega⟩ ⟨b3 % 4, by omega⟩
    simp only at t0 t1 t2
    rw [m2, hd, and_four _ _ _ _ _ _ (by omega) (by omega) (by omega) (by omega) (by decide), t0, t1, t2, and_four _ _ _ _ _ _ (by omega) (by omega) (by omega) (by omega) (by decide)]
    unfold f2
    omega
  obtain ⟨d0, hd0⟩ : ∃ b, f2 b0 = b := ⟨_, rfl⟩
  obtain ⟨d1, hd1⟩ : ∃ b, f2 b1 = b := ⟨_, rfl⟩
  obtain ⟨d2, hd2⟩ : ∃ b, f2 b2 = b := ⟨_, rfl⟩
  obtain ⟨d3, hd3⟩ : ∃ b, f2 b3 = b := ⟨_, rfl⟩
  rw [hd0] at e2 r0 hp
  rw [hd1] at e2 r1 hp
  rw [hd2] at e2 r2 hp
  rw [hd3] at e2 r3 hp
  have e3 : ((d0 + 256 * (d1 + 256 * (d2 + 256 * d3))) / 16 + (d0 + 256 * (d1 + 256 * (d2 + 256 * d3)))) &&& 1085102592571150095 = f3 d0 + 256 * (f3 d1 + 256 * (f3 d2 + 256 * f3 d3)) := by
    have hd : (d0 + 256 * (d1 + 256 * (d2 + 256 * d3))) / 16 + (d0 + 256 * (d1 + 256 * (d2 + 256 * d3))) = (d0 / 16 + 16 * (d1 % 16) + d0) + 256 * ((d1 / 16 + 16 * (d2 % 16) + d1) + 256 * ((d2 / 16 + 16 * (d3 % 16) + d2) + 256 * (d3 / 16 + 16 * 0 + d3))) := by omega
    have t0 := byte3 ⟨d0, by omega⟩ ⟨d1 % 16, by omega⟩ r0.1 r0.2
    have t1 := byte3 ⟨d1, by omega⟩ ⟨d2 % 16, by omega⟩ r1.1 r1.2
    have t2 := byte3 ⟨d2, by omega⟩ ⟨d3 % 16, by omega⟩ r2.1 r2.2
    have t3 := byte3 ⟨d3, by omega⟩ ⟨0, by omega⟩ r3.1 r3.2
    simp only at t0 t1 t2 t3
    rw [m3, hd, and_four _ _ _ _ _ _ (by omega) (by omega) (by omega) (by omega) (by decide), t0, t1, t2, t3]
  have s0 : f3 d0 ≤ 8 := by unfold f3; omega
  have s1 : f3 d1 ≤ 8 := by unfold f3; omega
  have s2 : f3 d2 ≤ 8 := by unfold f3; omega
  have s3 : f3 d3 ≤ 8 := by unfold f3; omega
  refine ⟨_, _, _, ?_, ?_, ?_, e1, e2, e3, ?_⟩
  · omega
  · omega
  · omega
  · rw [hp]; exact sum_four s0 s1 s2 s3 rfl

theorem land127 (y : Nat) : y &&& 127 = y % 128 := Nat.and_two_pow_sub_one_eq_mod y 7
theorem i64_and127 {y : Int} (h0 : 0 ≤ y) (h1 : y < 9223372036854775808) : bits .and .i64 y 127 = y % 128 := by
  obtain ⟨n, rfl⟩ := Int.eq_ofNat_of_zero_le h0
  show IntKind.i64.wrap ((BitVec.ofInt 64 (n : Int) &&& BitVec.ofInt 64 127).toNat : Int) = _
  rw [show (127 : Int) = ((127 : Nat) : Int) from rfl, BitVec.toNat_and, BitVec.ofInt_natCast, BitVec.ofInt_natCast, BitVec.toNat_ofNat, BitVec.toNat_ofNat, Nat.mod_eq_of_lt (by omega : n < 2 ^ 64), Nat.mod_eq_of_lt (by decide : 127 < 2 ^ 64), land127, IntKind.wrap_i64]
  omega

set_option maxHeartbeats 1000000 in
theorem ones_any (x : Int) (w : World) (h0 : 0 ≤ x) (h1 : x ≤ 4294967295) : Calls Try.prog 43 #[.int .u64 x] w fun e w' => e = .returned (.int .i64 (popN x.toNat)) ∧ w' = w := by
  obtain ⟨X, rfl⟩ := Int.eq_ofNat_of_zero_le h0
  rw [Int.toNat_natCast]
  obtain ⟨y1, y2, y3, l1, l2, l3, e1, e2, e3, e4⟩ := ones_steps X (by omega)
  have g1 : IntKind.u64.wrap (bits .and .u64 ((X : Int) / 2) 6148914691236517205 + bits .and .u64 (X : Int) 6148914691236517205) = (y1 : Int) := by
    rw [u64_and _ _ (by omega) (by omega) (by omega) (by omega), u64_and _ _ (by omega) (by omega) (by omega) (by omega), IntKind.wrap_u64]
    rw [show ((X : Int) / 2).toNat = X / 2 from by omega, Int.toNat_natCast, show (6148914691236517205 : Int).toNat = 6148914691236517205 from rfl]
    omega
  have g2 : IntKind.u64.wrap (bits .and .u64 ((y1 : Int) / 4) 3689348814741910323 + bits .and .u64 (y1 : Int) 3689348814741910323) = (y2 : Int) := by
    rw [u64_and _ _ (by omega) (by omega) (by omega) (by omega), u64_and _ _ (by omega) (by omega) (by omega) (by omega), IntKind.wrap_u64]
    rw [show ((y1 : Int) / 4).toNat = y1 / 4 from by omega, Int.toNat_natCast, show (3689348814741910323 : Int).toNat = 3689348814741910323 from rfl]
    omega
  have g3 : bits .and .u64 (IntKind.u64.wrap ((y2 : Int) / 16 + y2)) 1085102592571150095 = (y3 : Int) := by
    rw [IntKind.wrap_u64, show ((y2 : Int) / 16 + y2) % 18446744073709551616 = ((y2 / 16 + y2 : Nat) : Int) from by omega, u64_and _ _ (by omega) (by omega) (by omega) (by omega)]
    rw [Int.toNat_natCast, show (1085102592571150095 : Int).toNat = 1085102592571150095 from rfl]
    omega
  obtain ⟨y4, h4⟩ : ∃ y4 : Nat, y4 = y3 + y3 / 256 := ⟨_, rfl⟩
  obtain ⟨y5, h5⟩ : ∃ y5 : Nat, y5 = y4 + y4 / 65536 := ⟨_, rfl⟩
  have b4 : y4 ≤ 2155872255 := by omega
  have b5 : y5 < 4294967296 := by omega
  have g4 : IntKind.u64.wrap ((y3 : Int) + (y3 : Int) / 256) = (y4 : Int) := by rw [IntKind.wrap_u64]; omega
  have g5 : IntKind.u64.wrap ((y4 : Int) + (y4 : Int) / 65536) = (y5 : Int) := by rw [IntKind.wrap_u64]; omega
  have g6 : IntKind.u64.wrap ((y5 : Int) + (y5 : Int) / 4294967296) = (y5 : Int) := by
    have z : (y5 : Int) / 4294967296 = 0 := Int.ediv_eq_zero_of_lt (by omega) (by omega)
    rw [IntKind.wrap_u64, z, Int.add_zero]
    exact Int.emod_eq_of_lt (by omega) (by omega)
  have g7 : IntKind.i64.wrap (y5 : Int) = (y5 : Int) := by rw [IntKind.wrap_i64]; omega
  have g8 : bits .and .i64 (y5 : Int) 127 = (popN X : Int) := by rw [i64_and127 (by omega) (by omega)]; rw [← h4, ← h5] at e4; omega
  clear e1 e2 e3 e4 h4 h5 l1 l2 l3 b4 b5
  obtain ⟨p, hp⟩ : ∃ p : Int, (popN X : Int) = p := ⟨_, rfl⟩
  rw [hp] at g8 ⊢
  clear hp
  go_enter Try.func43, Try.ntmps43
  go_wp2
  go_ret
  exact ⟨rfl, rfl⟩
end Go.Proofs.Ytpefhocjnkbklaa
