/- slices.SortStableFunc's family at writes: what is asked of the program ('StbLays'); contracts of swapRangeCmpFunc and rotateCmpFunc. -/
import Derived.Test.YtpmllckfijfehaaVolM
import Derived.Test.YtpmllckfijfehaaStbP
import Derived.Shelf.SlSortCmp.KitK
import Derived.Sort.WalkB2
import Derived.Sort.WalkB12
import Derived.Deep.LoopGhost
namespace Go.Proofs.Ytpmllckfijfehaa
open Go.Shelf Go.RowKit Go.Lib Go.Sort

/-- What the walks ask of a program: these bodies, these types. -/
structure StbLays (P : Program) : Prop where
  mixed : P.follows .mixedOrders = true
  f_ins : P.funcs[69]? = some Try.f69
  f_sym : P.funcs[70]? = some Try.f70
  f_rot : P.funcs[71]? = some Try.f71
  f_swr : P.funcs[72]? = some Try.f72
  f_stb : P.funcs[65]? = some Try.f65
  f_srt : P.funcs[55]? = some Try.f55
  t0 : P.underlying 0 = some (TypeDesc.tuple #[])
  a0 : ∀ w, (isAgg 0).run P w = .ok false w
  z0 : ∀ w, (Go.sizeOf 0).run P w = .ok 1 w
  v0 : ∀ w, (zeroValue 0).run P w = .ok (Value.tuple #[]) w
  t3 : P.underlying 3 = some (TypeDesc.int IntKind.i64)
  a3 : ∀ w, (isAgg 3).run P w = .ok false w
  z3 : ∀ w, (Go.sizeOf 3).run P w = .ok 1 w
  v3 : ∀ w, (zeroValue 3).run P w = .ok (Value.int IntKind.i64 0) w
  t4 : P.underlying 4 = some (TypeDesc.bool)
  a4 : ∀ w, (isAgg 4).run P w = .ok false w
  z4 : ∀ w, (Go.sizeOf 4).run P w = .ok 1 w
  v4 : ∀ w, (zeroValue 4).run P w = .ok (Value.bool false) w
  t22 : P.underlying 23 = some (TypeDesc.slice 61)
  a22 : ∀ w, (isAgg 23).run P w = .ok false w
  z22 : ∀ w, (Go.sizeOf 23).run P w = .ok 1 w
  v22 : ∀ w, (zeroValue 23).run P w = .ok (Value.slice none 0 0) w
  t46 : P.underlying 78 = some (TypeDesc.func #[61, 61] #[3] false)
  a46 : ∀ w, (isAgg 78).run P w = .ok false w
  z46 : ∀ w, (Go.sizeOf 78).run P w = .ok 1 w
  v46 : ∀ w, (zeroValue 78).run P w = .ok (Value.nilFunc) w
  t80 : P.underlying 94 = some (TypeDesc.int IntKind.u64)
  a80 : ∀ w, (isAgg 94).run P w = .ok false w
  z80 : ∀ w, (Go.sizeOf 94).run P w = .ok 1 w
  v80 : ∀ w, (zeroValue 94).run P w = .ok (Value.int IntKind.u64 0) w

theorem Try.stbLays : StbLays Try.prog where
  mixed := by kernel_rfl
  f_ins := Try.func69
  f_sym := Try.func70
  f_rot := Try.func71
  f_swr := Try.func72
  f_stb := Try.func65
  f_srt := Try.func55
  t0 := Try.underlying0
  a0 := Try.isAgg0
  z0 := Try.sizeOf0
  v0 := Try.zeroValue0
  t3 := Try.underlying3
  a3 := Try.isAgg3
  z3 := Try.sizeOf3
  v3 := Try.zeroValue3
  t4 := Try.underlying4
  a4 := Try.isAgg4
  z4 := Try.sizeOf4
  v4 := Try.zeroValue4
  t22 := Try.underlying23
  a22 := Try.isAgg23
  z22 := Try.sizeOf23
  v22 := Try.zeroValue23
  t46 := Try.underlying78
  a46 := Try.isAgg78
  z46 := Try.sizeOf78
  v46 := Try.zeroValue78
  t80 := Try.underlying94
  a80 := Try.isAgg94
  z80 := Try.sizeOf94
  v80 := Try.zeroValue94

variable {P : Program} {α : Type} [Inhabited α]

set_option maxHeartbeats 4000000 in
set_option maxRecDepth 1000000 in
/-- swapRangeCmpFunc: two stretches of n elements that lie apart change places. -/
theorem swapRange_any (L : StbLays P) (k : Nat) (aE : ∀ w, (isAgg 61).run P w = .ok true w) (zE : ∀ w, (Go.sizeOf 61).run P w = .ok k w) (enc : α → List Value) (g : Nat) (cb : Array Value) (blk off cap a b n : Nat) (d0 d : Array α) (w0 w : World)
    (R : RowK enc k w0 blk off d0) (hs : d.size = d0.size) (S : SWK enc k w0 blk off d w) (hab : a + n ≤ b) (hb : b + n ≤ d.size) (hsz : d.size ≤ 4000) :
    Calls P 72 #[.slice (some ⟨blk, off, none⟩) d.size cap, .int .i64 a, .int .i64 b, .int .i64 n, .func (.func g) #[] cb] w fun e w' => e = .returned (.tuple #[]) ∧ ∃ d', d'.size = d.size ∧ getF d' = swapF (getF d) a b n ∧ SWK enc k w0 blk off d' w' := by
  have mixed := L.mixed; have t0 := L.t0; have a0 := L.a0; have z0 := L.z0; have v0 := L.v0; have t3 := L.t3; have a3 := L.a3; have z3 := L.z3; have v3 := L.v3; have t4 := L.t4; have a4 := L.a4; have z4 := L.z4; have v4 := L.v4; have t22 := L.t22; have a22 := L.a22; have z22 := L.z22; have v22 := L.v22; have t46 := L.t46; have a46 := L.a46; have z46 := L.z46; have v46 := L.v46; have t80 := L.t80; have a80 := L.a80; have z80 := L.z80; have v80 := L.v80
  have u22 := run_underlying L.t22
  have FG := L.f_swr
  have S0 : Aside (SWK enc k w0 blk off d w) := S
  clear S
  go_enter FG, Try.ntmps72
  go_wp2
  go_loopg [10] n (fun kx s10 wr => ∃ (i : Nat) (dk : Array α), s10 = .int .i64 i ∧ i ≤ n ∧ n - i ≤ kx ∧ dk.size = d.size ∧ Aside (SWK enc k w0 blk off dk wr) ∧ Hid (getF dk = swapF (getF d) a b i))
  case atStart => exact ⟨0, d, rfl, Nat.zero_le _, by omega, rfl, S0, Lib.hid (swapF_none _ _ _).symm⟩
  case round =>
    clear S0
    obtain ⟨i, dk, rfl, hi, hkx, hds, S1, HE⟩ := hrel
    by_cases hlt : i < n
    · have hltz : (i : Int) < (n : Int) := by omega
      go_wp2_with fail
      have ra1 : IntKind.i64.wrap ((a : Int) + (i : Int)) = (a : Int) + (i : Int) := by rw [IntKind.wrap_i64]; omega
      have ea1 : ((a : Int) + (i : Int)).toNat = a + i := by omega
      have pa1 : (0 : Int) ≤ (a : Int) + (i : Int) := by omega
      have ba1 : (a : Int) + (i : Int) < (d.size : Int) := by omega
      have rb1 : IntKind.i64.wrap ((b : Int) + (i : Int)) = (b : Int) + (i : Int) := by rw [IntKind.wrap_i64]; omega
      have eb1 : ((b : Int) + (i : Int)).toNat = b + i := by omega
      have pb1 : (0 : Int) ≤ (b : Int) + (i : Int) := by omega
      have bb1 : (b : Int) + (i : Int) < (d.size : Int) := by omega
      have S2 : Aside (SWK enc k w0 blk off (swp dk (a + i) (b + i)) ((wr.drew.setCells blk (off + (a + i) * k) (enc dk[b + i]!)).setCells blk (off + (b + i) * k) (enc dk[a + i]!))) := S1.out.swapped R (a + i) (b + i) (by omega) (by omega)
      have HE2 : Hid (getF (swp dk (a + i) (b + i)) = swapF (getF d) a b (i + 1)) := Lib.hid (getF_step hds hab hb hlt HE.out)
      have l1 := S1.out.ld1 R (by omega) P (a + i) (by omega)
      have l2 := S1.out.ld1 R (by omega) P (b + i) (by omega)
      have s1 := S1.out.st1 R (by omega) P (a + i) (by omega) dk[b + i]!
      have s2 := S1.out.st2 R (by omega) P (a + i) (b + i) (by omega) (by omega) dk[b + i]! dk[a + i]!
      have n1 : (enc dk[a + i]!).length = k := R.hk _
      have n2 : (enc dk[b + i]!).length = k := R.hk _
      generalize enc dk[a + i]! = cI at S2 l1 s2 n1
      generalize enc dk[b + i]! = cJ at S2 l2 s1 s2 n2
      clear S1 HE
      go_big_region_o
      clear l1 l2 s1 s2
      generalize (wr.drew.setCells blk (off + (a + i) * k) cJ).setCells blk (off + (b + i) * k) cI = w2 at S2 ⊢
      go_wp2
      go_roundg (n - (i + 1))
      case measure => omega
      case rel => exact ⟨i + 1, swp dk (a + i) (b + i), by go_num, by omega, Nat.le_refl _, by rw [size_swp]; exact hds, S2, HE2⟩
    · have hltz : ¬ (i : Int) < (n : Int) := by omega
      have hin : i = n := by omega
      go_wp2
      go_end0
      exact ⟨rfl, dk, hds.trans hs, by rw [HE.out, hin], S1.out⟩
end Go.Proofs.Ytpmllckfijfehaa
