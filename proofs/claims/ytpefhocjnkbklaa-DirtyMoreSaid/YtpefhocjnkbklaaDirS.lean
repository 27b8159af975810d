/- Bitmaps as bytes: plain; contracts of both Bytes. -/
import Derived.Test.YtpefhocjnkbklaaDirG
import Derived.Test.YtpefhocjnkbklaaOctet
import Derived.Test.YtpefhocjnkbklaaShelf2
namespace Go.Proofs.Ytpefhocjnkbklaa
open Go.RowKit

theorem builder_below {T e : TypeId} {B b : Nat} {p : Value} {bs : List Value} {w w' : World} (h : Lib.BuilderAt T e B b p bs w) (hb : Below w.heap.size w w') : Lib.BuilderAt T e B b p bs w' := by
  have hlt := h.lt
  obtain ⟨hB, v, hk, hown, hne⟩ := h
  exact ⟨hB, v, (hb.block b hlt).trans hk, own_kept hown hb, hne⟩
theorem cells_cat (l m : List UInt8) : Lib.byteCells l ++ Lib.strCells (str m) = Lib.byteCells (l ++ m) := by rw [Lib.byteCells_append]; rfl

/-- The bytes of one element, and of all. -/
def eltB (b : Bt) : List UInt8 := enc 1 b.vol.toNat ++ enc 4 b.mask.toNat
def eltsB (m : List Bt) : List UInt8 := m.flatMap eltB
def bytM (m : List Bt) : List UInt8 := enc 1 m.length ++ eltsB m
theorem eltB_length (b : Bt) : (eltB b).length = 5 := by unfold eltB; rw [List.length_append, enc_length, enc_length]
theorem eltsB_take {m : List Bt} {k : Nat} (hk : k < m.length) : eltsB (m.take (k + 1)) = eltsB (m.take k) ++ eltB m[k] := by
  unfold eltsB
  rw [List.take_succ_eq_append_getElem hk, List.flatMap_append]; simp
theorem eltsB_length (m : List Bt) : (eltsB m).length = m.length * 5 := by
  induction m with
  | nil => rfl
  | cons b r ih =>
    show (eltB b ++ eltsB r).length = _
    rw [List.length_append, ih, eltB_length, List.length_cons]; omega

/-- A number that fits is put. -/
theorem Put_fits (x k : Nat) (w : World) (h1 : 1 ≤ k) (h2 : k ≤ 8) (hx : x < 256 ^ k) (hm : x ≤ 9223372036854775807) :
    Calls Try.prog 44 #[.int .i64 x, .int .i64 k] w fun e w' => e = .returned (.tuple #[.string (str (enc k x)), .int .i64 0]) ∧ Below w.heap.size w w' := by
  have h := putE_ok h1 h2 hx
  have := Put_any (x : Int) (k : Int) w (by omega)
  rw [putB_ok h, h] at this
  exact this

set_option maxHeartbeats 4000000 in
set_option maxRecDepth 100000 in
theorem Bytes_not {w : World} {A : Option Addr} {c : Nat} {m : List Bt} (h : BtsAt w w.heap.size A m) (hf : BtsFit m) (hr : bitsOk m = false) :
    Calls Try.prog 32 #[.slice A m.length c] w fun e w' => e = .returned (.tuple #[.string ⟨#[]⟩, .int .i64 1]) ∧ Below w.heap.size w w' := by
  have HR : Hid (∀ c, Calls Try.prog 12 #[.slice A m.length c] w fun e w' => e = .returned (.bool false) ∧ Below w.heap.size w w') := Lib.hid (fun c => by
    refine (DirRight_any h hf.1).mono ?_; rw [hr]; exact fun _ _ h => h)
  clear h hf hr
  go_enter Try.func32, Try.ntmps32
  go_wp2_with (go_at_call 12; refine (HR.out _).mono ?_; rintro e w1 ⟨rfl, hb⟩; replace hb := Lib.hid hb)
  go_ret2
  exact ⟨rfl, hb.out⟩

set_option maxHeartbeats 4000000 in
set_option maxRecDepth 100000 in
theorem Bytes_ok {w : World} {A : Option Addr} {c : Nat} {m : List Bt} (h : BtsAt w w.heap.size A m) (hf : BtsFit m) (hr : bitsOk m = true) :
    Calls Try.prog 32 #[.slice A m.length c] w fun e w' => e = .returned (.tuple #[.string (str (bytM m)), .int .i64 0]) ∧ Below w.heap.size w w' := by
  have HV := Lib.hid h
  have HAll := Lib.hid (bitsFrom_le hr)
  have HF := Lib.hid hf
  have hl := bitsOk_length hr
  obtain ⟨n, hn⟩ : ∃ n, m.length = n := ⟨_, rfl⟩
  have HN := Lib.hid hn
  have HR : Hid (∀ c, Calls Try.prog 12 #[.slice A n c] w fun e w' => e = .returned (.bool true) ∧ Below w.heap.size w w') := Lib.hid (fun c => by
    rw [← hn]; refine (DirRight_any h hf.1).mono ?_; rw [hr]; exact fun _ _ h => h)
  have HP1 : Hid (∀ (x : Nat) w, x < 256 → Calls Try.prog 44 #[.int .i64 x, .int .i64 1] w fun e w' => e = .returned (.tuple #[.string (str (enc 1 x)), .int .i64 0]) ∧ Below w.heap.size w w') := Lib.hid fun x w hx => Put_fits x 1 w (by omega) (by omega) (by omega) (by omega)
  have HP4 : Hid (∀ (x : Nat) w, x < 4294967296 → Calls Try.prog 44 #[.int .i64 x, .int .i64 4] w fun e w' => e = .returned (.tuple #[.string (str (enc 4 x)), .int .i64 0]) ∧ Below w.heap.size w w') := Lib.hid fun x w hx => Put_fits x 4 w (by omega) (by omega) (by omega) (by omega)
  rw [hn] at hl ⊢
  clear h hf hr hn
  go_enter Try.func32, Try.ntmps32
  go_wp2_with (go_at_call 12; refine (HR.out _).mono ?_; rintro e w1 ⟨rfl, hb⟩; replace hb := Lib.hid hb)
  refine (HP1.out n _ (by omega)).mono ?_
  rintro e w2 ⟨rfl, hb2⟩
  have HB2 := Lib.hid (below_next hb.out hb2)
  clear hb hb2
  have Hnew : Hid ((w2.alloc (.cells #[.pointer none, .slice none 0 0] 83)).heap[w2.heap.size]? = some (.cells #[.pointer none, .slice none 0 0] 83 (0, 0))) := Lib.hid (heap_alloc_new w2 _)
  go_wp2_with fail
  refine (Try.Builder_WriteString w2.heap.size w2.heap.size [] (str (enc 1 n)) _ (.inl ⟨Nat.le_refl _, .slice none 0 0, Hnew.out, World.ownsRow_nil _ _ _ _, by simp [Value.ownBlock]⟩) (by rw [str_size, enc_length]; simp) (by simp)).mono ?_
  rintro e w3 ⟨rfl, hb3, hbel3⟩
  rw [show ([] : List Value) = Lib.byteCells [] from rfl, cells_cat, List.nil_append] at hb3
  have HBel3 : Hid (Below w2.heap.size w2 w3) := Lib.hid (((Below.refl _ _).alloc (Nat.le_refl _) _).trans hbel3)
  have HBu3 := Lib.hid hb3
  clear hb3 hbel3 Hnew
  go_wp2_with fail
  go_loopg [26] n (fun kx s26 wr => ∃ k : Nat, s26 = .int .i64 k ∧ k ≤ n ∧ n - k ≤ kx ∧ Hid (Lib.BuilderAt 83 5 w2.heap.size w2.heap.size (.pointer (some ⟨w2.heap.size, 0, none⟩)) (Lib.byteCells (enc 1 n ++ eltsB (m.take k))) wr) ∧ Hid (Below w2.heap.size w2 wr))
  case atStart => exact ⟨0, rfl, Nat.zero_le _, by omega, Lib.hid (by simpa [eltsB] using HBu3.out), HBel3⟩
  case round =>
    clear HBu3 HBel3
    obtain ⟨k, rfl, hk, hkx, HBu, HBel⟩ := hrel
    by_cases hlt : k < n
    · have hltz : (k : Int) < (n : Int) := by omega
      have hkl : k < m.length := by rw [HN.out]; exact hlt
      have HBW := Lib.hid (HB2.out.trans (HBel.out.mono HB2.out.size))
      obtain ⟨b, off, hA, hbl, c1, c2⟩ := HV.out.at_ HBW.out hkl
      have hbw : b < wr.heap.size := Nat.lt_of_lt_of_le hbl HBW.out.size
      have hwz : w2.heap.size ≤ wr.heap.size := HBel.out.size
      subst hA
      have HT := Lib.hid (eltsB_take hkl)
      have HMk := Lib.hid (HAll.out _ (List.getElem_mem hkl))
      have HMf := Lib.hid (HF.out.2 _ (List.getElem_mem hkl))
      obtain ⟨x, hx⟩ : ∃ x, m[k] = x := ⟨_, rfl⟩
      rw [hx] at c1 c2 HT HMk HMf
      clear hx hkl
      obtain ⟨i1, u1⟩ := x
      simp only at c1 c2 HT HMk HMf
      obtain ⟨V, hV⟩ : ∃ V : Nat, i1 = (V : Int) := ⟨i1.toNat, by have := HMk.out; omega⟩
      obtain ⟨U, hU⟩ : ∃ U : Nat, u1 = (U : Int) := ⟨u1.toNat, by have := HMf.out; omega⟩
      subst hV hU
      have hV2 : V < 256 := by have := HMk.out; omega
      have hU2 : U < 4294967296 := by have := HMk.out; omega
      have HS : Hid (enc 1 n ++ eltsB (m.take (k + 1)) = (enc 1 n ++ eltsB (m.take k)) ++ enc 1 V ++ enc 4 U) := Lib.hid (by
        rw [HT.out, eltB, Int.toNat_natCast, Int.toNat_natCast]; simp)
      have hdl : (enc 1 n ++ eltsB (m.take k)).length ≤ 10000 := by rw [List.length_append, enc_length, eltsB_length, List.length_take]; omega
      generalize enc 1 n ++ eltsB (m.take k) = done at HBu hdl HS
      have K3 : Hid ((wr.alloc (.cells #[.int .i64 V, .int .u64 U] 66)).heap[wr.heap.size]? = some (.cells #[.int .i64 V, .int .u64 U] 66 (0, 0))) := Lib.hid (heap_alloc_new _ _)
      have K4 : Hid (Below w2.heap.size w2 (wr.alloc (.cells #[.int .i64 V, .int .u64 U] 66))) := Lib.hid (HBel.out.alloc hwz _)
      have K5 := Lib.hid (builder_below HBu.out ((Below.refl _ _).alloc (Nat.le_refl _) (.cells #[.int .i64 V, .int .u64 U] 66)))
      have hB7 : wr.heap.size < (wr.alloc (.cells #[.int .i64 V, .int .u64 U] 66)).heap.size := by simp
      have hw : IntKind.i64.wrap (U : Int) = (U : Int) := by rw [IntKind.wrap_i64]; omega
      clear HBu HBel HBW HT HMk HMf hbl hwz
      go_wp2_with fail
      refine (HP1.out V _ hV2).mono ?_
      rintro e w4 ⟨rfl, hb4⟩
      have K6 : Hid (Below w2.heap.size w2 w4) := Lib.hid (below_next K4.out hb4)
      have K7 := Lib.hid (builder_below K5.out hb4)
      have e2 : w4.cell? ⟨wr.heap.size, 1, none⟩ = some (.int .u64 U) := by rw [hb4.cell (p := ⟨wr.heap.size, 1, none⟩) hB7, Lib.cell_of_heap K3.out]; rfl
      clear hb4 K3 K4 K5 hB7 c1 c2
      go_wp2_with fail
      refine (HP4.out U _ hU2).mono ?_
      rintro e w5 ⟨rfl, hb5⟩
      have K8 : Hid (Below w2.heap.size w2 w5) := Lib.hid (below_next K6.out hb5)
      have K9 := Lib.hid (builder_below K7.out hb5)
      clear hb5 e2 K6 K7
      go_wp2_with fail
      refine (Try.Builder_WriteString w2.heap.size w2.heap.size _ (str (enc 1 V)) _ (.inr K9.out) (by rw [Lib.byteCells_length, str_size, enc_length]; omega) K8.out.size).mono ?_
      rintro e w6 ⟨rfl, hb6, hbel6⟩
      rw [cells_cat] at hb6
      have K10 : Hid (Below w2.heap.size w2 w6) := Lib.hid (K8.out.trans hbel6)
      have K11 := Lib.hid hb6
      clear hb6 hbel6 K8 K9
      go_wp2_with fail
      refine (Try.Builder_WriteString w2.heap.size w2.heap.size _ (str (enc 4 U)) _ (.inr K11.out) (by rw [Lib.byteCells_length, List.length_append, str_size, enc_length, enc_length]; omega) K10.out.size).mono ?_
      rintro e w7 ⟨rfl, hb7, hbel7⟩
      rw [cells_cat, ← HS.out] at hb7
      have K12 : Hid (Below w2.heap.size w2 w7) := Lib.hid (K10.out.trans hbel7)
      have K13 := Lib.hid hb7
      clear hb7 hbel7 K10 K11
      go_wp2_with fail
      go_roundg (n - (k + 1))
      case measure => omega
      case rel => exact ⟨k + 1, by go_num, by omega, Nat.le_refl _, K13, K12⟩
    · have hltz : ¬ (k : Int) < (n : Int) := by omega
      have Hk : Hid (enc 1 n ++ eltsB (m.take k) = bytM m) := Lib.hid (by rw [List.take_of_length_le (by rw [HN.out]; omega), bytM, HN.out])
      go_wp2_with fail
      refine (Try.Builder_String_any w2.heap.size w2.heap.size _ _ (.inr HBu.out) HBel.out.size).mono ?_
      rintro e w4 ⟨rfl, hbel4⟩
      have HFi : Hid (Below w.heap.size w w4) := Lib.hid (HB2.out.trans ((HBel.out.trans hbel4).mono HB2.out.size))
      clear hbel4
      go_wp2_with fail
      go_ret2
      rw [Hk.out]
      exact ⟨rfl, HFi.out⟩
end Go.Proofs.Ytpefhocjnkbklaa
