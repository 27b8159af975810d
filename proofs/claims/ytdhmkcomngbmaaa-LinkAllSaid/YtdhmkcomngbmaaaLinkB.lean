/- Contracts of seal and acknowledge of the package link. -/
import Derived.Test.YtdhmkcomngbmaaaLinkA
namespace Go.Proofs.Ytdhmkcomngbmaaa
open Go.RowKit

/-- The numbers of a packet, and its body up to the k-th. -/
def pktNs (x : LEnd) (num : Int) : List Int := [x.ep, x.ot, num, x.wa]
def bodyK (l : List Int) (k : Nat) : List UInt8 := ((l.take k).map (fun n => enc 8 n.toNat)).flatten
theorem bodyK_step {l : List Int} {k : Nat} (h : k < l.length) : bodyK l (k + 1) = bodyK l k ++ enc 8 l[k].toNat := by
  unfold bodyK
  rw [List.take_succ_eq_append_getElem h, List.map_append, List.flatten_append]
  simp
theorem bodyK_all (x : LEnd) (num : Int) (p : List UInt8) : bodyK (pktNs x num) 4 ++ p = pktL x.ep x.ot num x.wa p := by
  unfold bodyK pktNs pktL; simp [List.append_assoc]
theorem bodyK_len (l : List Int) (k : Nat) : (bodyK l k).length ≤ 8 * k := by
  unfold bodyK
  induction k generalizing l with
  | zero => simp
  | succ k ih =>
    cases l with
    | nil => simp
    | cons a l =>
      have := ih l
      rw [List.take_succ_cons, List.map_cons, List.flatten_cons, List.length_append, enc_length]
      omega
theorem put_eight {n : Int} (h0 : 0 ≤ n) (h1 : n ≤ 2199023255552) : putE n 8 = 0 ∧ putB n 8 = enc 8 n.toNat := by
  obtain ⟨m, rfl⟩ := Int.eq_ofNat_of_zero_le h0
  have hp : (256 : Nat) ^ 8 = 18446744073709551616 := by decide
  have h2 := putE_ok (n := m) (k := 8) (by omega) (by omega) (by rw [hp]; omega)
  exact ⟨h2, by rw [Int.toNat_natCast]; exact putB_ok (n := m) (k := 8) h2⟩

/-- What the numbers of a packet may be. -/
def NumsOk (l : List Int) : Prop := l.length = 4 ∧ ∀ n ∈ l, 0 ≤ n ∧ n ≤ 2199023255552
/-- The numbers of an end that a packet bears may be. -/
structure LEnd.Ok3 (x : LEnd) : Prop where
  e1 : 1 ≤ x.ep
  e2 : x.ep ≤ 1099511627776
  o1 : 0 ≤ x.ot
  o2 : x.ot ≤ 1099511627776
  w1 : 1 ≤ x.wa
  w2 : x.wa ≤ 1099511627776
theorem LEnd.Ok.ok3 {x : LEnd} (h : x.Ok) : x.Ok3 := ⟨h.e1, h.e2, h.o1, h.o2, h.w1, h.w2⟩
theorem LEnd.Ok3.nums {x : LEnd} (h : x.Ok3) {num : Int} (h0 : 0 ≤ num) (h1 : num ≤ 2199023255552) : NumsOk (pktNs x num) := by
  refine ⟨rfl, fun n hn => ?_⟩
  have := h.e1; have := h.e2; have := h.o1; have := h.o2; have := h.w1; have := h.w2
  simp only [pktNs, List.mem_cons, List.not_mem_nil, or_false] at hn
  omega

set_option maxHeartbeats 1000000 in
set_option maxRecDepth 100000 in
theorem lseal_any (x : LEnd) (A : Option Addr) (c : Nat) (kind : Nat) (num : Int) (p : List UInt8) (w : World) (hx : x.Ok3) (hk : kind = 1 ∨ kind = 2) (h0 : 0 ≤ num) (h1 : num ≤ 2199023255552) (hp : p.length ≤ 512) :
    Calls Try.prog 35 #[x.val A c, .int .i64 kind, .int .i64 num, .string (str p)] w fun e w' => e = .returned (.string (str (pktB x kind num p))) ∧ Below w.heap.size w w' := by
  have hN := hx.nums h0 h1
  have hB := bodyK_all x num p
  have hlen : (pktL x.ep x.ot num x.wa p).length ≤ 4096 := by rw [pktL_length]; omega
  have hse : sealE (kind : Int) (pktL x.ep x.ot num x.wa p) = 0 := sealE_ok (by omega) (by omega)
  have HS : Hid (∀ W : World, Calls Try.prog 48 #[.int .i64 kind, .string (str (pktL x.ep x.ot num x.wa p))] W fun e w' => e = .returned (.tuple #[.string (str (pktB x kind num p)), .int .i64 0]) ∧ Below W.heap.size W w') := Lib.hid (fun W => by
    have := Seal_any kind (str (pktL x.ep x.ot num x.wa p)) W (by rw [str_size]; unfold maxLen; omega)
    rw [str_list, hse, sealB_ok hse] at this
    exact this)
  rw [← hB] at HS hlen
  generalize pktB x kind num p = R at *
  clear hB hse hx hlen
  obtain ⟨ep, ot, fi, wa, out⟩ := x
  unfold LEnd.val
  simp only at h0 h1 hp HS hN ⊢
  obtain ⟨l, hl⟩ : ∃ l, pktNs ⟨ep, ot, fi, wa, out⟩ num = l := ⟨_, rfl⟩
  have HL : Hid (l = [ep, ot, num, wa]) := Lib.hid (by rw [← hl]; rfl)
  rw [hl] at HS hN
  clear hl
  generalize out.length = n at *
  have HP : Hid (∀ (k : Nat) (hk : k < l.length) (W : World), Calls Try.prog 47 #[.int .i64 l[k], .int .i64 8] W fun e w' => e = .returned (.tuple #[.string (str (enc 8 l[k].toNat)), .int .i64 0]) ∧ Below W.heap.size W w') := Lib.hid (fun k hk W => by
    obtain ⟨a, b⟩ := hN.2 l[k] (List.getElem_mem hk)
    obtain ⟨e1, e2⟩ := put_eight a b
    have := Put_any l[k] 8 W (by omega)
    rwa [e1, e2] at this)
  have hl4 := hN.1
  have hbl := bodyK_len l
  have HSt : Hid (∀ k (hk : k < l.length), str (bodyK l k) ++ str (enc 8 l[k].toNat) = str (bodyK l (k + 1)) ∧ (enc 8 l[k].toNat).length = 8) := Lib.hid (fun k hk => ⟨by rw [str_cat, bodyK_step hk], enc_length _ _⟩)
  have HE : Hid (str (bodyK l 4) ++ str p = str (bodyK l 4 ++ p)) := Lib.hid (str_cat _ _)
  have HZ : Hid (str (bodyK l 0) = ⟨#[]⟩) := Lib.hid rfl
  have hz4 : ¬ 9223372036854775807 < (str (bodyK l 4)).size + (str p).size := by have := hbl 4; rw [str_size, str_size]; omega
  clear hN
  have HW : Hid (∀ (k : Nat) (hk : k < l.length) (W : World), Below (w.heap.size + 2) ((w.alloc (.cells #[.int .i64 ep, .int .i64 ot, .int .i64 fi, .slice A n c, .int .i64 wa] 24)).alloc (.cells #[.int .i64 ep, .int .i64 ot, .int .i64 num, .int .i64 wa] 3)) W → W.cell? ⟨w.heap.size + 1, k, none⟩ = some (.int .i64 l[k])) := Lib.hid (fun k hk W hb => by
    have hc := Lib.cell_of_heap (heap_new (w.alloc (.cells #[.int .i64 ep, .int .i64 ot, .int .i64 fi, .slice A n c, .int .i64 wa] 24)) (.cells #[.int .i64 ep, .int .i64 ot, .int .i64 num, .int .i64 wa] 3 (0, 0))) k
    rw [show (w.alloc (.cells #[.int .i64 ep, .int .i64 ot, .int .i64 fi, .slice A n c, .int .i64 wa] 24)).heap.size = w.heap.size + 1 from by simp] at hc
    rw [hb.cell (p := ⟨w.heap.size + 1, k, none⟩) (by show w.heap.size + 1 < w.heap.size + 2; omega), hc]
    have e := HL.out
    subst e
    match k, hk with
    | 0, _ => rfl
    | 1, _ => rfl
    | 2, _ => rfl
    | 3, _ => rfl)
  have HB : Hid (Below w.heap.size w ((w.alloc (.cells #[.int .i64 ep, .int .i64 ot, .int .i64 fi, .slice A n c, .int .i64 wa] 24)).alloc (.cells #[.int .i64 ep, .int .i64 ot, .int .i64 num, .int .i64 wa] 3))) := Lib.hid ((below_one _ _).trans ((below_one _ _).mono (by simp)))
  have hsz : ((w.alloc (.cells #[.int .i64 ep, .int .i64 ot, .int .i64 fi, .slice A n c, .int .i64 wa] 24)).alloc (.cells #[.int .i64 ep, .int .i64 ot, .int .i64 num, .int .i64 wa] 3)).heap.size = w.heap.size + 2 := by simp
  obtain ⟨V, hV⟩ : ∃ V, (w.alloc (.cells #[.int .i64 ep, .int .i64 ot, .int .i64 fi, .slice A n c, .int .i64 wa] 24)).alloc (.cells #[.int .i64 ep, .int .i64 ot, .int .i64 num, .int .i64 wa] 3) = V := ⟨_, rfl⟩
  rw [hV] at HW HB hsz
  have HV := Lib.hid hV
  clear hV
  go_enter Try.func35, Try.ntmps35
  go_wp2_with fail
  rw [HV.out]
  go_loopw [9, 25] (fun b i wr => ∃ k : Nat, k ≤ 4 ∧ i = .int .i64 k ∧ b = .string (str (bodyK l k)) ∧ Hid (Below (w.heap.size + 2) V wr)) (fun _ i _ => 4 - (intOf i).toNat)
  case atStart => exact ⟨0, by omega, rfl, by rw [HZ.out], Lib.hid (Below.refl _ _)⟩
  case round =>
    obtain ⟨k, hk, rfl, rfl, HBr⟩ := hrel
    by_cases hlt : k < 4
    · have hkl : k < l.length := by omega
      have hc := HW.out k hkl wr HBr.out
      have HQ := HP.out k hkl
      obtain ⟨s1, s2⟩ := HSt.out k hkl
      have S1 := Lib.hid s1
      have hbk := hbl k
      have hz : ¬ 9223372036854775807 < (str (bodyK l k)).size + (str (enc 8 l[k].toNat)).size := by rw [str_size, str_size]; omega
      generalize enc 8 l[k].toNat = E at *
      generalize l[k] = N at *
      have HQ2 := Lib.hid HQ
      clear s1 s2 hkl HQ hbk
      go_wp2_with fail
      refine (HQ2.out _).mono ?_
      rintro e w2 ⟨rfl, hb2⟩
      have HB2 := Lib.hid (HBr.out.trans (hb2.mono (by have := HBr.out.size; omega)))
      go_wp2
      go_roundw
      case rel => exact ⟨k + 1, by omega, by go_num, by rw [S1.out], HB2⟩
      case measure => simp [intOf]; omega
    · obtain rfl : k = 4 := by omega
      go_wp2_with fail
      rw [HE.out]
      refine (HS.out _).mono ?_
      rintro e w2 ⟨rfl, hb2⟩
      go_wp2
      go_ret
      exact ⟨rfl, below_next (HB.out.trans (HBr.out.mono (by omega))) hb2⟩

theorem acknowledge_any (x : LEnd) (A : Option Addr) (c : Nat) (w : World) (hx : x.Ok3) :
    Calls Try.prog 41 #[x.val A c] w fun e w' => e = .returned (.string (str (ackB x))) ∧ Below w.heap.size w w' := by
  have HS := Lib.hid (fun W => lseal_any x A c 2 0 [] W hx (.inr rfl) (by omega) (by omega) (by simp))
  rw [show pktB x 2 0 [] = ackB x from rfl] at HS
  unfold LEnd.val at HS ⊢
  generalize ackB x = R at *
  obtain ⟨ep, ot, fi, wa, out⟩ := x
  simp only at HS ⊢
  clear hx
  generalize out.length = n at *
  go_enter Try.func41, Try.ntmps41
  go_wp2_with fail
  refine (HS.out _).mono ?_
  rintro e w2 ⟨rfl, hb2⟩
  go_wp2
  go_ret
  exact ⟨rfl, below_next (below_one _ _) hb2⟩
end Go.Proofs.Ytdhmkcomngbmaaa
