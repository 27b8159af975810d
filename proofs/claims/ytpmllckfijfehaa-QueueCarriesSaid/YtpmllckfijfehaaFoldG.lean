/- Folded writes: marks in memory; contracts of the document's SameMarks and Bytes, of Bytes and Folded, of the fixed answer. -/
import Derived.Test.YtpmllckfijfehaaFoldF
namespace Go.Proofs.Ytpmllckfijfehaa
open Go.Shelf Go.RowKit Go.Lib Go.Sort

/-! ### Marks in memory -/

abbrev Mk := Int × Int
def MksAt (w : World) (B : Nat) (A : Option Addr) (ms : List Mk) : Prop :=
  ms = [] ∨ ∃ b off, A = some ⟨b, off, none⟩ ∧ b < B ∧ ∀ i, (h : i < ms.length) → w.cell? ⟨b, off + i * 2, none⟩ = some (.int .i64 ms[i].1) ∧ w.cell? ⟨b, off + i * 2 + 1, none⟩ = some (.int .i64 ms[i].2)
theorem MksAt.at_ {w w' : World} {B : Nat} {A : Option Addr} {ms : List Mk} (h : MksAt w B A ms) (hb : Below B w w') {i : Nat} (hi : i < ms.length) :
    ∃ b off, A = some ⟨b, off, none⟩ ∧ b < B ∧ w'.cell? ⟨b, off + i * 2, none⟩ = some (.int .i64 ms[i].1) ∧ w'.cell? ⟨b, off + i * 2 + 1, none⟩ = some (.int .i64 ms[i].2) := by
  rcases h with rfl | ⟨b, off, hA, hlt, hc⟩
  · simp at hi
  · obtain ⟨h1, h2⟩ := hc i hi
    exact ⟨b, off, hA, hlt, (hb.cell (p := ⟨b, off + i * 2, none⟩) hlt).trans h1, (hb.cell (p := ⟨b, off + i * 2 + 1, none⟩) hlt).trans h2⟩
theorem MksAt.below {w w' : World} {B : Nat} {A : Option Addr} {ms : List Mk} (h : MksAt w B A ms) (hb : Below B w w') : MksAt w' B A ms := by
  rcases h with h | ⟨b, off, hA, hlt, hc⟩
  · exact .inl h
  · exact .inr ⟨b, off, hA, hlt, fun i hi => ⟨(hb.cell (p := ⟨b, off + i * 2, none⟩) hlt).trans (hc i hi).1, (hb.cell (p := ⟨b, off + i * 2 + 1, none⟩) hlt).trans (hc i hi).2⟩⟩
theorem MksAt.more {w : World} {B B' : Nat} {A : Option Addr} {ms : List Mk} (h : MksAt w B A ms) (hB : B ≤ B') : MksAt w B' A ms := by
  rcases h with h | ⟨b, off, hA, hlt, hc⟩
  · exact .inl h
  · exact .inr ⟨b, off, hA, by omega, hc⟩
theorem MksAt.next {w w' : World} {A : Option Addr} {ms : List Mk} (h : MksAt w w.heap.size A ms) (hb : Below w.heap.size w w') : MksAt w' w'.heap.size A ms := (h.below hb).more hb.size
def mkCells : List Mk → List Value
  | [] => []
  | x :: ms => .int .i64 x.1 :: .int .i64 x.2 :: mkCells ms
theorem mkCells_length (ms : List Mk) : (mkCells ms).length = ms.length * 2 := by
  induction ms with
  | nil => rfl
  | cons x ms ih => simp [mkCells, ih]; omega
theorem mkCells_append (a b : List Mk) : mkCells (a ++ b) = mkCells a ++ mkCells b := by
  induction a with
  | nil => rfl
  | cons x a ih => simp [mkCells, ih]
theorem mkCells_at {ms : List Mk} {k : Nat} (hk : k < ms.length) : (mkCells ms)[k * 2]? = some (.int .i64 ms[k].1) ∧ (mkCells ms)[k * 2 + 1]? = some (.int .i64 ms[k].2) := by
  induction ms generalizing k with
  | nil => simp at hk
  | cons x ms ih =>
    cases k with
    | zero => exact ⟨rfl, rfl⟩
    | succ k =>
      have := ih (k := k) (by simpa using hk)
      rw [show (k + 1) * 2 = k * 2 + 1 + 1 from by omega]
      simpa [mkCells] using this
theorem MksAt.of_lies {w : World} {B : Nat} {A : Option Addr} {ms : List Mk} (h : Lies w B A (mkCells ms)) : MksAt w B A ms := by
  rcases h with h | ⟨b, off, hA, hlt, hc⟩
  · have := mkCells_length ms
    rw [h] at this
    exact .inl (List.eq_nil_of_length_eq_zero (by simp at this; omega))
  · refine .inr ⟨b, off, hA, hlt, fun i hi => ?_⟩
    have hl := mkCells_length ms
    obtain ⟨g1, g2⟩ := mkCells_at hi
    refine ⟨?_, ?_⟩
    · rw [hc (i * 2) (by omega)]
      rw [List.getElem?_eq_getElem (by omega)] at g1
      exact g1
    · rw [Nat.add_assoc, hc (i * 2 + 1) (by omega)]
      rw [List.getElem?_eq_getElem (by omega)] at g2
      exact g2
/-- What a call that hands back marks leaves. -/
def MksEnd (ms : List Mk) (w : World) (e : Ending) (w' : World) : Prop :=
  ∃ A c, e = .returned (.slice A ms.length c) ∧ MksAt w' w'.heap.size A ms ∧ Below w.heap.size w w'
theorem own_endM {w0 w : World} {base : Nat} {v : Value} {ms : List Mk} {t : TypeId} (h : w.ownsRow base t 2 v ms.length (mkCells ms)) (hb : Below w0.heap.size w0 w) : MksEnd ms w0 (.returned v) w := by
  obtain ⟨A, c, rfl, _, hl⟩ := own_lies h
  exact ⟨A, c, rfl, MksAt.of_lies hl, hb⟩

/-! ### SameMarks -/

def sameM (x y : Mk) : Bool := (x.1 == y.1) && (x.2 == y.2)
theorem sameM_self (x : Mk) : sameM x x = true := by simp [sameM]
theorem sameM_ne {x y : Mk} (h : x ≠ y) : sameM x y = false := by
  rw [Bool.eq_false_iff]
  intro e
  simp only [sameM, Bool.and_eq_true, beq_iff_eq] at e
  exact h (Prod.ext e.1 e.2)
def eqM (a b : List Mk) : Bool := decide (a = b)
theorem eqM_self (a : List Mk) : eqM a a = true := by simp [eqM]
theorem eqM_ne {a b : List Mk} (h : a ≠ b) : eqM a b = false := by simp [eqM, h]

set_option maxHeartbeats 2000000 in
set_option maxRecDepth 100000 in
theorem Bytes_any {w : World} {A : Option Addr} {c : Nat} {ws : List Wr} (h : WrsAt w w.heap.size A ws) (hl : ws.length ≤ 9223372036854775807) (hb : bytesW ws ≤ 4611686018427387904) :
    Calls Try.prog 41 #[.slice A ws.length c] w fun e w' => e = .returned (.int .i64 (bytesW ws)) ∧ Below w.heap.size w w' := by
  have HV := Lib.hid h
  obtain ⟨n, hn⟩ : ∃ n, ws.length = n := ⟨_, rfl⟩
  have HN := Lib.hid hn
  have HBy := Lib.hid hb
  rw [hn] at hl ⊢
  clear h hn hb
  go_enter Try.func41, Try.ntmps41
  go_wp2
  go_loopg [3, 8] n (fun kx s i wr => ∃ k m : Nat, k ≤ n ∧ n - k ≤ kx ∧ i = .int .i64 k ∧ s = .int .i64 m ∧ Hid (m = bytesW (ws.take k)) ∧ Hid (Below w.heap.size w wr))
  case atStart => exact ⟨0, 0, Nat.zero_le _, by omega, rfl, rfl, Lib.hid rfl, Lib.hid (Below.refl _ _)⟩
  case round =>
    obtain ⟨k, m, hk, hkx, rfl, rfl, HM, HB⟩ := hrel
    by_cases hlt : k < n
    · have hkl : k < ws.length := by rw [HN.out]; exact hlt
      obtain ⟨b, off, hA, hbl, x1, x2, x3⟩ := HV.out.at_ HB.out hkl
      have hwz : w.heap.size ≤ wr.heap.size := HB.out.size
      have hbw : b < wr.heap.size := by omega
      subst hA
      have HS : Hid (m + (8 + ws[k].data.size) = bytesW (ws.take (k + 1))) := Lib.hid (by rw [List.take_succ_eq_append_getElem hkl, bytesW_snoc, HM.out])
      have hsz : m + (8 + ws[k].data.size) ≤ 4611686018427387904 := by
        have h1 := HS.out
        have h2 : bytesW (ws.take (k + 1)) ≤ bytesW ws := by
          conv => rhs; rw [← List.take_append_drop (k + 1) ws]
          unfold bytesW; rw [List.map_append, List.sum_append]; exact Nat.le_add_right _ _
        have h3 := HBy.out
        omega
      obtain ⟨x, hx⟩ : ∃ x, ws[k] = x := ⟨_, rfl⟩
      rw [hx] at x1 x2 x3 HS hsz
      clear hx hkl HM
      obtain ⟨vol, block, data⟩ := x
      simp only at x1 x2 x3 HS hsz
      have hltz : (k : Int) < (n : Int) := by omega
      have HB2 := Lib.hid (HB.out.alloc hwz (.cells #[.int .i64 vol, .int .i64 block, .string data] 61))
      go_wp2_with fail
      go_roundg (n - (k + 1))
      case measure => omega
      case rel => exact ⟨k + 1, m + (8 + data.size), by omega, Nat.le_refl _, by go_num, by first | rfl | go_num | (congr 1; omega), HS, by first | exact HB2 | exact HB⟩
    · have hltz : ¬ (k : Int) < (n : Int) := by omega
      have HE : Hid (m = bytesW ws) := Lib.hid (by rw [HM.out, List.take_of_length_le (by rw [HN.out]; omega)])
      go_wp2_with fail
      go_ret
      exact ⟨by rw [← HE.out]; rfl, HB.out⟩

set_option maxHeartbeats 2000000 in
set_option maxRecDepth 100000 in
theorem RefBytes_any {w : World} {A : Option Addr} {c : Nat} {ws : List Wr} (h : WrsAt w w.heap.size A ws) (hl : ws.length ≤ 9223372036854775807) (hb : bytesW ws ≤ 4611686018427387904) :
    Calls Try.prog 24 #[.slice A ws.length c] w fun e w' => e = .returned (.int .i64 (bytesW ws)) ∧ Below w.heap.size w w' := by
  have HV := Lib.hid h
  obtain ⟨n, hn⟩ : ∃ n, ws.length = n := ⟨_, rfl⟩
  have HN := Lib.hid hn
  have HBy := Lib.hid hb
  rw [hn] at hl ⊢
  clear h hn hb
  go_enter Try.func24, Try.ntmps24
  go_wp2
  go_loopg [3, 4] n (fun kx s i wr => ∃ k m : Nat, k ≤ n ∧ n - k ≤ kx ∧ i = .int .i64 k ∧ s = .int .i64 m ∧ Hid (m = bytesW (ws.take k)) ∧ Hid (Below w.heap.size w wr))
  case atStart => exact ⟨0, 0, Nat.zero_le _, by omega, rfl, rfl, Lib.hid rfl, Lib.hid (Below.refl _ _)⟩
  case round =>
    obtain ⟨k, m, hk, hkx, rfl, rfl, HM, HB⟩ := hrel
    by_cases hlt : k < n
    · have hkl : k < ws.length := by rw [HN.out]; exact hlt
      obtain ⟨b, off, hA, hbl, x1, x2, x3⟩ := HV.out.at_ HB.out hkl
      have hwz : w.heap.size ≤ wr.heap.size := HB.out.size
      have hbw : b < wr.heap.size := by omega
      subst hA
      have HS : Hid (m + (8 + ws[k].data.size) = bytesW (ws.take (k + 1))) := Lib.hid (by rw [List.take_succ_eq_append_getElem hkl, bytesW_snoc, HM.out])
      have hsz : m + (8 + ws[k].data.size) ≤ 4611686018427387904 := by
        have h1 := HS.out
        have h2 : bytesW (ws.take (k + 1)) ≤ bytesW ws := by
          conv => rhs; rw [← List.take_append_drop (k + 1) ws]
          unfold bytesW; rw [List.map_append, List.sum_append]; exact Nat.le_add_right _ _
        have h3 := HBy.out
        omega
      obtain ⟨x, hx⟩ : ∃ x, ws[k] = x := ⟨_, rfl⟩
      rw [hx] at x1 x2 x3 HS hsz
      clear hx hkl HM
      obtain ⟨vol, block, data⟩ := x
      simp only at x1 x2 x3 HS hsz
      have hltz : (k : Int) < (n : Int) := by omega
      have HB2 := Lib.hid (HB.out.alloc hwz (.cells #[.int .i64 vol, .int .i64 block, .string data] 61))
      go_wp2_with fail
      go_roundg (n - (k + 1))
      case measure => omega
      case rel => exact ⟨k + 1, m + (8 + data.size), by omega, Nat.le_refl _, by go_num, by first | rfl | go_num | (congr 1; omega), HS, by first | exact HB2 | exact HB⟩
    · have hltz : ¬ (k : Int) < (n : Int) := by omega
      have HE : Hid (m = bytesW ws) := Lib.hid (by rw [HM.out, List.take_of_length_le (by rw [HN.out]; omega)])
      go_wp2_with fail
      go_ret
      exact ⟨by rw [← HE.out]; rfl, HB.out⟩
end Go.Proofs.Ytpmllckfijfehaa
