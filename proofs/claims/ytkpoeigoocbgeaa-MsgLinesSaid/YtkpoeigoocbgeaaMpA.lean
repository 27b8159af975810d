/- The program's reader in memory; contracts of its functions take (over any callee), number, text and flag. -/
import Derived.Test.YtkpoeigoocbgeaaMpP
import Derived.Test.YtkpoeigoocbgeaaMsgS
import Derived.Test.YtkpoeigoocbgeaaOctet
namespace Go.Proofs.Ytkpoeigoocbgeaa
open Go.RowKit

/-- A reader's box. -/
def RdAt (w : World) (H : Nat) (s : Rd) : Prop := w.heap[H]? = some (.cells #[.string (str s.1), .bool s.2] 80 (0, 0))
theorem RdAt.c0 {w : World} {H : Nat} {s : Rd} (h : RdAt w H s) : w.cell? ⟨H, 0, none⟩ = some (.string (str s.1)) := by unfold RdAt at h; rw [Lib.cell_of_heap h]; rfl
theorem RdAt.c1 {w : World} {H : Nat} {s : Rd} (h : RdAt w H s) : w.cell? ⟨H, 1, none⟩ = some (.bool s.2) := by unfold RdAt at h; rw [Lib.cell_of_heap h]; rfl
theorem RdAt.fz {w : World} {H : Nat} {s : Rd} (h : RdAt w H s) : ∀ j, w.frozen? ⟨H, j, none⟩ = false := fun j => by unfold RdAt at h; exact Lib.frozen_of_heap h j
theorem RdAt.lt {w : World} {H : Nat} {s : Rd} (h : RdAt w H s) : H < w.heap.size := (Array.getElem?_eq_some_iff.1 h).1
theorem RdAt.below {w w' : World} {H : Nat} {s : Rd} (h : RdAt w H s) (hb : Below w.heap.size w w') : RdAt w' H s := by unfold RdAt; rw [hb.block H h.lt]; exact h
theorem RdAt.set {w : World} {H : Nat} {s : Rd} (h : RdAt w H s) (r : List UInt8) (b : Bool) : RdAt ((w.setCell ⟨H, 0, none⟩ (.string (str r))).setCell ⟨H, 1, none⟩ (.bool b)) H (r, b) := row_set (row_set h 0 _) 1 _
/-- What take answers, of whatever its callee answers. -/
def TakeEnd (H : Nat) (s : Rd) (Post : Value → List UInt8 → Int → World → Prop) (w : World) (e : Ending) (w' : World) : Prop :=
  ∃ v R E w1, e = .returned v ∧ Post v R E w1 ∧ Below w.heap.size w w1 ∧ RdAt w1 H s ∧ w' = (w1.setCell ⟨H, 0, none⟩ (.string (str R))).setCell ⟨H, 1, none⟩ (.bool (s.2 || decide (E ≠ 0)))
theorem TakeEnd.rd {H : Nat} {s : Rd} {w1 w' : World} {R : List UInt8} {E : Int} (h1 : RdAt w1 H s) (hw : w' = (w1.setCell ⟨H, 0, none⟩ (.string (str R))).setCell ⟨H, 1, none⟩ (.bool (s.2 || decide (E ≠ 0)))) : RdAt w' H (R, s.2 || decide (E ≠ 0)) := by
  rw [hw]; exact h1.set _ _
theorem TakeEnd.but {H : Nat} {s : Rd} {w w1 w' : World} {R : List UInt8} {E : Int} (h : Below w.heap.size w w1) (hw : w' = (w1.setCell ⟨H, 0, none⟩ (.string (str R))).setCell ⟨H, 1, none⟩ (.bool (s.2 || decide (E ≠ 0)))) : ButH H w w' := by
  rw [hw]; exact (((ButH.refl H w).below h).set 0 _).set 1 _
theorem TakeEnd.bel {H : Nat} {s : Rd} {w w1 w' : World} {R : List UInt8} {E : Int} (hH : H ≤ w.heap.size) (h : Below w.heap.size w w1) (hw : w' = (w1.setCell ⟨H, 0, none⟩ (.string (str R))).setCell ⟨H, 1, none⟩ (.bool (s.2 || decide (E ≠ 0)))) : Below H w w' := by
  rw [hw]; exact ((h.mono hH).setCell (Nat.le_refl _) _).setCell (Nat.le_refl _) _


set_option maxHeartbeats 1000000 in
theorem takeInt_gen {w : World} {H : Nat} {s : Rd} (hr : RdAt w H s) {P : Nat} {Post : Value → List UInt8 → Int → World → Prop}
    (hc : Calls Try.prog 69 #[.string (str s.1), .pointer (some ⟨P, 0, none⟩)] w fun e w1 => ∃ v R E, e = .returned (.tuple #[v, .string (str R), .int .i64 E]) ∧ Post v R E w1 ∧ Below w.heap.size w w1) :
    Calls Try.prog 68 #[.pointer (some ⟨H, 0, none⟩), .func (.func 69) #[] #[.pointer (some ⟨P, 0, none⟩)]] w (TakeEnd H s Post w) := by
  obtain ⟨r, b⟩ := s
  have HR := Lib.hid hr
  have c0 := hr.c0
  dsimp only at c0
  obtain ⟨T, hT⟩ : ∃ T, str r = T := ⟨_, rfl⟩
  rw [hT] at c0
  dsimp only at hc
  rw [hT] at hc
  have HC := Lib.hid hc
  clear hr hc hT
  go_enter Try.func68, Try.ntmps68
  go_upto_region 2 with (go_at_call 69; (with_reducible refine HC.out.mono ?_); rintro e w1 ⟨v, R, E, rfl, hp, hb⟩; have HP := Lib.hid hp; have HB := Lib.hid hb; clear hp hb)
  have HR1 := Lib.hid (HR.out.below HB.out)
  have d0 := HR1.out.c0
  have d1 := HR1.out.c1
  have f0 := HR1.out.fz 0
  have f1 := HR1.out.fz 1
  dsimp only at d0 d1
  have e0 : (w1.setCell ⟨H, 0, none⟩ (.string (str R))).cell? ⟨H, 1, none⟩ = some (.bool b) := by
    have h : (w1.setCell ⟨H, 0, none⟩ (.string (str R))).heap[H]? = some (.cells #[.string (str R), .bool b] 80 (0, 0)) := row_set HR1.out 0 _
    rw [Lib.cell_of_heap h]; rfl
  have e1 : (w1.setCell ⟨H, 0, none⟩ (.string (str R))).frozen? ⟨H, 1, none⟩ = false := by
    have h : (w1.setCell ⟨H, 0, none⟩ (.string (str R))).heap[H]? = some (.cells #[.string (str R), .bool b] 80 (0, 0)) := row_set HR1.out 0 _
    exact Lib.frozen_of_heap h 1
  have HE : Hid (∀ b2, b2 = (b || decide (E ≠ 0)) → TakeEnd H (r, b) Post w (.returned v) ((w1.setCell ⟨H, 0, none⟩ (.string (str R))).setCell ⟨H, 1, none⟩ (.bool b2))) := Lib.hid (fun b2 hb2 => ⟨v, R, E, w1, rfl, HP.out, HB.out, HR1.out, by rw [hb2]⟩)
  cases b with
  | true =>
    go_wp2_with fail
    go_ret
    exact HE.out _ rfl
  | false =>
    by_cases hE : E = 0
    · have q : (E != 0) = false := by rw [bne_eq_false_iff_eq]; exact hE
      have HE0 := Lib.hid hE
      clear hE
      go_wp2_with fail
      go_ret
      exact HE.out _ (by rw [HE0.out]; rfl)
    · have q : (E != 0) = true := by rw [bne_iff_ne]; exact hE
      have HE0 := Lib.hid hE
      go_wp2_with fail
      go_ret
      exact HE.out _ (by rw [decide_eq_true HE0.out]; rfl)


set_option maxHeartbeats 1000000 in
theorem takeStr_gen {w : World} {H : Nat} {s : Rd} (hr : RdAt w H s) {Post : Value → List UInt8 → Int → World → Prop}
    (hc : Calls Try.prog 78 #[.string (str s.1)] w fun e w1 => ∃ v R E, e = .returned (.tuple #[v, .string (str R), .int .i64 E]) ∧ Post v R E w1 ∧ Below w.heap.size w w1) :
    Calls Try.prog 77 #[.pointer (some ⟨H, 0, none⟩), .func (.func 78) #[] #[]] w (TakeEnd H s Post w) := by
  obtain ⟨r, b⟩ := s
  have HR := Lib.hid hr
  have c0 := hr.c0
  dsimp only at c0
  obtain ⟨T, hT⟩ : ∃ T, str r = T := ⟨_, rfl⟩
  rw [hT] at c0
  dsimp only at hc
  rw [hT] at hc
  have HC := Lib.hid hc
  clear hr hc hT
  go_enter Try.func77, Try.ntmps77
  go_upto_region 2 with (go_at_call 78; (with_reducible refine HC.out.mono ?_); rintro e w1 ⟨v, R, E, rfl, hp, hb⟩; have HP := Lib.hid hp; have HB := Lib.hid hb; clear hp hb)
  have HR1 := Lib.hid (HR.out.below HB.out)
  have d0 := HR1.out.c0
  have d1 := HR1.out.c1
  have f0 := HR1.out.fz 0
  have f1 := HR1.out.fz 1
  dsimp only at d0 d1
  have e0 : (w1.setCell ⟨H, 0, none⟩ (.string (str R))).cell? ⟨H, 1, none⟩ = some (.bool b) := by
    have h : (w1.setCell ⟨H, 0, none⟩ (.string (str R))).heap[H]? = some (.cells #[.string (str R), .bool b] 80 (0, 0)) := row_set HR1.out 0 _
    rw [Lib.cell_of_heap h]; rfl
  have e1 : (w1.setCell ⟨H, 0, none⟩ (.string (str R))).frozen? ⟨H, 1, none⟩ = false := by
    have h : (w1.setCell ⟨H, 0, none⟩ (.string (str R))).heap[H]? = some (.cells #[.string (str R), .bool b] 80 (0, 0)) := row_set HR1.out 0 _
    exact Lib.frozen_of_heap h 1
  have HE : Hid (∀ b2, b2 = (b || decide (E ≠ 0)) → TakeEnd H (r, b) Post w (.returned v) ((w1.setCell ⟨H, 0, none⟩ (.string (str R))).setCell ⟨H, 1, none⟩ (.bool b2))) := Lib.hid (fun b2 hb2 => ⟨v, R, E, w1, rfl, HP.out, HB.out, HR1.out, by rw [hb2]⟩)
  cases b with
  | true =>
    go_wp2_with fail
    go_ret
    exact HE.out _ rfl
  | false =>
    by_cases hE : E = 0
    · have q : (E != 0) = false := by rw [bne_eq_false_iff_eq]; exact hE
      have HE0 := Lib.hid hE
      clear hE
      go_wp2_with fail
      go_ret
      exact HE.out _ (by rw [HE0.out]; rfl)
    · have q : (E != 0) = true := by rw [bne_iff_ne]; exact hE
      have HE0 := Lib.hid hE
      go_wp2_with fail
      go_ret
      exact HE.out _ (by rw [decide_eq_true HE0.out]; rfl)


set_option maxHeartbeats 1000000 in
theorem takeBr_gen {w : World} {H : Nat} {s : Rd} (hr : RdAt w H s) {Post : Value → List UInt8 → Int → World → Prop}
    (hc : Calls Try.prog 13 #[.string (str s.1)] w fun e w1 => ∃ v R E, e = .returned (.tuple #[v, .string (str R), .int .i64 E]) ∧ Post v R E w1 ∧ Below w.heap.size w w1) :
    Calls Try.prog 55 #[.pointer (some ⟨H, 0, none⟩), .func (.func 13) #[] #[]] w (TakeEnd H s Post w) := by
  obtain ⟨r, b⟩ := s
  have HR := Lib.hid hr
  have c0 := hr.c0
  dsimp only at c0
  obtain ⟨T, hT⟩ : ∃ T, str r = T := ⟨_, rfl⟩
  rw [hT] at c0
  dsimp only at hc
  rw [hT] at hc
  have HC := Lib.hid hc
  clear hr hc hT
  go_enter Try.func55, Try.ntmps55
  go_upto_region 2 with (go_at_call 13; (with_reducible refine HC.out.mono ?_); rintro e w1 ⟨v, R, E, rfl, hp, hb⟩; have HP := Lib.hid hp; have HB := Lib.hid hb; clear hp hb)
  have HR1 := Lib.hid (HR.out.below HB.out)
  have d0 := HR1.out.c0
  have d1 := HR1.out.c1
  have f0 := HR1.out.fz 0
  have f1 := HR1.out.fz 1
  dsimp only at d0 d1
  have e0 : (w1.setCell ⟨H, 0, none⟩ (.string (str R))).cell? ⟨H, 1, none⟩ = some (.bool b) := by
    have h : (w1.setCell ⟨H, 0, none⟩ (.string (str R))).heap[H]? = some (.cells #[.string (str R), .bool b] 80 (0, 0)) := row_set HR1.out 0 _
    rw [Lib.cell_of_heap h]; rfl
  have e1 : (w1.setCell ⟨H, 0, none⟩ (.string (str R))).frozen? ⟨H, 1, none⟩ = false := by
    have h : (w1.setCell ⟨H, 0, none⟩ (.string (str R))).heap[H]? = some (.cells #[.string (str R), .bool b] 80 (0, 0)) := row_set HR1.out 0 _
    exact Lib.frozen_of_heap h 1
  have HE : Hid (∀ b2, b2 = (b || decide (E ≠ 0)) → TakeEnd H (r, b) Post w (.returned v) ((w1.setCell ⟨H, 0, none⟩ (.string (str R))).setCell ⟨H, 1, none⟩ (.bool b2))) := Lib.hid (fun b2 hb2 => ⟨v, R, E, w1, rfl, HP.out, HB.out, HR1.out, by rw [hb2]⟩)
  cases b with
  | true =>
    go_wp2_with fail
    go_ret
    exact HE.out _ rfl
  | false =>
    by_cases hE : E = 0
    · have q : (E != 0) = false := by rw [bne_eq_false_iff_eq]; exact hE
      have HE0 := Lib.hid hE
      clear hE
      go_wp2_with fail
      go_ret
      exact HE.out _ (by rw [HE0.out]; rfl)
    · have q : (E != 0) = true := by rw [bne_iff_ne]; exact hE
      have HE0 := Lib.hid hE
      go_wp2_with fail
      go_ret
      exact HE.out _ (by rw [decide_eq_true HE0.out]; rfl)


set_option maxHeartbeats 1000000 in
theorem takeBt_gen {w : World} {H : Nat} {s : Rd} (hr : RdAt w H s) {Post : Value → List UInt8 → Int → World → Prop}
    (hc : Calls Try.prog 58 #[.string (str s.1)] w fun e w1 => ∃ v R E, e = .returned (.tuple #[v, .string (str R), .int .i64 E]) ∧ Post v R E w1 ∧ Below w.heap.size w w1) :
    Calls Try.prog 57 #[.pointer (some ⟨H, 0, none⟩), .func (.func 58) #[] #[]] w (TakeEnd H s Post w) := by
  obtain ⟨r, b⟩ := s
  have HR := Lib.hid hr
  have c0 := hr.c0
  dsimp only at c0
  obtain ⟨T, hT⟩ : ∃ T, str r = T := ⟨_, rfl⟩
  rw [hT] at c0
  dsimp only at hc
  rw [hT] at hc
  have HC := Lib.hid hc
  clear hr hc hT
  go_enter Try.func57, Try.ntmps57
  go_upto_region 2 with (go_at_call 58; (with_reducible refine HC.out.mono ?_); rintro e w1 ⟨v, R, E, rfl, hp, hb⟩; have HP := Lib.hid hp; have HB := Lib.hid hb; clear hp hb)
  have HR1 := Lib.hid (HR.out.below HB.out)
  have d0 := HR1.out.c0
  have d1 := HR1.out.c1
  have f0 := HR1.out.fz 0
  have f1 := HR1.out.fz 1
  dsimp only at d0 d1
  have e0 : (w1.setCell ⟨H, 0, none⟩ (.string (str R))).cell? ⟨H, 1, none⟩ = some (.bool b) := by
    have h : (w1.setCell ⟨H, 0, none⟩ (.string (str R))).heap[H]? = some (.cells #[.string (str R), .bool b] 80 (0, 0)) := row_set HR1.out 0 _
    rw [Lib.cell_of_heap h]; rfl
  have e1 : (w1.setCell ⟨H, 0, none⟩ (.string (str R))).frozen? ⟨H, 1, none⟩ = false := by
    have h : (w1.setCell ⟨H, 0, none⟩ (.string (str R))).heap[H]? = some (.cells #[.string (str R), .bool b] 80 (0, 0)) := row_set HR1.out 0 _
    exact Lib.frozen_of_heap h 1
  have HE : Hid (∀ b2, b2 = (b || decide (E ≠ 0)) → TakeEnd H (r, b) Post w (.returned v) ((w1.setCell ⟨H, 0, none⟩ (.string (str R))).setCell ⟨H, 1, none⟩ (.bool b2))) := Lib.hid (fun b2 hb2 => ⟨v, R, E, w1, rfl, HP.out, HB.out, HR1.out, by rw [hb2]⟩)
  cases b with
  | true =>
    go_wp2_with fail
    go_ret
    exact HE.out _ rfl
  | false =>
    by_cases hE : E = 0
    · have q : (E != 0) = false := by rw [bne_eq_false_iff_eq]; exact hE
      have HE0 := Lib.hid hE
      clear hE
      go_wp2_with fail
      go_ret
      exact HE.out _ (by rw [HE0.out]; rfl)
    · have q : (E != 0) = true := by rw [bne_iff_ne]; exact hE
      have HE0 := Lib.hid hE
      go_wp2_with fail
      go_ret
      exact HE.out _ (by rw [decide_eq_true HE0.out]; rfl)


set_option maxHeartbeats 1000000 in
theorem takeWr_gen {w : World} {H : Nat} {s : Rd} (hr : RdAt w H s) {Post : Value → List UInt8 → Int → World → Prop}
    (hc : Calls Try.prog 19 #[.string (str s.1)] w fun e w1 => ∃ v R E, e = .returned (.tuple #[v, .string (str R), .int .i64 E]) ∧ Post v R E w1 ∧ Below w.heap.size w w1) :
    Calls Try.prog 60 #[.pointer (some ⟨H, 0, none⟩), .func (.func 19) #[] #[]] w (TakeEnd H s Post w) := by
  obtain ⟨r, b⟩ := s
  have HR := Lib.hid hr
  have c0 := hr.c0
  dsimp only at c0
  obtain ⟨T, hT⟩ : ∃ T, str r = T := ⟨_, rfl⟩
  rw [hT] at c0
  dsimp only at hc
  rw [hT] at hc
  have HC := Lib.hid hc
  clear hr hc hT
  go_enter Try.func60, Try.ntmps60
  go_upto_region 2 with (go_at_call 19; (with_reducible refine HC.out.mono ?_); rintro e w1 ⟨v, R, E, rfl, hp, hb⟩; have HP := Lib.hid hp; have HB := Lib.hid hb; clear hp hb)
  have HR1 := Lib.hid (HR.out.below HB.out)
  have d0 := HR1.out.c0
  have d1 := HR1.out.c1
  have f0 := HR1.out.fz 0
  have f1 := HR1.out.fz 1
  dsimp only at d0 d1
  have e0 : (w1.setCell ⟨H, 0, none⟩ (.string (str R))).cell? ⟨H, 1, none⟩ = some (.bool b) := by
    have h : (w1.setCell ⟨H, 0, none⟩ (.string (str R))).heap[H]? = some (.cells #[.string (str R), .bool b] 80 (0, 0)) := row_set HR1.out 0 _
    rw [Lib.cell_of_heap h]; rfl
  have e1 : (w1.setCell ⟨H, 0, none⟩ (.string (str R))).frozen? ⟨H, 1, none⟩ = false := by
    have h : (w1.setCell ⟨H, 0, none⟩ (.string (str R))).heap[H]? = some (.cells #[.string (str R), .bool b] 80 (0, 0)) := row_set HR1.out 0 _
    exact Lib.frozen_of_heap h 1
  have HE : Hid (∀ b2, b2 = (b || decide (E ≠ 0)) → TakeEnd H (r, b) Post w (.returned v) ((w1.setCell ⟨H, 0, none⟩ (.string (str R))).setCell ⟨H, 1, none⟩ (.bool b2))) := Lib.hid (fun b2 hb2 => ⟨v, R, E, w1, rfl, HP.out, HB.out, HR1.out, by rw [hb2]⟩)
  cases b with
  | true =>
    go_wp2_with fail
    go_ret
    exact HE.out _ rfl
  | false =>
    by_cases hE : E = 0
    · have q : (E != 0) = false := by rw [bne_eq_false_iff_eq]; exact hE
      have HE0 := Lib.hid hE
      clear hE
      go_wp2_with fail
      go_ret
      exact HE.out _ (by rw [HE0.out]; rfl)
    · have q : (E != 0) = true := by rw [bne_iff_ne]; exact hE
      have HE0 := Lib.hid hE
      go_wp2_with fail
      go_ret
      exact HE.out _ (by rw [decide_eq_true HE0.out]; rfl)


set_option maxHeartbeats 1000000 in
theorem num1_any (l : List UInt8) (k : Int) (P : Nat) (w : World) (hs : l.length ≤ 9223372036854775807) (hp : w.cell? ⟨P, 0, none⟩ = some (.int .i64 k)) :
    Calls Try.prog 69 #[.string (str l), .pointer (some ⟨P, 0, none⟩)] w fun e w' => e = .returned (.tuple #[.int .i64 (numN l k), .string (str (numR l k)), .int .i64 (numE l k)]) ∧ Below w.heap.size w w' := by
  have HN := Lib.hid (fun w => Number_any (str l) k w (by rw [str_size]; unfold maxLen; exact hs))
  rw [str_list] at HN
  obtain ⟨T, hT⟩ : ∃ T, str l = T := ⟨_, rfl⟩
  rw [hT] at HN ⊢
  obtain ⟨n, hn⟩ : ∃ n, numN l k = n := ⟨_, rfl⟩
  obtain ⟨R, hR⟩ : ∃ n, str (numR l k) = n := ⟨_, rfl⟩
  obtain ⟨E, hE⟩ : ∃ n, numE l k = n := ⟨_, rfl⟩
  rw [hn, hR, hE] at HN ⊢
  clear hn hR hE hT
  go_enter Try.func69, Try.ntmps69
  go_wp2_with (go_at_call 70; (with_reducible refine (HN.out _).mono ?_); rintro e w1 ⟨rfl, hb⟩; have HB := Lib.hid hb; clear hb)
  exact bodyPost_ret (v := .tuple #[.int .i64 n, .string R, .int .i64 E]) (by simp [results, Try.results69, go_sem]) rfl ⟨rfl, HB.out⟩
/-- What the reader's functions answer: a value, and what is left; all else stays. -/
def RdEnd (H : Nat) (s' : Rd) (v : Value) (w : World) (e : Ending) (w' : World) : Prop := e = .returned v ∧ RdAt w' H s' ∧ ButH H w w' ∧ Below H w w'
set_option maxHeartbeats 1000000 in
theorem number_any17 {w : World} {H : Nat} {s : Rd} (hr : RdAt w H s) (hs : s.1.length ≤ 9223372036854775807) (k : Int) :
    Calls Try.prog 37 #[.pointer (some ⟨H, 0, none⟩), .int .i64 k] w (RdEnd H (rNum k s) (.int .i64 (numN s.1 k)) w) := by
  have hb0 := below_one w (.cells #[.int .i64 k] 3)
  have hh := heap_new w (.cells #[.int .i64 k] 3)
  have hp : (w.alloc (.cells #[.int .i64 k] 3)).cell? ⟨w.heap.size, 0, none⟩ = some (.int .i64 k) := by rw [Lib.cell_of_heap hh]; rfl
  have HT : Hid (Calls Try.prog 68 #[.pointer (some ⟨H, 0, none⟩), .func (.func 69) #[] #[.pointer (some ⟨w.heap.size, 0, none⟩)]] (w.alloc (.cells #[.int .i64 k] 3)) (RdEnd H (rNum k s) (.int .i64 (numN s.1 k)) w)) := Lib.hid (by
    refine (takeInt_gen (hr.below hb0) (P := w.heap.size) (Post := fun v R E _ => v = .int .i64 (numN s.1 k) ∧ R = numR s.1 k ∧ E = numE s.1 k) ?_).mono ?_
    · refine (num1_any s.1 k w.heap.size _ hs hp).mono ?_
      rintro e w1 ⟨rfl, hb⟩
      exact ⟨_, _, _, rfl, ⟨rfl, rfl, rfl⟩, hb⟩
    · rintro e w' ⟨v, R, E, w1, rfl, ⟨rfl, rfl, rfl⟩, hb, h1, hw⟩
      exact ⟨rfl, TakeEnd.rd h1 hw, TakeEnd.but (below_next hb0 hb) hw, TakeEnd.bel (Nat.le_of_lt hr.lt) (below_next hb0 hb) hw⟩)
  clear hb0 hh hp hr
  go_enter Try.func37, Try.ntmps37
  go_wp2_with (go_at_call 68; (with_reducible refine HT.out.mono ?_); rintro e w1 ⟨rfl, hb⟩; have HB := Lib.hid hb; clear hb)
  go_ret
  exact ⟨rfl, HB.out⟩
set_option maxHeartbeats 1000000 in
theorem text_any17 {w : World} {H : Nat} {s : Rd} (hr : RdAt w H s) (hs : s.1.length ≤ 9223372036854775807) :
    Calls Try.prog 43 #[.pointer (some ⟨H, 0, none⟩)] w (RdEnd H (rTxt s) (.string (str (takeA s.1))) w) := by
  have HT : Hid (Calls Try.prog 77 #[.pointer (some ⟨H, 0, none⟩), .func (.func 78) #[] #[]] w (RdEnd H (rTxt s) (.string (str (takeA s.1))) w)) := Lib.hid (by
    refine (takeStr_gen hr (Post := fun v R E _ => v = .string (str (takeA s.1)) ∧ R = takeR s.1 ∧ E = takeE s.1) ?_).mono ?_
    · have := Take_any (str s.1) w (by rw [str_size]; unfold maxLen; exact hs)
      rw [str_list] at this
      refine this.mono ?_
      rintro e w1 ⟨rfl, hb⟩
      exact ⟨_, _, _, rfl, ⟨rfl, rfl, rfl⟩, hb⟩
    · rintro e w' ⟨v, R, E, w1, rfl, ⟨rfl, rfl, rfl⟩, hb, h1, hw⟩
      exact ⟨rfl, TakeEnd.rd h1 hw, TakeEnd.but hb hw, TakeEnd.bel (Nat.le_of_lt hr.lt) hb hw⟩)
  clear hr
  go_enter Try.func43, Try.ntmps43
  go_wp2_with (go_at_call 77; (with_reducible refine HT.out.mono ?_); rintro e w1 ⟨rfl, hb⟩; have HB := Lib.hid hb; clear hb)
  go_ret
  exact ⟨rfl, HB.out⟩
end Go.Proofs.Ytkpoeigoocbgeaa
