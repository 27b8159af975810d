/- The contracts of the package msg as the walks want them, and awake. -/
import Derived.Test.YtkpoeigoocbgeaaMpJ
import Derived.Test.YtkpoeigoocbgeaaMpM
import Derived.Test.YtkpoeigoocbgeaaMsgT
import Derived.Test.YtkpoeigoocbgeaaMsgJ
namespace Go.Proofs.Ytkpoeigoocbgeaa
open Go.RowKit

/-- What TakeLine, TakeWrites answer. -/
def TLn (s : List UInt8) (w : World) (e : Ending) (w' : World) : Prop :=
  (lnOk s = true ∧ ∃ A c, e = .returned (.tuple #[.slice A (lnL s).length c, .string (str (lnR s)), .int .i64 0]) ∧ BrsAt w' w'.heap.size A (lnL s) ∧ Below w.heap.size w w') ∨
  (lnOk s = false ∧ ∃ A c, e = .returned (.tuple #[.slice A 0 c, .string ⟨#[]⟩, .int .i64 3]) ∧ Below w.heap.size w w')
def TWs (s : List UInt8) (w : World) (e : Ending) (w' : World) : Prop :=
  (∃ ws rest A c, wsAt s = some (ws, rest) ∧ writable ws = true ∧ e = .returned (.tuple #[.slice A ws.length c, .string (str rest), .int .i64 0]) ∧ WrsAt w' w'.heap.size A ws ∧ Below w.heap.size w w') ∨
  ((∀ ws rest, wsAt s = some (ws, rest) → writable ws = false) ∧ ∃ A c, e = .returned (.tuple #[.slice A 0 c, .string ⟨#[]⟩, .int .i64 3]) ∧ Below w.heap.size w w')
theorem eqself17 {P : Program} {f : FuncId} {args : Array Value} {w : World} {M : List Br} (h : Calls P f args w fun e w' => e = .returned (.bool (eqBr M M)) ∧ Below w.heap.size w w') : Calls P f args w fun e w' => e = .returned (.bool true) ∧ Below w.heap.size w w' := by
  rwa [(eqBr_iff17 M M).2 rfl] at h
theorem eqselfW17 {P : Program} {f : FuncId} {args : Array Value} {w : World} {M : List Wr} (h : Calls P f args w fun e w' => e = .returned (.bool (eqW M M)) ∧ Below w.heap.size w w') : Calls P f args w fun e w' => e = .returned (.bool true) ∧ Below w.heap.size w w' := by
  rwa [(eqW_iff17 M M).2 rfl] at h
theorem ln_size {s : List UInt8} (h : lnOk s = true) : 1 + 16 * lnN s ≤ s.length := by
  unfold lnOk at h
  rw [Bool.and_eq_true, decide_eq_true_iff] at h
  exact h.1.2
theorem mgfit_ok {m : Mg} (h : MgOk m) : MgFit m := by
  have h1 := (lined_fit h.line).2
  have h2 := (lined_fit (anc_fit h.anc).1).2
  have h3 := bitsOk_length h.bits.1
  have h4 := (blankOk_each h.sizes).1
  have h5 := h.ws.1
  exact ⟨by omega, by omega, ⟨by omega, fun b hb => ⟨h.bits.2 b hb, by have := bitsFrom_le h.bits.1 b hb; omega⟩⟩, by omega, by omega⟩
theorem mgfit_zero : MgFit mgZ := ⟨by simp [mgZ], by simp [mgZ], ⟨by simp [mgZ], fun b hb => (by cases hb)⟩, by simp [mgZ], by simp [mgZ]⟩
theorem PTakeLine_any (s : List UInt8) (w : World) (hs : s.length ≤ 281474976710656) :
    Calls Try.prog 13 #[.string (str s)] w (TLn s w) := by
  refine (takeLineF_any s w (by omega)).mono ?_
  rintro e w' (⟨h, A, c, rfl, h1, _, h3⟩ | ⟨h, rfl, h3⟩)
  · exact .inl ⟨h, A, c, rfl, h1, h3⟩
  · exact .inr ⟨h, none, 0, rfl, h3⟩
theorem PPutWrites_any {w : World} {A : Option Addr} {c : Nat} {ws : List Wr} (h : WrsAt w w.heap.size A ws) (hl : ws.length ≤ 1000) :
    Calls Try.prog 16 #[.slice A ws.length c] w fun e w' => e = .returned (.tuple #[.string (str (putWsS ws)), .int .i64 (putWsE ws)]) ∧ Below w.heap.size w w' :=
  PPutWrites_big h (by omega)
theorem PTakeWrites_any (s : List UInt8) (w : World) (hs : s.length ≤ 281474976710656) :
    Calls Try.prog 19 #[.string (str s)] w (TWs s w) := by
  refine (takeWritesF_any s w (by omega)).mono ?_
  rintro e w' (⟨ws, rest, A, c, h1, h2, rfl, h3, _, h5⟩ | ⟨h, rfl, h3⟩)
  · exact .inl ⟨ws, rest, A, c, h1, h2, rfl, h3, h5⟩
  · exact .inr ⟨h, none, 0, rfl, h3⟩

def ws0 : List Wr := [⟨2, 5, ⟨#[120]⟩⟩]
def mg0 : Mg := ⟨9, 0, [], 0, 0, 0, false, [], 0, [], [], 0, 0, []⟩
theorem ws0_ok : writable ws0 = true := (writable_iff _).2 ⟨by decide, by rfl, fun x hx => by
  unfold ws0 at hx
  rw [List.mem_singleton] at hx
  subst hx
  rfl⟩
theorem ws0_bytes : str (putWsS ws0) = ⟨#[0, 1, 2, 5, 0, 1, 120]⟩ ∧ putWsE ws0 = 0 := by
  unfold putWsS putWsE
  rw [ws0_ok]
  exact ⟨by rfl, rfl⟩
theorem wsnil_ok : writable [] = true := (writable_iff _).2 ⟨by decide, by rfl, fun x hx => by cases hx⟩
theorem mg0_ok : mgOkB mg0 = true := by
  unfold mgOkB mg0
  dsimp only
  rw [wsnil_ok]
  rfl
set_option maxHeartbeats 1000000 in
theorem awake17_any (w : World) : Calls Try.prog 9 #[] w fun e w' => e = .returned (.bool true) ∧ Below w.heap.size w w' := by
  have hb0 := below_one w (.cells #[.int .i64 2, .int .i64 5, .string ⟨#[120]⟩] 65)
  have hh := heap_new w (.cells #[.int .i64 2, .int .i64 5, .string ⟨#[120]⟩] 65)
  have hws : WrsAt (w.alloc (.cells #[.int .i64 2, .int .i64 5, .string ⟨#[120]⟩] 65)) (w.alloc (.cells #[.int .i64 2, .int .i64 5, .string ⟨#[120]⟩] 65)).heap.size (some ⟨w.heap.size, 0, none⟩) ws0 :=
    .inr ⟨w.heap.size, 0, rfl, by simp, fun i hi => by
      obtain rfl : i = 0 := by simp [ws0] at hi; omega
      exact ⟨by rw [Lib.cell_of_heap hh]; rfl, by rw [Lib.cell_of_heap hh]; rfl, by rw [Lib.cell_of_heap hh]; rfl⟩⟩
  have HP := Lib.hid (PPutWrites_any (c := 1) hws (by decide))
  rw [ws0_bytes.1, ws0_bytes.2, show ws0.length = 1 from rfl] at HP
  have HR := Lib.hid (fun W => PRight_any (w := W) mg0 mmZ ⟨.inl rfl, .inl rfl, .inl rfl, .inl rfl, .inl rfl⟩ ⟨by simp [mg0], by simp [mg0], ⟨by simp [mg0], fun b hb => (by cases hb)⟩, by simp [mg0], by simp [mg0]⟩)
  rw [mg0_ok, show mg0.val mmZ = .agg #[.int .i64 9, .int .i64 0, .slice none 0 0, .int .i64 0, .int .i64 0, .int .i64 0, .bool false, .slice none 0 0, .int .i64 0, .slice none 0 0, .slice none 0 0, .int .i64 0, .int .i64 0, .slice none 0 0] from rfl] at HR
  have HB0 := Lib.hid hb0
  clear hb0 hh hws
  go_enter Try.func9, Try.ntmps9
  go_wp2_with (first
    | (go_at_call 16; (with_reducible refine HP.out.mono ?_); rintro e w1 ⟨rfl, hb⟩; have HB1 := Lib.hid (below_next HB0.out hb); clear hb)
    | (go_at_call 25; (with_reducible refine (HR.out _).mono ?_); rintro e w2 ⟨rfl, hb⟩; have HB2 := Lib.hid (below_next HB1.out hb); clear hb))
  go_ret
  exact ⟨rfl, HB2.out⟩
end Go.Proofs.Ytkpoeigoocbgeaa
