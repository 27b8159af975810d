/- Single operations over a table of slots, at this program: addresses of fields, loads, moves, constants, sums of texts, lengths, slices of numbers, calls of numbers and flag. -/
import Derived.Test.YtkpoeigoocbgeaaMpH
import Derived.Test.YtkpoeigoocbgeaaLatSlots
import Derived.Great.BuildSlice
namespace Go.Proofs.Ytkpoeigoocbgeaa
open Go.RowKit

section
variable {U : World} {f : Tmp → Value ⊕ List Int} {o : Oper}
theorem slotP_inl {t : Tmp} {w : World} {v u : Value} (hf : f t = .inl u) (h : slotP f t w v) : v = u := by unfold slotP at h; rw [hf] at h; exact h
theorem slotP_inr {t : Tmp} {w : World} {v : Value} {l : List Int} (hf : f t = .inr l) (h : slotP f t w v) : SlW w v l := by unfold slotP at h; rw [hf] at h; exact h
abbrev SlOp (U : World) (f : Tmp → Value ⊕ List Int) (o : Oper) : Prop := SlotOp Try.prog (fun w => Below U.heap.size U w) (fun w w' => Below w.heap.size w w') (slotP f) o
theorem slot_move {s d : Tmp} {u : Value} (ho : o.op = .move (.tmp s)) (hd : o.dst = some d) (hs : f s = .inl u) (hf : f d = .inl u) : SlOp U f o := by
  refine SlotOp.val hd hf fun a w hC h => ?_
  have e := slotP_inl hs (h s (by rw [ho]; simp [Op.operands]))
  unfold execOp
  rw [ho]
  dsimp only
  rw [e]
  rfl
theorem slot_assign {s d : Tmp} {u : Value} (ho : o.op = .assign (.tmp s)) (hd : o.dst = some d) (hs : f s = .inl u) (hf : f d = .inl u) : SlOp U f o := by
  refine SlotOp.val hd hf fun a w hC h => ?_
  have e := slotP_inl hs (h s (by rw [ho]; simp [Op.operands]))
  unfold execOp
  rw [ho]
  dsimp only
  rw [e]
  rfl
theorem slot_const {d : Tmp} {u : Value} (ho : o.op = .assign (.const u)) (hd : o.dst = some d) (hf : f d = .inl u) : SlOp U f o := by
  refine SlotOp.val hd hf fun a w hC h => ?_
  unfold execOp
  rw [ho]
  rfl
theorem slot_field {s d : Tmp} {T : TypeId} {k : Nat} {u u' : Value} (ho : o.op = .fieldAddr T (.tmp s) k) (hd : o.dst = some d) (hs : f s = .inl u) (hf : f d = .inl u')
    (hr : ∀ w, (Instr.fieldAt T u k).run Try.prog w = .ok u' w) : SlOp U f o := by
  refine SlotOp.val hd hf fun a w hC h => ?_
  have e := slotP_inl hs (h s (by rw [ho]; simp [Op.operands]))
  unfold execOp
  simp only [ho, e, Sem.run_bind, hr, Result.andThen_ok]
  rfl
theorem slot_load {s d : Tmp} {T : TypeId} {u u' : Value} (ho : o.op = .load T (.tmp s)) (hd : o.dst = some d) (hs : f s = .inl u) (hf : f d = .inl u')
    (hr : ∀ w, Below U.heap.size U w → (Instr.loadAt T u).run Try.prog w = .ok u' w) : SlOp U f o := by
  refine SlotOp.val hd hf fun a w hC h => ?_
  have e := slotP_inl hs (h s (by rw [ho]; simp [Op.operands]))
  unfold execOp
  simp only [ho, e, Sem.run_bind, hr w hC, Result.andThen_ok]
  rfl
theorem slot_add {x y d : Tmp} {X Y : List UInt8} (ho : o.op = .binOp .add 9 (.tmp x) (.tmp y) 9) (hd : o.dst = some d) (hx : f x = .inl (.string (str X))) (hy : f y = .inl (.string (str Y))) (hf : f d = .inl (.string (str (X ++ Y))))
    (hlen : X.length + Y.length ≤ 1000000) : SlOp U f o := by
  refine SlotOp.val hd hf fun a w hC h => ?_
  have e1 := slotP_inl hx (h x (by rw [ho]; simp [Op.operands]))
  have e2 := slotP_inl hy (h y (by rw [ho]; simp [Op.operands]))
  have hs : ¬ 9223372036854775807 < (str X).size + (str Y).size := by rw [str_size, str_size]; omega
  have hc := str_cat X Y
  have hb : ∀ w, (binOp .add 9 (.string (str X)) (.string (str Y))).run Try.prog w = .ok (.string (str (X ++ Y))) w := fun w => by
    rw [← hc]
    simp [binOp, hs, go_sem]
  have hg : ∀ w, (eqGuard .add 9 (.tmp x) (.tmp y) (.string (str X)) (.string (str Y))).run Try.prog w = .ok () w := fun w => by
    simp [eqGuard, go_sem]
  unfold execOp
  simp only [ho, e1, e2, Sem.run_bind, hb, hg, Result.andThen_ok]
  rfl
theorem slot_len {s d : Tmp} {A : Option Addr} {n c : Nat} {ats : Array TypeId} (ho : o.op = .call { callee := .builtin .len, args := #[.tmp s], argTypes := ats }) (hd : o.dst = some d) (hs : f s = .inl (.slice A n c)) (hf : f d = .inl (.int .i64 n))
    (hr : ∀ w, (execOp (fun _ => Value.slice A n c) o).run Try.prog w = .ok (.value (.int .i64 n)) w) : SlOp U f o := by
  refine SlotOp.val hd hf fun a w hC h => ?_
  have e := slotP_inl hs (h s (by rw [ho]; simp [Op.operands, Call.operands]))
  have := execOp_congr (ρ := a.eval) (ρ' := fun _ => Value.slice A n c) o (by rw [ho]; intro cs b hh; cases hh) (by rw [ho]; intro z hz; simp [Op.operands, Call.operands] at hz; subst hz; exact e)
  rw [this]
  exact hr w
theorem fill_one17 (x : Int) : Instr.fill (fun i => some (i * 1, 1)) ((Array.range (1 * 1)).map ((Value.int .i64 0).cells[· % (Value.int .i64 0).cells.size]!)) [(0, Value.int .i64 x)] = some #[.int .i64 x] := by
  have e : Array.range 1 = #[0] := by decide
  simp [Instr.fill, Value.cells, e]
theorem fill_two17 (x y : Int) : Instr.fill (fun i => some (i * 1, 1)) ((Array.range (2 * 1)).map ((Value.int .i64 0).cells[· % (Value.int .i64 0).cells.size]!)) [(0, Value.int .i64 x), (1, Value.int .i64 y)] = some #[.int .i64 x, .int .i64 y] := by
  have e : Array.range 2 = #[0, 1] := by decide
  simp [Instr.fill, Value.cells, e]
theorem fill_three17 (x y z : Int) : Instr.fill (fun i => some (i * 1, 1)) ((Array.range (3 * 1)).map ((Value.int .i64 0).cells[· % (Value.int .i64 0).cells.size]!)) [(0, Value.int .i64 x), (1, Value.int .i64 y), (2, Value.int .i64 z)] = some #[.int .i64 x, .int .i64 y, .int .i64 z] := by
  have e : Array.range 3 = #[0, 1, 2] := by decide
  simp [Instr.fill, Value.cells, e]
theorem slot_made1 {s d : Tmp} {x : Int} (ho : o.op = .buildSlice 48 1 #[(0, .tmp s)]) (hd : o.dst = some d) (hs : f s = .inl (.int .i64 x)) (hf : f d = .inr [x]) : SlOp U f o := by
  refine SlotOp.made (e := 3) hd hf fun a w hC h => ?_
  have e := slotP_inl hs (h s (by rw [ho]; simp [Op.operands]))
  obtain ⟨i0, hi0, hz0, hz1, hz2⟩ := info_parts Try.infoI17
  have hP := run_buildSlice (P := Try.prog) w 48 3 1 #[(0, .int .i64 x)] #[.int .i64 x] i0 (.int .i64 0) Try.underlying48 hi0 hz0 (by rw [hz1]; decide) (by rw [hz1]; decide) (by rw [hz1]; exact fill_one17 x)
  unfold execOp
  simp only [ho, Sem.run_bind]
  rw [show (#[((0 : Nat), Operand.tmp s)].map fun (p : Nat × Operand) => (p.1, a.eval p.2)) = #[(0, Value.int .i64 x)] from by simp [e]]
  rw [hP]
  rfl
theorem slot_made2 {s1 s2 d : Tmp} {x y : Int} (ho : o.op = .buildSlice 48 2 #[(0, .tmp s1), (1, .tmp s2)]) (hd : o.dst = some d) (h1 : f s1 = .inl (.int .i64 x)) (h2 : f s2 = .inl (.int .i64 y)) (hf : f d = .inr [x, y]) : SlOp U f o := by
  refine SlotOp.made (e := 3) hd hf fun a w hC h => ?_
  have e1 := slotP_inl h1 (h s1 (by rw [ho]; simp [Op.operands]))
  have e2 := slotP_inl h2 (h s2 (by rw [ho]; simp [Op.operands]))
  obtain ⟨i0, hi0, hz0, hz1, hz2⟩ := info_parts Try.infoI17
  have hP := run_buildSlice (P := Try.prog) w 48 3 2 #[(0, .int .i64 x), (1, .int .i64 y)] #[.int .i64 x, .int .i64 y] i0 (.int .i64 0) Try.underlying48 hi0 hz0 (by rw [hz1]; decide) (by rw [hz1]; decide) (by rw [hz1]; exact fill_two17 x y)
  unfold execOp
  simp only [ho, Sem.run_bind]
  rw [show (#[((0 : Nat), Operand.tmp s1), (1, Operand.tmp s2)].map fun (p : Nat × Operand) => (p.1, a.eval p.2)) = #[(0, Value.int .i64 x), (1, .int .i64 y)] from by simp [e1, e2]]
  rw [hP]
  rfl
theorem slot_made3 {s1 s2 s3 d : Tmp} {x y z : Int} (ho : o.op = .buildSlice 48 3 #[(0, .tmp s1), (1, .tmp s2), (2, .tmp s3)]) (hd : o.dst = some d) (h1 : f s1 = .inl (.int .i64 x)) (h2 : f s2 = .inl (.int .i64 y)) (h3 : f s3 = .inl (.int .i64 z)) (hf : f d = .inr [x, y, z]) : SlOp U f o := by
  refine SlotOp.made (e := 3) hd hf fun a w hC h => ?_
  have e1 := slotP_inl h1 (h s1 (by rw [ho]; simp [Op.operands]))
  have e2 := slotP_inl h2 (h s2 (by rw [ho]; simp [Op.operands]))
  have e3 := slotP_inl h3 (h s3 (by rw [ho]; simp [Op.operands]))
  obtain ⟨i0, hi0, hz0, hz1, hz2⟩ := info_parts Try.infoI17
  have hP := run_buildSlice (P := Try.prog) w 48 3 3 #[(0, .int .i64 x), (1, .int .i64 y), (2, .int .i64 z)] #[.int .i64 x, .int .i64 y, .int .i64 z] i0 (.int .i64 0) Try.underlying48 hi0 hz0 (by rw [hz1]; decide) (by rw [hz1]; decide) (by rw [hz1]; exact fill_three17 x y z)
  unfold execOp
  simp only [ho, Sem.run_bind]
  rw [show (#[((0 : Nat), Operand.tmp s1), (1, Operand.tmp s2), (2, Operand.tmp s3)].map fun (p : Nat × Operand) => (p.1, a.eval p.2)) = #[(0, Value.int .i64 x), (1, .int .i64 y), (2, .int .i64 z)] from by simp [e1, e2, e3]]
  rw [hP]
  rfl
/-- A call of numbers on a slice of the call's own. -/
theorem slot_nums {s d : Tmp} {l : List Int} {k : Nat} {c : Int} {ats : Array TypeId} (ho : o.op = .call { callee := .value (.func 32), args := #[.const (.int .i64 c), .tmp s], argTypes := ats }) (hd : o.dst = some d) (hc : c = (k : Int)) (h1 : 1 ≤ k) (h8 : k ≤ 8) (hs : f s = .inr l) (hf : f d = .inl (.string (str (encs k l)))) (hl : l.length ≤ 1000)
    (hb : ∀ x ∈ l, 0 ≤ x ∧ x.toNat < 256 ^ k ∧ x ≤ 9223372036854775807)
    (hr : ∀ (ρ : Operand → Value) w, ρ (.func 32) = .func (.func 32) #[] #[] → ρ (.const (.int .i64 c)) = .int .i64 c → (execOp ρ o).run Try.prog w = .ok (.enter 32 #[.int .i64 c, ρ (.tmp s)]) w) : SlOp U f o := by
  refine SlotOp.call hd hf fun a w hC h => ?_
  obtain ⟨g, e1, e2⟩ := slotP_inr hs (h s (by rw [ho]; simp [Op.operands, Call.operands]))
  refine ⟨_, _, hr a.eval w rfl rfl, ?_⟩
  rw [e1, hc]
  exact numbers_any k h1 h8 e2 hl hb
/-- A call of numbers on a slice that was there. -/
theorem slot_nums_at {s d : Tmp} {l : List Int} {A : Option Addr} {n : Nat} {k : Nat} {c : Int} {ats : Array TypeId} (ho : o.op = .call { callee := .value (.func 32), args := #[.const (.int .i64 c), .tmp s], argTypes := ats }) (hd : o.dst = some d) (hc : c = (k : Int)) (h1 : 1 ≤ k) (h8 : k ≤ 8) (hs : f s = .inl (.slice A l.length n)) (hA : Lies U U.heap.size A (l.map (Value.int .i64))) (hf : f d = .inl (.string (str (encs k l)))) (hl : l.length ≤ 1000)
    (hb : ∀ x ∈ l, 0 ≤ x ∧ x.toNat < 256 ^ k ∧ x ≤ 9223372036854775807)
    (hr : ∀ (ρ : Operand → Value) w, ρ (.func 32) = .func (.func 32) #[] #[] → ρ (.const (.int .i64 c)) = .int .i64 c → (execOp ρ o).run Try.prog w = .ok (.enter 32 #[.int .i64 c, ρ (.tmp s)]) w) : SlOp U f o := by
  refine SlotOp.call hd hf fun a w hC h => ?_
  have e1 := slotP_inl hs (h s (by rw [ho]; simp [Op.operands, Call.operands]))
  refine ⟨_, _, hr a.eval w rfl rfl, ?_⟩
  rw [e1, hc]
  exact numbers_any k h1 h8 (hA.next hC) hl hb
/-- A call of flag. -/
theorem slot_flag {s d : Tmp} {b : Bool} {ats : Array TypeId} (ho : o.op = .call { callee := .value (.func 45), args := #[.tmp s], argTypes := ats }) (hd : o.dst = some d) (hs : f s = .inl (.bool b)) (hf : f d = .inl (.int .i64 (fullN b : Nat)))
    (hr : ∀ (ρ : Operand → Value) w, ρ (.func 45) = .func (.func 45) #[] #[] → (execOp ρ o).run Try.prog w = .ok (.enter 45 #[ρ (.tmp s)]) w) : SlOp U f o := by
  refine SlotOp.call hd hf fun a w hC h => ?_
  have e1 := slotP_inl hs (h s (by rw [ho]; simp [Op.operands, Call.operands]))
  refine ⟨_, _, hr a.eval w rfl, ?_⟩
  rw [e1]
  refine (flag1_any b w).mono ?_
  rintro e w' ⟨rfl, rfl⟩
  exact ⟨rfl, Below.refl _ _⟩
end
end Go.Proofs.Ytkpoeigoocbgeaa
