/- errors.Is of a log's error and a number, settle; Fault's Unwrap. -/
import Derived.Test.YtgnijpjdkipaaaaGreatDoorWalD
import Derived.Lib.IfaceEq
import Derived.LaidEql
import Derived.Stop.Asserts
import Derived.RowKitTokens
namespace Go.Proofs.YtgnijpjdkipaaaaGreatDoor
open Go.RowKit Go.Extern.Stop Go.Stop Go.Extern
theorem is_nil5 (v : Value) (w : World) : Calls Tryz.prog 87 #[.nilIface, .iface 56 v] w fun e w' => e = .returned (.bool false) ∧ w' = w := by
  have hn := run_eql_iface_nil_left (P := Tryz.prog) w 56 v Tryz.underlying34
  go_enter Tryz.func87, Tryz.ntmps87
  go_wp2
  go_ret
  exact ⟨rfl, rfl⟩
theorem isTypeOf5 (v : Value) (w : World) : (Extern.ReflectliteType.typeOf #[.iface 56 v]).run Tryz.prog w = .ok (.iface 156 (.agg #[.pointer (some ⟨4, 56, none⟩)])) w := by kernel_rfl
/-- The model's entry for (rtype).Comparable. -/
noncomputable def cmp5 : Array Value → Sem Value := (Extern.find Tryz.f168).getD (fun _ => pure (.bool false))
theorem isComparable5 (w : World) : (cmp5 #[.agg #[.pointer (some ⟨4, 56, none⟩)]]).run Tryz.prog w = .ok (.bool true) w := by kernel_rfl
theorem isMethodComparable5 (v : Value) (w : World) : (Go.method 338 156 v "Comparable").run Tryz.prog w = .ok (168, v) w := by kernel_rfl
theorem noIsE5 (v : Value) (xT : TypeId) (w : World) : (Instr.typeAssert (.iface 56 v) xT 182 true).run Tryz.prog w = .ok (.tuple #[.nilIface, .bool false]) w := run_typeAssert_lacksB Tryz.underlying182 (by kernel_rfl) (by kernel_rfl) v xT w
theorem noUnwrapE5 (v : Value) (xT : TypeId) (w : World) : (Instr.typeAssert (.iface 56 v) xT 164 true).run Tryz.prog w = .ok (.tuple #[.nilIface, .bool false]) w := run_typeAssert_lacksB Tryz.underlying164 (by kernel_rfl) (by kernel_rfl) v xT w
theorem noUnwrapsE5 (v : Value) (xT : TypeId) (w : World) : (Instr.typeAssert (.iface 56 v) xT 165 true).run Tryz.prog w = .ok (.tuple #[.nilIface, .bool false]) w := run_typeAssert_lacksB Tryz.underlying165 (by kernel_rfl) (by kernel_rfl) v xT w
theorem noIsW5 (v : Value) (xT : TypeId) (w : World) : (Instr.typeAssert (.iface 74 v) xT 182 true).run Tryz.prog w = .ok (.tuple #[.nilIface, .bool false]) w := run_typeAssert_lacksB Tryz.underlying182 (by kernel_rfl) (by kernel_rfl) v xT w
theorem hasUnwrapW5 (v : Value) (xT : TypeId) (w : World) : (Instr.typeAssert (.iface 74 v) xT 164 true).run Tryz.prog w = .ok (.tuple #[.iface 74 v, .bool true]) w := run_typeAssert_hasB Tryz.underlying164 (by kernel_rfl) v xT w
theorem methodUnwrap5 (v : Value) (w : World) : (Go.method 338 74 v "Unwrap").run Tryz.prog w = .ok (42, v) w := by kernel_rfl
theorem isComp5 : (Tryz.prog.info? 56).map (·.comparable) = some true := by kernel_rfl

theorem Unwrap_any (b : Nat) (call : ByteArray) (k : Int) (w : World) (h : w.heap[b]? = some (.cells (faultV call k) 76 (0, 0))) : Calls Tryz.prog 42 #[.pointer (some ⟨b, 0, none⟩)] w fun e w' => e = .returned (.iface 56 (.int .i64 k)) ∧ w' = w := by
  have c1 : w.cell? ⟨b, 1, none⟩ = some (.iface 56 (.int .i64 k)) := by rw [Lib.cell_of_heap h]; rfl
  go_enter Tryz.func42, Tryz.ntmps42
  go_wp2
  go_ret
  exact ⟨rfl, rfl⟩

set_option maxHeartbeats 1600000 in
set_option maxRecDepth 100000 in
theorem is_num (b : Nat) (call : ByteArray) (k : Int) (w : World) (h : w.heap[b]? = some (.cells (faultV call k) 76 (0, 0))) : Calls Tryz.prog 87 #[.iface 74 (.pointer (some ⟨b, 0, none⟩)), .iface 56 (.int .i64 7)] w fun e w' => e = .returned (.bool (k == 7)) ∧ w' = w := by
  have hT := @run_callFunc_extern Tryz.prog 100 _ Extern.ReflectliteType.typeOf Tryz.func100 (by kernel_rfl) (by kernel_rfl) (by kernel_rfl) (by kernel_rfl)
  have hC := @run_callFunc_extern Tryz.prog 168 _ cmp5 Tryz.func168 (by kernel_rfl) (by kernel_rfl) (by kernel_rfl) (by kernel_rfl)
  have tT := isTypeOf5
  have cT := isComparable5
  have mR := isMethodComparable5
  have nE := noIsE5
  have uE := noUnwrapE5
  have vE := noUnwrapsE5
  have nW := noIsW5
  have uW := hasUnwrapW5
  have mU := methodUnwrap5
  have heq := Lib.run_eql_iface_int (P := Tryz.prog) (k := .i64) w k 7 Tryz.underlying34 isComp5 Tryz.underlying56
  have hty := run_eql_iface_types (P := Tryz.prog) 74 56 (.pointer (some ⟨b, 0, none⟩)) (.int .i64 7) Tryz.underlying34 (by decide) w
  have c1 : w.cell? ⟨b, 1, none⟩ = some (.iface 56 (.int .i64 k)) := by rw [Lib.cell_of_heap h]; rfl
  by_cases hk : k = 7
  · subst hk
    go_enter Tryz.func87, Tryz.ntmps87
    go_wp2
    refine wp_loop_rounds 2 ?_
    rw [rounds_succ]
    go_wp2
    rw [rounds_succ]
    go_wp2
    go_ret
    exact ⟨rfl, rfl⟩
  · have hk' : (k == 7) = false := by simpa using hk
    rw [hk'] at heq ⊢
    go_enter Tryz.func87, Tryz.ntmps87
    go_wp2
    refine wp_loop_rounds 2 ?_
    rw [rounds_succ]
    go_wp2
    rw [rounds_succ]
    go_wp2
    go_ret
    exact ⟨rfl, rfl⟩

theorem settle_ok {w : World} {a : Nat} {v : WalV} (_h : WalAt w a v) (call : ByteArray) : Calls Tryz.prog 58 #[.pointer (some ⟨a, 0, none⟩), .string call, .int .i64 0] w fun e w' => e = .returned .nilIface ∧ w = w' := by
  go_enter Tryz.func58, Tryz.ntmps58
  go_wp2_with fail
  refine (fault_ok call _).mono ?_
  rintro e w' ⟨rfl, rfl⟩
  go_wp2_with fail
  refine (is_nil5 _ _).mono ?_
  rintro e w' ⟨rfl, rfl⟩
  go_wp2_with fail
  go_ret
  exact ⟨rfl, rfl⟩

/-- What a call that is refused leaves: a fault in a new block; the log out of use where the disk has refused. -/
def SettleEnd (w : World) (a : Nat) (v : WalV) (call : ByteArray) (k : Int) (e : Ending) (w' : World) : Prop :=
  e = .returned (.iface 74 (.pointer (some ⟨w.heap.size, 0, none⟩))) ∧ w'.heap[w.heap.size]? = some (.cells (faultV call k) 76 (0, 0)) ∧ WalAt w' a { v with down := v.down || (k == 7) } ∧ Moves (fun q => q = a) w w'

set_option maxHeartbeats 800000 in
theorem settle_no {w : World} {a : Nat} {v : WalV} (h : WalAt w a v) (call : ByteArray) (k : Int) (hk : k ≠ 0) : Calls Tryz.prog 58 #[.pointer (some ⟨a, 0, none⟩), .string call, .int .i64 k] w (SettleEnd w a v call k) := by
  have halt : a < w.heap.size := heap_lt h
  have hW : WalAt (w.alloc (.cells (faultV call k) 76)) a v := (Below.heap_alloc _ _ _ halt).trans h
  have hF : (w.alloc (.cells (faultV call k) 76)).heap[w.heap.size]? = some (.cells (faultV call k) 76 (0, 0)) := heap_alloc_new _ _
  have hM : Moves (fun q => q = a) w (w.alloc (.cells (faultV call k) 76)) := (Moves.refl _ _).alloc _
  have HW := Lib.hid hW
  have HF := Lib.hid hF
  have HM := Lib.hid hM
  have HIs := Lib.hid (is_num w.heap.size call k _ hF)
  obtain ⟨c0, c1, c2, c3, c4, c5, c6, cf⟩ := hW.cells
  clear h hW hF hM
  by_cases h7 : k = 7
  · have e7 : (k == 7) = true := by simpa using h7
    rw [e7] at HIs
    have HE : Hid (SettleEnd w a v call k (.returned (.iface 74 (.pointer (some ⟨w.heap.size, 0, none⟩)))) ((w.alloc (.cells (faultV call k) 76)).setCell ⟨a, 6, none⟩ (.bool true))) := Lib.hid (by
      refine ⟨rfl, (Below.heap_setCell _ _ _ _ (by simp; omega)).trans HF.out, ?_, HM.out.setCell rfl _⟩
      have := row_set HW.out 6 (.bool true)
      unfold WalAt
      rw [e7, Bool.or_true]
      exact this)
    clear h7 e7 HW HF HM
    go_enter Tryz.func58, Tryz.ntmps58
    go_wp2_with fail
    refine (fault_no call k hk _).mono ?_
    rintro e w' ⟨rfl, rfl⟩
    go_wp2_with fail
    refine HIs.out.mono ?_
    rintro e w' ⟨rfl, rfl⟩
    clear HIs
    generalize w.alloc (.cells (faultV call k) 76) = V at *
    go_wp2_with fail
    go_ret
    exact HE.out
  · have e7 : (k == 7) = false := by simpa using h7
    rw [e7] at HIs
    have HE : Hid (SettleEnd w a v call k (.returned (.iface 74 (.pointer (some ⟨w.heap.size, 0, none⟩)))) (w.alloc (.cells (faultV call k) 76))) := Lib.hid ⟨rfl, HF.out, by rw [e7, Bool.or_false]; exact HW.out, HM.out⟩
    clear h7 e7 HW HF HM
    go_enter Tryz.func58, Tryz.ntmps58
    go_wp2_with fail
    refine (fault_no call k hk _).mono ?_
    rintro e w' ⟨rfl, rfl⟩
    go_wp2_with fail
    refine HIs.out.mono ?_
    rintro e w' ⟨rfl, rfl⟩
    go_wp2_with fail
    go_ret
    exact HE.out
end Go.Proofs.YtgnijpjdkipaaaaGreatDoor
