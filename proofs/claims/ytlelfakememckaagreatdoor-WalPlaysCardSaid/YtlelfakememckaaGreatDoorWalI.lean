/- errors.Is of a log's error and a number, settle; Fault's Unwrap. Contracts of Append and of Checkpoint. -/
import Derived.Test.YtlelfakememckaaGreatDoorWalD
import Derived.Lib.IfaceEq
import Derived.LaidEql
import Derived.Stop.Asserts
import Derived.RowKitTokens
import Derived.Test.YtlelfakememckaaGreatDoorWalU
namespace Go.Proofs.YtlelfakememckaaGreatDoor
open Go.RowKit Go.Extern.Stop Go.Stop Go.Extern
theorem is_nil5 (v : Value) (w : World) : Calls Tryz.prog 71 #[.nilIface, .iface 56 v] w fun e w' => e = .returned (.bool false) ∧ w' = w := by
  have hn := run_eql_iface_nil_left (P := Tryz.prog) w 56 v Tryz.underlying34
  go_enter Tryz.func71, Tryz.ntmps71
  go_wp2
  go_ret
  exact ⟨rfl, rfl⟩
theorem isTypeOf5 (v : Value) (w : World) : (Extern.ReflectliteType.typeOf #[.iface 56 v]).run Tryz.prog w = .ok (.iface 144 (.agg #[.pointer (some ⟨4, 56, none⟩)])) w := by kernel_rfl
/-- The model's entry for (rtype).Comparable. -/
noncomputable def cmp5 : Array Value → Sem Value := (Extern.find Tryz.f159).getD (fun _ => pure (.bool false))
theorem isComparable5 (w : World) : (cmp5 #[.agg #[.pointer (some ⟨4, 56, none⟩)]]).run Tryz.prog w = .ok (.bool true) w := by kernel_rfl
theorem isMethodComparable5 (v : Value) (w : World) : (Go.method 332 144 v "Comparable").run Tryz.prog w = .ok (159, v) w := by kernel_rfl
theorem noIsE5 (v : Value) (xT : TypeId) (w : World) : (Instr.typeAssert (.iface 56 v) xT 173 true).run Tryz.prog w = .ok (.tuple #[.nilIface, .bool false]) w := run_typeAssert_lacksB Tryz.underlying173 (by kernel_rfl) (by kernel_rfl) v xT w
theorem noUnwrapE5 (v : Value) (xT : TypeId) (w : World) : (Instr.typeAssert (.iface 56 v) xT 152 true).run Tryz.prog w = .ok (.tuple #[.nilIface, .bool false]) w := run_typeAssert_lacksB Tryz.underlying152 (by kernel_rfl) (by kernel_rfl) v xT w
theorem noUnwrapsE5 (v : Value) (xT : TypeId) (w : World) : (Instr.typeAssert (.iface 56 v) xT 154 true).run Tryz.prog w = .ok (.tuple #[.nilIface, .bool false]) w := run_typeAssert_lacksB Tryz.underlying154 (by kernel_rfl) (by kernel_rfl) v xT w
theorem noIsW5 (v : Value) (xT : TypeId) (w : World) : (Instr.typeAssert (.iface 103 v) xT 173 true).run Tryz.prog w = .ok (.tuple #[.nilIface, .bool false]) w := run_typeAssert_lacksB Tryz.underlying173 (by kernel_rfl) (by kernel_rfl) v xT w
theorem hasUnwrapW5 (v : Value) (xT : TypeId) (w : World) : (Instr.typeAssert (.iface 103 v) xT 152 true).run Tryz.prog w = .ok (.tuple #[.iface 103 v, .bool true]) w := run_typeAssert_hasB Tryz.underlying152 (by kernel_rfl) v xT w
theorem methodUnwrap5 (v : Value) (w : World) : (Go.method 332 103 v "Unwrap").run Tryz.prog w = .ok (153, v) w := by kernel_rfl
theorem isComp5 : (Tryz.prog.info? 56).map (·.comparable) = some true := by kernel_rfl

theorem Unwrap_any (b : Nat) (call : ByteArray) (k : Int) (w : World) (h : w.heap[b]? = some (.cells (faultV call k) 105 (0, 0))) : Calls Tryz.prog 153 #[.pointer (some ⟨b, 0, none⟩)] w fun e w' => e = .returned (.iface 56 (.int .i64 k)) ∧ w' = w := by
  have c1 : w.cell? ⟨b, 1, none⟩ = some (.iface 56 (.int .i64 k)) := by rw [Lib.cell_of_heap h]; rfl
  go_enter Tryz.func153, Tryz.ntmps153
  go_wp2
  go_ret
  exact ⟨rfl, rfl⟩

set_option maxHeartbeats 1600000 in
set_option maxRecDepth 100000 in
theorem is_num (b : Nat) (call : ByteArray) (k : Int) (w : World) (h : w.heap[b]? = some (.cells (faultV call k) 105 (0, 0))) : Calls Tryz.prog 71 #[.iface 103 (.pointer (some ⟨b, 0, none⟩)), .iface 56 (.int .i64 7)] w fun e w' => e = .returned (.bool (k == 7)) ∧ w' = w := by
  have hT := @run_callFunc_extern Tryz.prog 86 _ Extern.ReflectliteType.typeOf Tryz.func86 (by kernel_rfl) (by kernel_rfl) (by kernel_rfl) (by kernel_rfl)
  have hC := @run_callFunc_extern Tryz.prog 159 _ cmp5 Tryz.func159 (by kernel_rfl) (by kernel_rfl) (by kernel_rfl) (by kernel_rfl)
  have tT := isTypeOf5
  have cT := isComparable5
  have mR := isMethodComparable5
  have nE := noIsE5
  have uE := noUnwrapE5
  have vE := noUnwrapsE5
  have nW := noIsW5
  have uW := hasUnwrapW5
  have mU := methodUnwrap5
  have heq := Lib.run_eql_iface_int (P := Tryz.prog) (k := .i64) w k 7 Tryz.underlying34 isComp5 Tryz.underlying56
  have hty := run_eql_iface_types (P := Tryz.prog) 103 56 (.pointer (some ⟨b, 0, none⟩)) (.int .i64 7) Tryz.underlying34 (by decide) w
  have c1 : w.cell? ⟨b, 1, none⟩ = some (.iface 56 (.int .i64 k)) := by rw [Lib.cell_of_heap h]; rfl
  by_cases hk : k = 7
  · subst hk
    go_enter Tryz.func71, Tryz.ntmps71
    go_wp2
    refine wp_loop_rounds 2 ?_
    rw [rounds_succ]
    go_wp2
    rw [rounds_succ]
    go_wp2
    go_ret
    exact ⟨rfl, rfl⟩
  · have hk' : (k == 7) = false := by simpa using hk
    rw [hk'] at heq ⊢
    go_enter Tryz.func71, Tryz.ntmps71
    go_wp2
    refine wp_loop_rounds 2 ?_
    rw [rounds_succ]
    go_wp2
    rw [rounds_succ]
    go_wp2
    go_ret
    exact ⟨rfl, rfl⟩

theorem settle_ok {w : World} {a : Nat} {v : WalV} (_h : WalAt w a v) (call : ByteArray) : Calls Tryz.prog 44 #[.pointer (some ⟨a, 0, none⟩), .string call, .int .i64 0] w fun e w' => e = .returned .nilIface ∧ w = w' := by
  go_enter Tryz.func44, Tryz.ntmps44
  go_wp2_with fail
  refine (fault_ok call _).mono ?_
  rintro e w' ⟨rfl, rfl⟩
  go_wp2_with fail
  refine (is_nil5 _ _).mono ?_
  rintro e w' ⟨rfl, rfl⟩
  go_wp2_with fail
  go_ret
  exact ⟨rfl, rfl⟩

/-- What a call that is refused leaves: a fault in a new block; the log out of use where the disk has refused. -/
def SettleEnd (w : World) (a : Nat) (v : WalV) (call : ByteArray) (k : Int) (e : Ending) (w' : World) : Prop :=
  e = .returned (.iface 103 (.pointer (some ⟨w.heap.size, 0, none⟩))) ∧ w'.heap[w.heap.size]? = some (.cells (faultV call k) 105 (0, 0)) ∧ WalAt w' a { v with down := v.down || (k == 7) } ∧ Moves (fun q => q = a) w w'

set_option maxHeartbeats 800000 in
theorem settle_no {w : World} {a : Nat} {v : WalV} (h : WalAt w a v) (call : ByteArray) (k : Int) (hk : k ≠ 0) : Calls Tryz.prog 44 #[.pointer (some ⟨a, 0, none⟩), .string call, .int .i64 k] w (SettleEnd w a v call k) := by
  have halt : a < w.heap.size := heap_lt h
  have hW : WalAt (w.alloc (.cells (faultV call k) 105)) a v := (Below.heap_alloc _ _ _ halt).trans h
  have hF : (w.alloc (.cells (faultV call k) 105)).heap[w.heap.size]? = some (.cells (faultV call k) 105 (0, 0)) := heap_alloc_new _ _
  have hM : Moves (fun q => q = a) w (w.alloc (.cells (faultV call k) 105)) := (Moves.refl _ _).alloc _
  have HW := Lib.hid hW
  have HF := Lib.hid hF
  have HM := Lib.hid hM
  have HIs := Lib.hid (is_num w.heap.size call k _ hF)
  obtain ⟨c0, c1, c2, c3, c4, c5, c6, cf⟩ := hW.cells
  clear h hW hF hM
  by_cases h7 : k = 7
  · have e7 : (k == 7) = true := by simpa using h7
    rw [e7] at HIs
    have HE : Hid (SettleEnd w a v call k (.returned (.iface 103 (.pointer (some ⟨w.heap.size, 0, none⟩)))) ((w.alloc (.cells (faultV call k) 105)).setCell ⟨a, 6, none⟩ (.bool true))) := Lib.hid (by
      refine ⟨rfl, (Below.heap_setCell _ _ _ _ (by simp; omega)).trans HF.out, ?_, HM.out.setCell rfl _⟩
      have := row_set HW.out 6 (.bool true)
      unfold WalAt
      rw [e7, Bool.or_true]
      exact this)
    clear h7 e7 HW HF HM
    go_enter Tryz.func44, Tryz.ntmps44
    go_wp2_with fail
    refine (fault_no call k hk _).mono ?_
    rintro e w' ⟨rfl, rfl⟩
    go_wp2_with fail
    refine HIs.out.mono ?_
    rintro e w' ⟨rfl, rfl⟩
    clear HIs
    generalize w.alloc (.cells (faultV call k) 105) = V at *
    go_wp2_with fail
    go_ret
    exact HE.out
  · have e7 : (k == 7) = false := by simpa using h7
    rw [e7] at HIs
    have HE : Hid (SettleEnd w a v call k (.returned (.iface 103 (.pointer (some ⟨w.heap.size, 0, none⟩)))) (w.alloc (.cells (faultV call k) 105))) := Lib.hid ⟨rfl, HF.out, by rw [e7, Bool.or_false]; exact HW.out, HM.out⟩
    clear h7 e7 HW HF HM
    go_enter Tryz.func44, Tryz.ntmps44
    go_wp2_with fail
    refine (fault_no call k hk _).mono ?_
    rintro e w' ⟨rfl, rfl⟩
    go_wp2_with fail
    refine HIs.out.mono ?_
    rintro e w' ⟨rfl, rfl⟩
    go_wp2_with fail
    go_ret
    exact HE.out
end Go.Proofs.YtlelfakememckaaGreatDoor

namespace Go.Proofs.YtlelfakememckaaGreatDoor
open Go.RowKit

def appendW : ByteArray := ⟨#[97, 112, 112, 101, 110, 100]⟩
def checkpointW : ByteArray := ⟨#[99, 104, 101, 99, 107, 112, 111, 105, 110, 116]⟩
/-- What a call on a log that may be refused leaves: nil, or a fault in a new block; the log is out of use where the disk has refused. -/
def CallEnd (w : World) (F : Nat → Prop) (a : Nat) (v : WalV) (d : DSt) (call : ByteArray) (k : Int) (e : Ending) (w' : World) : Prop :=
  (if k = 0 then e = .returned .nilIface else ∃ b, e = .returned (.iface 103 (.pointer (some ⟨b, 0, none⟩))) ∧ w'.heap[b]? = some (.cells (faultV call k) 105 (0, 0))) ∧
  ∃ F', LogAt w' F' a (if k = 7 then { v with down := true } else v) d ∧ ¬ F' a ∧ Moves (fun q => F q ∨ q = a) w w' ∧ ∀ j, F' j → F j ∨ w.heap.size ≤ j
theorem callEnd_no {w w1 w2 : World} {F : Nat → Prop} {a : Nat} {v : WalV} {d : DSt} {call : ByteArray} {k : Int} {e : Ending} (hk : k ≠ 0) (h1 : ∃ F', LogAt w1 F' a v d ∧ ¬ F' a ∧ Moves (fun q => F q ∨ q = a) w w1 ∧ ∀ j, F' j → F j ∨ w.heap.size ≤ j)
    (hs : SettleEnd w1 a v call k e w2) : CallEnd w F a v d call k e w2 := by
  obtain ⟨F', hL, hF, hM, hF'⟩ := h1
  obtain ⟨he, hf, hw, hm⟩ := hs
  refine ⟨by rw [if_neg hk]; exact ⟨_, he, hf⟩, F', ?_, hF, hM.trans hm (fun j hj => Or.inl (Or.inr hj)), hF'⟩
  by_cases h7 : k = 7
  · rw [if_pos h7]
    have e7 : (k == 7) = true := by rw [beq_iff_eq]; exact h7
    rw [e7, Bool.or_true] at hw
    exact hL.moves hF hm hw rfl ⟨hL.ok.n1, hL.ok.s1, hL.ok.fit, hL.ok.next, hL.ok.used, hL.ok.g1, hL.ok.g2, hL.ok.k1, hL.ok.k2⟩
  · rw [if_neg h7]
    have e7 : (k == 7) = false := by rw [beq_eq_false_iff_ne]; exact h7
    rw [e7, Bool.or_false] at hw
    exact hL.moves hF hm hw rfl hL.ok

set_option maxHeartbeats 1600000 in
set_option maxRecDepth 100000 in
theorem Append_any {w : World} {F : Nat → Prop} {a : Nat} {v : WalV} {d : DSt} (h : LogAt w F a v d) (hF : ¬ F a) (l : List UInt8) (hl : l.length ≤ 100000) (hlo : d.loose.length ≤ 100000) :
    Calls Tryz.prog 19 #[.pointer (some ⟨a, 0, none⟩), .string (str l)] w (CallEnd w F a (addV v d l) (addD v d l) appendW (addE v d l)) := by
  have HA := Lib.hid (addRecord_any h hF l hl hlo)
  clear h hF hl hlo
  generalize addV v d l = V at *
  generalize addD v d l = D at *
  obtain ⟨S, hS⟩ : ∃ S, str l = S := ⟨_, rfl⟩
  rw [hS] at HA ⊢
  clear hS
  by_cases h0 : addE v d l = 0
  · rw [h0] at HA ⊢
    clear h0
    go_enter Tryz.func19, Tryz.ntmps19
    go_wp2_with fail
    refine HA.out.mono ?_
    rintro e w1 ⟨rfl, F', hL, hF, hM, hF'⟩
    have HL := Lib.hid hL
    have HE : Hid (CallEnd w F a V D appendW 0 (.returned .nilIface) w1) := Lib.hid ⟨rfl, F', by rw [if_neg (by decide)]; exact hL, hF, hM, hF'⟩
    clear hL hF hM hF'
    go_wp2_with fail
    refine (settle_ok HL.out.wal _).mono ?_
    rintro e w2 ⟨rfl, rfl⟩
    go_wp2_with fail
    go_ret
    exact HE.out
  · obtain ⟨k, hk⟩ : ∃ k, addE v d l = k := ⟨_, rfl⟩
    rw [hk] at HA h0 ⊢
    clear hk
    go_enter Tryz.func19, Tryz.ntmps19
    go_wp2_with fail
    refine HA.out.mono ?_
    rintro e w1 ⟨rfl, hE⟩
    have HE := Lib.hid hE
    obtain ⟨F', hL, _⟩ := hE
    have HL := Lib.hid hL
    have H0 := Lib.hid h0
    clear hL h0
    go_wp2_with fail
    refine (settle_no HL.out.wal appendW k H0.out).mono ?_
    rintro e w2 hs
    have HC := Lib.hid (callEnd_no H0.out HE.out hs)
    obtain ⟨rfl, _⟩ := hs
    go_wp2_with fail
    go_ret
    exact HC.out

set_option maxHeartbeats 1600000 in
set_option maxRecDepth 100000 in
theorem Checkpoint_any {w : World} {F : Nat → Prop} {a : Nat} {v : WalV} {d : DSt} (h : LogAt w F a v d) (hF : ¬ F a) (l : List UInt8) (hl : l.length ≤ 100000) (hlo : d.loose.length ≤ 100000) :
    Calls Tryz.prog 13 #[.pointer (some ⟨a, 0, none⟩), .string (str l)] w (CallEnd w F a (ckV v d l) (ckD v d l) checkpointW (ckE v d l)) := by
  have HA := Lib.hid (replaceState_any h hF l hl hlo)
  clear h hF hl hlo
  generalize ckV v d l = V at *
  generalize ckD v d l = D at *
  obtain ⟨S, hS⟩ : ∃ S, str l = S := ⟨_, rfl⟩
  rw [hS] at HA ⊢
  clear hS
  by_cases h0 : ckE v d l = 0
  · rw [h0] at HA ⊢
    clear h0
    go_enter Tryz.func13, Tryz.ntmps13
    go_wp2_with fail
    refine HA.out.mono ?_
    rintro e w1 ⟨rfl, F', hL, hF, hM, hF'⟩
    have HL := Lib.hid hL
    have HE : Hid (CallEnd w F a V D checkpointW 0 (.returned .nilIface) w1) := Lib.hid ⟨rfl, F', by rw [if_neg (by decide)]; exact hL, hF, hM, hF'⟩
    clear hL hF hM hF'
    go_wp2_with fail
    refine (settle_ok HL.out.wal _).mono ?_
    rintro e w2 ⟨rfl, rfl⟩
    go_wp2_with fail
    go_ret
    exact HE.out
  · obtain ⟨k, hk⟩ : ∃ k, ckE v d l = k := ⟨_, rfl⟩
    rw [hk] at HA h0 ⊢
    clear hk
    go_enter Tryz.func13, Tryz.ntmps13
    go_wp2_with fail
    refine HA.out.mono ?_
    rintro e w1 ⟨rfl, hE⟩
    have HE := Lib.hid hE
    obtain ⟨F', hL, _⟩ := hE
    have HL := Lib.hid hL
    have H0 := Lib.hid h0
    clear hL h0
    go_wp2_with fail
    refine (settle_no HL.out.wal checkpointW k H0.out).mono ?_
    rintro e w2 hs
    have HC := Lib.hid (callEnd_no H0.out HE.out hs)
    obtain ⟨rfl, _⟩ := hs
    go_wp2_with fail
    go_ret
    exact HC.out
end Go.Proofs.YtlelfakememckaaGreatDoor
