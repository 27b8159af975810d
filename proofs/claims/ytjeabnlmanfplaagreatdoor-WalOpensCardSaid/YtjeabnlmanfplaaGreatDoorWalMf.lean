/- errors.Is of a log's error and a number, settle; Fault's Unwrap. Contracts of Append and of Checkpoint. A log on a disk whose power stays on: what an append and a checkpoint leave; the laws' fixed answer. The walk of WalOpens: both disks are written alike; plain facts. -/
import Derived.Test.YtjeabnlmanfplaaGreatDoorWalD
import Derived.Lib.IfaceEq
import Derived.LaidEql
import Derived.Stop.Asserts
import Derived.RowKitTokens
import Derived.Test.YtjeabnlmanfplaaGreatDoorWalMe
import Derived.Test.YtjeabnlmanfplaaGreatDoorWalMd
import Derived.Test.YtjeabnlmanfplaaGreatDoorWalOpA
import Derived.Test.YtjeabnlmanfplaaGreatDoorWalMc
namespace Go.Proofs.YtjeabnlmanfplaaGreatDoor
open Go.RowKit Go.Extern.Stop Go.Stop Go.Extern
theorem is_nil5 (v : Value) (w : World) : Calls Tryz.prog 87 #[.nilIface, .iface 56 v] w fun e w' => e = .returned (.bool false) ∧ w' = w := by
  have hn := run_eql_iface_nil_left (P := Tryz.prog) w 56 v Tryz.underlying34
  go_enter Tryz.func87, Tryz.ntmps87
  go_wp2
  go_ret
  exact ⟨rfl, rfl⟩
theorem isTypeOf5 (v : Value) (w : World) : (Extern.ReflectliteType.typeOf #[.iface 56 v]).run Tryz.prog w = .ok (.iface 156 (.agg #[.pointer (some ⟨4, 56, none⟩)])) w := by kernel_rfl
/-- The model's entry for (rtype).Comparable. -/
noncomputable def cmp5 : Array Value → Sem Value := (Extern.find Tryz.f168).getD (fun _ => pure (.bool false))
theorem isComparable5 (w : World) : (cmp5 #[.agg #[.pointer (some ⟨4, 56, none⟩)]]).run Tryz.prog w = .ok (.bool true) w := by kernel_rfl
theorem isMethodComparable5 (v : Value) (w : World) : (Go.method 338 156 v "Comparable").run Tryz.prog w = .ok (168, v) w := by kernel_rfl
theorem noIsE5 (v : Value) (xT : TypeId) (w : World) : (Instr.typeAssert (.iface 56 v) xT 182 true).run Tryz.prog w = .ok (.tuple #[.nilIface, .bool false]) w := run_typeAssert_lacksB Tryz.underlying182 (by kernel_rfl) (by kernel_rfl) v xT w
theorem noUnwrapE5 (v : Value) (xT : TypeId) (w : World) : (Instr.typeAssert (.iface 56 v) xT 164 true).run Tryz.prog w = .ok (.tuple #[.nilIface, .bool false]) w := run_typeAssert_lacksB Tryz.underlying164 (by kernel_rfl) (by kernel_rfl) v xT w
theorem noUnwrapsE5 (v : Value) (xT : TypeId) (w : World) : (Instr.typeAssert (.iface 56 v) xT 165 true).run Tryz.prog w = .ok (.tuple #[.nilIface, .bool false]) w := run_typeAssert_lacksB Tryz.underlying165 (by kernel_rfl) (by kernel_rfl) v xT w
theorem noIsW5 (v : Value) (xT : TypeId) (w : World) : (Instr.typeAssert (.iface 74 v) xT 182 true).run Tryz.prog w = .ok (.tuple #[.nilIface, .bool false]) w := run_typeAssert_lacksB Tryz.underlying182 (by kernel_rfl) (by kernel_rfl) v xT w
theorem hasUnwrapW5 (v : Value) (xT : TypeId) (w : World) : (Instr.typeAssert (.iface 74 v) xT 164 true).run Tryz.prog w = .ok (.tuple #[.iface 74 v, .bool true]) w := run_typeAssert_hasB Tryz.underlying164 (by kernel_rfl) v xT w
theorem methodUnwrap5 (v : Value) (w : World) : (Go.method 338 74 v "Unwrap").run Tryz.prog w = .ok (42, v) w := by kernel_rfl
theorem isComp5 : (Tryz.prog.info? 56).map (·.comparable) = some true := by kernel_rfl

theorem Unwrap_any (b : Nat) (call : ByteArray) (k : Int) (w : World) (h : w.heap[b]? = some (.cells (faultV call k) 76 (0, 0))) : Calls Tryz.prog 42 #[.pointer (some ⟨b, 0, none⟩)] w fun e w' => e = .returned (.iface 56 (.int .i64 k)) ∧ w' = w := by
  have c1 : w.cell? ⟨b, 1, none⟩ = some (.iface 56 (.int .i64 k)) := by rw [Lib.cell_of_heap h]; rfl
  go_enter Tryz.func42, Tryz.ntmps42
  go_wp2
  go_ret
  exact ⟨rfl, rfl⟩

set_option maxHeartbeats 1600000 in
set_option maxRecDepth 100000 in
theorem is_num (b : Nat) (call : ByteArray) (k : Int) (w : World) (h : w.heap[b]? = some (.cells (faultV call k) 76 (0, 0))) : Calls Tryz.prog 87 #[.iface 74 (.pointer (some ⟨b, 0, none⟩)), .iface 56 (.int .i64 7)] w fun e w' => e = .returned (.bool (k == 7)) ∧ w' = w := by
  have hT := @run_callFunc_extern Tryz.prog 100 _ Extern.ReflectliteType.typeOf Tryz.func100 (by kernel_rfl) (by kernel_rfl) (by kernel_rfl) (by kernel_rfl)
  have hC := @run_callFunc_extern Tryz.prog 168 _ cmp5 Tryz.func168 (by kernel_rfl) (by kernel_rfl) (by kernel_rfl) (by kernel_rfl)
  have tT := isTypeOf5
  have cT := isComparable5
  have mR := isMethodComparable5
  have nE := noIsE5
  have uE := noUnwrapE5
  have vE := noUnwrapsE5
  have nW := noIsW5
  have uW := hasUnwrapW5
  have mU := methodUnwrap5
  have heq := Lib.run_eql_iface_int (P := Tryz.prog) (k := .i64) w k 7 Tryz.underlying34 isComp5 Tryz.underlying56
  have hty := run_eql_iface_types (P := Tryz.prog) 74 56 (.pointer (some ⟨b, 0, none⟩)) (.int .i64 7) Tryz.underlying34 (by decide) w
  have c1 : w.cell? ⟨b, 1, none⟩ = some (.iface 56 (.int .i64 k)) := by rw [Lib.cell_of_heap h]; rfl
  by_cases hk : k = 7
  · subst hk
    go_enter Tryz.func87, Tryz.ntmps87
    go_wp2
    refine wp_loop_rounds 2 ?_
    rw [rounds_succ]
    go_wp2
    rw [rounds_succ]
    go_wp2
    go_ret
    exact ⟨rfl, rfl⟩
  · have hk' : (k == 7) = false := by simpa using hk
    rw [hk'] at heq ⊢
    go_enter Tryz.func87, Tryz.ntmps87
    go_wp2
    refine wp_loop_rounds 2 ?_
    rw [rounds_succ]
    go_wp2
    rw [rounds_succ]
    go_wp2
    go_ret
    exact ⟨rfl, rfl⟩

theorem settle_ok {w : World} {a : Nat} {v : WalV} (_h : WalAt w a v) (call : ByteArray) : Calls Tryz.prog 58 #[.pointer (some ⟨a, 0, none⟩), .string call, .int .i64 0] w fun e w' => e = .returned .nilIface ∧ w = w' := by
  go_enter Tryz.func58, Tryz.ntmps58
  go_wp2_with fail
  refine (fault_ok call _).mono ?_
  rintro e w' ⟨rfl, rfl⟩
  go_wp2_with fail
  refine (is_nil5 _ _).mono ?_
  rintro e w' ⟨rfl, rfl⟩
  go_wp2_with fail
  go_ret
  exact ⟨rfl, rfl⟩

/-- What a call that is refused leaves: a fault in a new block; the log out of use where the disk has refused. -/
def SettleEnd (w : World) (a : Nat) (v : WalV) (call : ByteArray) (k : Int) (e : Ending) (w' : World) : Prop :=
  e = .returned (.iface 74 (.pointer (some ⟨w.heap.size, 0, none⟩))) ∧ w'.heap[w.heap.size]? = some (.cells (faultV call k) 76 (0, 0)) ∧ WalAt w' a { v with down := v.down || (k == 7) } ∧ Moves (fun q => q = a) w w'

set_option maxHeartbeats 800000 in
theorem settle_no {w : World} {a : Nat} {v : WalV} (h : WalAt w a v) (call : ByteArray) (k : Int) (hk : k ≠ 0) : Calls Tryz.prog 58 #[.pointer (some ⟨a, 0, none⟩), .string call, .int .i64 k] w (SettleEnd w a v call k) := by
  have halt : a < w.heap.size := heap_lt h
  have hW : WalAt (w.alloc (.cells (faultV call k) 76)) a v := (Below.heap_alloc _ _ _ halt).trans h
  have hF : (w.alloc (.cells (faultV call k) 76)).heap[w.heap.size]? = some (.cells (faultV call k) 76 (0, 0)) := heap_alloc_new _ _
  have hM : Moves (fun q => q = a) w (w.alloc (.cells (faultV call k) 76)) := (Moves.refl _ _).alloc _
  have HW := Lib.hid hW
  have HF := Lib.hid hF
  have HM := Lib.hid hM
  have HIs := Lib.hid (is_num w.heap.size call k _ hF)
  obtain ⟨c0, c1, c2, c3, c4, c5, c6, cf⟩ := hW.cells
  clear h hW hF hM
  by_cases h7 : k = 7
  · have e7 : (k == 7) = true := by simpa using h7
    rw [e7] at HIs
    have HE : Hid (SettleEnd w a v call k (.returned (.iface 74 (.pointer (some ⟨w.heap.size, 0, none⟩)))) ((w.alloc (.cells (faultV call k) 76)).setCell ⟨a, 6, none⟩ (.bool true))) := Lib.hid (by
      refine ⟨rfl, (Below.heap_setCell _ _ _ _ (by simp; omega)).trans HF.out, ?_, HM.out.setCell rfl _⟩
      have := row_set HW.out 6 (.bool true)
      unfold WalAt
      rw [e7, Bool.or_true]
      exact this)
    clear h7 e7 HW HF HM
    go_enter Tryz.func58, Tryz.ntmps58
    go_wp2_with fail
    refine (fault_no call k hk _).mono ?_
    rintro e w' ⟨rfl, rfl⟩
    go_wp2_with fail
    refine HIs.out.mono ?_
    rintro e w' ⟨rfl, rfl⟩
    clear HIs
    generalize w.alloc (.cells (faultV call k) 76) = V at *
    go_wp2_with fail
    go_ret
    exact HE.out
  · have e7 : (k == 7) = false := by simpa using h7
    rw [e7] at HIs
    have HE : Hid (SettleEnd w a v call k (.returned (.iface 74 (.pointer (some ⟨w.heap.size, 0, none⟩)))) (w.alloc (.cells (faultV call k) 76))) := Lib.hid ⟨rfl, HF.out, by rw [e7, Bool.or_false]; exact HW.out, HM.out⟩
    clear h7 e7 HW HF HM
    go_enter Tryz.func58, Tryz.ntmps58
    go_wp2_with fail
    refine (fault_no call k hk _).mono ?_
    rintro e w' ⟨rfl, rfl⟩
    go_wp2_with fail
    refine HIs.out.mono ?_
    rintro e w' ⟨rfl, rfl⟩
    go_wp2_with fail
    go_ret
    exact HE.out
end Go.Proofs.YtjeabnlmanfplaaGreatDoor

namespace Go.Proofs.YtjeabnlmanfplaaGreatDoor
open Go.RowKit

def appendW : ByteArray := ⟨#[97, 112, 112, 101, 110, 100]⟩
def checkpointW : ByteArray := ⟨#[99, 104, 101, 99, 107, 112, 111, 105, 110, 116]⟩
/-- What a call on a log that may be refused leaves: nil, or a fault in a new block; the log is out of use where the disk has refused. -/
def CallEnd (w : World) (F : Nat → Prop) (a : Nat) (v : WalV) (d : DSt) (call : ByteArray) (k : Int) (e : Ending) (w' : World) : Prop :=
  (if k = 0 then e = .returned .nilIface else ∃ b, e = .returned (.iface 74 (.pointer (some ⟨b, 0, none⟩))) ∧ w'.heap[b]? = some (.cells (faultV call k) 76 (0, 0))) ∧
  ∃ F', LogAt w' F' a (if k = 7 then { v with down := true } else v) d ∧ ¬ F' a ∧ Moves (fun q => F q ∨ q = a) w w' ∧ ∀ j, F' j → F j ∨ w.heap.size ≤ j
theorem callEnd_no {w w1 w2 : World} {F : Nat → Prop} {a : Nat} {v : WalV} {d : DSt} {call : ByteArray} {k : Int} {e : Ending} (hk : k ≠ 0) (h1 : ∃ F', LogAt w1 F' a v d ∧ ¬ F' a ∧ Moves (fun q => F q ∨ q = a) w w1 ∧ ∀ j, F' j → F j ∨ w.heap.size ≤ j)
    (hs : SettleEnd w1 a v call k e w2) : CallEnd w F a v d call k e w2 := by
  obtain ⟨F', hL, hF, hM, hF'⟩ := h1
  obtain ⟨he, hf, hw, hm⟩ := hs
  refine ⟨by rw [if_neg hk]; exact ⟨_, he, hf⟩, F', ?_, hF, hM.trans hm (fun j hj => Or.inl (Or.inr hj)), hF'⟩
  by_cases h7 : k = 7
  · rw [if_pos h7]
    have e7 : (k == 7) = true := by rw [beq_iff_eq]; exact h7
    rw [e7, Bool.or_true] at hw
    exact hL.moves hF hm hw rfl ⟨hL.ok.n1, hL.ok.s1, hL.ok.fit, hL.ok.next, hL.ok.used, hL.ok.g1, hL.ok.g2, hL.ok.k1, hL.ok.k2⟩
  · rw [if_neg h7]
    have e7 : (k == 7) = false := by rw [beq_eq_false_iff_ne]; exact h7
    rw [e7, Bool.or_false] at hw
    exact hL.moves hF hm hw rfl hL.ok

set_option maxHeartbeats 1600000 in
set_option maxRecDepth 100000 in
theorem Append_any {w : World} {F : Nat → Prop} {a : Nat} {v : WalV} {d : DSt} (h : LogAt w F a v d) (hF : ¬ F a) (l : List UInt8) (hl : l.length ≤ 100000) (hlo : d.loose.length ≤ 100000) :
    Calls Tryz.prog 24 #[.pointer (some ⟨a, 0, none⟩), .string (str l)] w (CallEnd w F a (addV v d l) (addD v d l) appendW (addE v d l)) := by
  have HA := Lib.hid (addRecord_any h hF l hl hlo)
  clear h hF hl hlo
  generalize addV v d l = V at *
  generalize addD v d l = D at *
  obtain ⟨S, hS⟩ : ∃ S, str l = S := ⟨_, rfl⟩
  rw [hS] at HA ⊢
  clear hS
  by_cases h0 : addE v d l = 0
  · rw [h0] at HA ⊢
    clear h0
    go_enter Tryz.func24, Tryz.ntmps24
    go_wp2_with fail
    refine HA.out.mono ?_
    rintro e w1 ⟨rfl, F', hL, hF, hM, hF'⟩
    have HL := Lib.hid hL
    have HE : Hid (CallEnd w F a V D appendW 0 (.returned .nilIface) w1) := Lib.hid ⟨rfl, F', by rw [if_neg (by decide)]; exact hL, hF, hM, hF'⟩
    clear hL hF hM hF'
    go_wp2_with fail
    refine (settle_ok HL.out.wal _).mono ?_
    rintro e w2 ⟨rfl, rfl⟩
    go_wp2_with fail
    go_ret
    exact HE.out
  · obtain ⟨k, hk⟩ : ∃ k, addE v d l = k := ⟨_, rfl⟩
    rw [hk] at HA h0 ⊢
    clear hk
    go_enter Tryz.func24, Tryz.ntmps24
    go_wp2_with fail
    refine HA.out.mono ?_
    rintro e w1 ⟨rfl, hE⟩
    have HE := Lib.hid hE
    obtain ⟨F', hL, _⟩ := hE
    have HL := Lib.hid hL
    have H0 := Lib.hid h0
    clear hL h0
    go_wp2_with fail
    refine (settle_no HL.out.wal appendW k H0.out).mono ?_
    rintro e w2 hs
    have HC := Lib.hid (callEnd_no H0.out HE.out hs)
    obtain ⟨rfl, _⟩ := hs
    go_wp2_with fail
    go_ret
    exact HC.out

set_option maxHeartbeats 1600000 in
set_option maxRecDepth 100000 in
theorem Checkpoint_any {w : World} {F : Nat → Prop} {a : Nat} {v : WalV} {d : DSt} (h : LogAt w F a v d) (hF : ¬ F a) (l : List UInt8) (hl : l.length ≤ 100000) (hlo : d.loose.length ≤ 100000) :
    Calls Tryz.prog 18 #[.pointer (some ⟨a, 0, none⟩), .string (str l)] w (CallEnd w F a (ckV v d l) (ckD v d l) checkpointW (ckE v d l)) := by
  have HA := Lib.hid (replaceState_any h hF l hl hlo)
  clear h hF hl hlo
  generalize ckV v d l = V at *
  generalize ckD v d l = D at *
  obtain ⟨S, hS⟩ : ∃ S, str l = S := ⟨_, rfl⟩
  rw [hS] at HA ⊢
  clear hS
  by_cases h0 : ckE v d l = 0
  · rw [h0] at HA ⊢
    clear h0
    go_enter Tryz.func18, Tryz.ntmps18
    go_wp2_with fail
    refine HA.out.mono ?_
    rintro e w1 ⟨rfl, F', hL, hF, hM, hF'⟩
    have HL := Lib.hid hL
    have HE : Hid (CallEnd w F a V D checkpointW 0 (.returned .nilIface) w1) := Lib.hid ⟨rfl, F', by rw [if_neg (by decide)]; exact hL, hF, hM, hF'⟩
    clear hL hF hM hF'
    go_wp2_with fail
    refine (settle_ok HL.out.wal _).mono ?_
    rintro e w2 ⟨rfl, rfl⟩
    go_wp2_with fail
    go_ret
    exact HE.out
  · obtain ⟨k, hk⟩ : ∃ k, ckE v d l = k := ⟨_, rfl⟩
    rw [hk] at HA h0 ⊢
    clear hk
    go_enter Tryz.func18, Tryz.ntmps18
    go_wp2_with fail
    refine HA.out.mono ?_
    rintro e w1 ⟨rfl, hE⟩
    have HE := Lib.hid hE
    obtain ⟨F', hL, _⟩ := hE
    have HL := Lib.hid hL
    have H0 := Lib.hid h0
    clear hL h0
    go_wp2_with fail
    refine (settle_no HL.out.wal checkpointW k H0.out).mono ?_
    rintro e w2 hs
    have HC := Lib.hid (callEnd_no H0.out HE.out hs)
    obtain ⟨rfl, _⟩ := hs
    go_wp2_with fail
    go_ret
    exact HC.out
end Go.Proofs.YtjeabnlmanfplaaGreatDoor

namespace Go.Proofs.YtjeabnlmanfplaaGreatDoor
open Go.RowKit

/-- The log v with the state st and the records rs stands on the disk d, whose power stays on. -/
structure LogSt (d : DSt) (slot a : Nat) (v : WalV) (st : List UInt8) (rs : List (List UInt8)) : Prop where
  on : d.On
  found : Found d.seen slot a v rs
  state : openS d slot = st
  loose : d.loose = []
theorem LogSt.opens {d : DSt} {slot a : Nat} {v : WalV} {st : List UInt8} {rs : List (List UInt8)} (h : LogSt d slot a v st rs) : openV a d slot = v ∧ openR a d slot = rs ∧ openS d slot = st := ⟨h.found.opens.1, h.found.opens.2, h.state⟩

theorem append_st {d : DSt} {slot a : Nat} {v : WalV} {st : List UInt8} {rs : List (List UInt8)} (h : LogSt d slot a v st rs) {l : List UInt8} (hb : addBad v d.seen.length l = 0) (hl : l.length ≤ 100000) :
    addE v d l = 0 ∧ addV v d l = v.pass d.seen.length l.length ∧ LogSt (addD v d l) slot a (v.pass d.seen.length l.length) st (rs ++ [l]) ∧ (addD v d l).seen.length = d.seen.length := by
  obtain ⟨z1, z2, z3, z4⟩ := addBad_zero hb
  have hok := h.found.ok
  have hsl := h.found.slot
  have hs1 := hok.s1
  have hft := hok.fit
  have hn1 := hok.n1
  have hus := hok.used
  have hk1 := hok.k1
  rw [hsl] at z2 z3 hs1 hft hus
  have hr : 1 + secs l.length < d.seen.length - 2 * slot - v.used := by omega
  obtain ⟨f1, f2, f3⟩ := append_found h.found hr z4 (by omega) (by omega)
  obtain ⟨num, hnum⟩ := Int.eq_ofNat_of_zero_le (show 0 ≤ v.num by omega)
  obtain ⟨s1, s2, s3, s4, s5⟩ := store_on (ps := bodyR v d.seen.length l) (q := headR v d.seen.length l) h.on (fun p hp => by
      unfold bodyR at hp
      obtain ⟨j, _, rfl⟩ := List.mem_map.1 hp
      have e := WalV.place_lt hok (1 + j)
      rw [hsl] at e
      refine ⟨?_, getD_cuts_short l j⟩
      show 2 * v.slot + _ < _
      rw [hsl]; omega) ⟨by
      have e := WalV.place_lt hok 0
      rw [hsl] at e
      show 2 * v.slot + _ < _
      rw [hsl]; omega, by
      show (recHead v.num l.length).length ≤ 32
      rw [hnum]
      have := recHead_len (num := num) (len := l.length) (by omega) (by omega)
      omega⟩
  obtain ⟨g1, g2, _⟩ := add_go (d := d) hb
  obtain ⟨g3, g4⟩ := g2 s1
  rw [← s2] at f1 f2 f3
  have hlen : (d.storeD (bodyR v d.seen.length l) (headR v d.seen.length l)).seen.length = d.seen.length := storeD_length _ _
  refine ⟨g3, g4, ⟨by rw [g1]; exact s5, by rw [g1]; exact f1, ?_, by rw [g1]; exact s3⟩, by rw [g1]; exact hlen⟩
  rw [g1, ← h.state]
  unfold openS
  rw [f2]
  have hc := curS_ok hs1 hft
  have := hc.l0
  have := hc.l1
  exact state_congr hlen (by omega) (by omega) (by omega) f3

theorem ck_st {d : DSt} {slot a : Nat} {v : WalV} {st : List UInt8} {rs : List (List UInt8)} (h : LogSt d slot a v st rs) {l : List UInt8} (hb : ckBad v l = 0) :
    ckE v d l = 0 ∧ ckV v d l = ckN v ∧ LogSt (ckD v d l) slot a (ckN v) l [] ∧ (ckD v d l).seen.length = d.seen.length := by
  obtain ⟨z1, z2, z3, z4⟩ := ckBad_zero hb
  have hok := h.found.ok
  have hsl := h.found.slot
  have hs1 := hok.s1
  have hft := hok.fit
  have hn1 := hok.n1
  have hnx := hok.next
  have hk1 := hok.k1
  have hg1 := hok.g1
  have hg2 := hok.g2
  rw [hsl] at z2 hs1 hft hnx
  obtain ⟨g, hg⟩ := Int.eq_ofNat_of_zero_le hg1
  have hgt : v.gen.toNat = g := by rw [hg, Int.toNat_natCast]
  obtain ⟨f1, f2, f3, _⟩ := checkpoint_found h.found (s := l) (g := g) (by omega) hg (by omega) z4
  obtain ⟨num, hnum⟩ := Int.eq_ofNat_of_zero_le (show 0 ≤ v.num by omega)
  have hes : (g + 1) % 2 * slot ≤ slot := by
    have : (g + 1) % 2 ≤ 1 := by omega
    calc (g + 1) % 2 * slot ≤ 1 * slot := Nat.mul_le_mul_right _ this
      _ = slot := Nat.one_mul _
  have hcs : secs l.length ≤ slot - 1 := secs_le (by omega)
  obtain ⟨s1, s2, s3, s4, s5⟩ := store_on (ps := bodyS slot g l) (q := headS v slot g l) h.on (fun p hp => by
      unfold bodyS at hp
      obtain ⟨j, hj, rfl⟩ := List.mem_map.1 hp
      rw [List.mem_range] at hj
      refine ⟨?_, getD_cuts_short l j⟩
      show (g + 1) % 2 * slot + 1 + j < _
      omega) ⟨by show (g + 1) % 2 * slot < _; omega, by
      show (slotHead ((g + 1 : Nat) : Int) l.length v.next v.num).length ≤ 32
      rw [hnum, slotHead_len (by omega) (by omega) (by omega) (by omega)]; omega⟩
  obtain ⟨g1, g2, _⟩ := ck_go (d := d) hb
  rw [hsl, hgt] at g1 g2
  obtain ⟨g3, g4⟩ := g2 s1
  rw [← s2] at f1 f2 f3
  have hN : ckN v = { v with gen := ((g + 1 : Nat) : Int), used := 0 } := by unfold ckN; rw [hgt]
  have hlen : (d.storeD (bodyS slot g l) (headS v slot g l)).seen.length = d.seen.length := storeD_length _ _
  refine ⟨g3, g4, ⟨by rw [g1]; exact s5, by rw [g1, hN]; exact f1, ?_, by rw [g1]; exact s3⟩, by rw [g1]; exact hlen⟩
  rw [g1]
  unfold openS
  rw [f2]
  simp only [Int.toNat_natCast]
  exact f3

theorem new_st (slot m a : Nat) (hs : 2 ≤ slot) (hm : 3 ≤ m) (hn : 2 * slot + m ≤ 4096) : LogSt (DSt.new (2 * slot + m)) slot a ⟨a, slot, 0, 1, 0, 0, false⟩ [] [] ∧ (DSt.new (2 * slot + m)).seen.length = 2 * slot + m := by
  obtain ⟨f1, f2⟩ := new_found slot m a hs hm hn
  refine ⟨⟨⟨rfl, rfl⟩, f1, ?_, rfl⟩, by simp [DSt.new]⟩
  unfold openS
  rw [f2]
  unfold stateOf
  exact List.take_zero

/-- What Open leaves where the log is known. -/
theorem Open_st {w : World} {F : Nat → Prop} {a : Nat} {d : DSt} {slot : Nat} {v : WalV} {st : List UInt8} {rs : List (List UInt8)} (h : IsDisk w F a d) (hs : LogSt d slot a v st rs) :
    Calls Tryz.prog 12 #[.pointer (some ⟨a, 0, none⟩), .int .i64 slot] w fun e w' => ∃ b A c, e = .returned (.tuple #[.pointer (some ⟨b, 0, none⟩), .string (str st), .slice A rs.length c, .nilIface]) ∧ Lies w' w'.heap.size A (rs.map secV) ∧ ((A = none → c = 0) ∧ ∀ p, A = some p → w.heap.size ≤ p.block ∧ p.block ≠ b) ∧ LogAt w' F b v d ∧ Below w.heap.size w w' ∧ w.heap.size ≤ b := by
  obtain ⟨e1, e2, e3⟩ := hs.opens
  have hok := hs.found.ok
  have hsl := hs.found.slot
  have h1 := hok.s1
  have h2 := hok.fit
  rw [hsl] at h1 h2
  refine (Open_ok h slot hs.on.off h1 h2).mono ?_
  rintro e w' ⟨b, A, c, he, hl, hn, hL, hb, hw⟩
  rw [e1] at hL
  rw [e2] at he hl
  rw [e3] at he
  exact ⟨b, A, c, he, hl, hn, hL, hb, hw⟩

theorem own_block6 {w w' : World} {base : Nat} {e : TypeId} {size n : Nat} {v : Value} {xs : List Value} (h : w.ownsRow base e size v n xs) (hb : ∀ j, v.ownBlock = some j → w'.heap[j]? = w.heap[j]?) : w'.ownsRow base e size v n xs := by
  obtain ⟨h1, h2⟩ := h
  refine ⟨h1, ?_⟩
  rcases h2 with ⟨h0, h00⟩ | ⟨g', cap', cur, h0, hb', hg, hn, hm, hs, ht⟩
  · exact .inl ⟨h0, h00⟩
  · subst h0
    exact .inr ⟨g', cap', cur, rfl, hb', (hb g' rfl).trans hg, hn, hm, hs, ht⟩

def abcL : List UInt8 := [97, 98, 99]
theorem wake6_bad (a : Nat) : addBad ⟨a, 2, 0, 1, 0, 0, false⟩ 12 abcL = 0 := by
  unfold addBad abcL secs
  simp

set_option maxHeartbeats 2000000 in
set_option maxRecDepth 100000 in
theorem awake6_any (w : World) : Calls Tryz.prog 32 #[] w fun e w' => e = .returned (.bool true) ∧ Below w.heap.size w w' := by
  go_enter Tryz.func32, Tryz.ntmps32
  go_wp2_with fail
  refine (New_ok 12 _ (by omega) (by omega)).mono ?_
  rintro e w1 ⟨a, F, rfl, hd, hF, hb⟩
  have HD := Lib.hid hd
  have HF := Lib.hid hF
  have HB := Lib.hid hb
  obtain ⟨hst, hlen⟩ := new_st 2 8 a (by omega) (by omega) (by omega)
  have HSt := Lib.hid hst
  have HLen : Hid ((DSt.new 12).seen.length = 12) := Lib.hid hlen
  have HApp := Lib.hid (append_st hst (l := abcL) (by rw [hlen]; exact wake6_bad a) (by decide))
  clear hd hF hb hst hlen
  go_wp2_with fail
  refine (Open_st HD.out HSt.out).mono ?_
  rintro e w2 ⟨b, A, c, rfl, _, _, hL, hb2, hw2⟩
  have HL := Lib.hid hL
  have hbF : ¬ F b := fun hf => by have := HD.out.low b hf; omega
  have HBF := Lib.hid hbF
  have HBl : Hid (w.heap.size ≤ b) := Lib.hid (Nat.le_trans HB.out.size hw2)
  have HB2 : Hid (Below w.heap.size w w2) := Lib.hid (HB.out.trans (hb2.mono HB.out.size))
  have HR : Hid (Calls Tryz.prog 28 #[.pointer (some ⟨b, 0, none⟩)] w2 fun e w' => e = .returned (.int .i64 192) ∧ ∃ m, w' = w2.drewN m) := Lib.hid (by
    have := Room_any hL
    rw [show (DSt.new 12).seen.length = 12 from HLen.out] at this
    exact this)
  clear hL hb2 hw2 hbF
  simp only [List.length_nil]
  have hemp2 : (str []).toList = [] := by rw [Lib.toList_data, str_list]
  have hemp : ((str []).toList == []) = true := by rw [hemp2]; rfl
  generalize str [] = S0 at hemp hemp2 ⊢
  go_wp2_with fail
  refine HR.out.mono ?_
  rintro e w3 ⟨rfl, m3, rfl⟩
  have HL3 := Lib.hid (HL.out.drewN m3)
  have HB3 : Hid (Below w.heap.size w (w2.drewN m3)) := Lib.hid (HB2.out.trans ((below_drawsW w2 m3).mono HB2.out.size))
  clear HR HL
  generalize w2.drewN m3 = w4 at HL3 HB3 ⊢
  go_wp2_with fail
  have HA : Hid (Calls Tryz.prog 24 #[.pointer (some ⟨b, 0, none⟩), .string ⟨#[97, 98, 99]⟩] w4 fun e w' => e = .returned .nilIface ∧ ∃ F' v' d', LogAt w' F' b v' d' ∧ d'.seen.length = 12 ∧ v'.slot = 2 ∧ v'.used = 2 ∧ v'.num = 2 ∧ v'.gen = 0 ∧ Moves (fun q => F q ∨ q = b) w4 w') := Lib.hid (by
    obtain ⟨e1, e2, e3, e4⟩ := HApp.out
    refine (Append_any HL3.out HBF.out abcL (by decide) (by rw [HSt.out.loose]; simp)).mono ?_
    rw [e1, e2]
    rintro e w' ⟨he, F', hL', _, hM, _⟩
    rw [if_pos rfl] at he
    rw [if_neg (by decide)] at hL'
    exact ⟨he, F', _, _, hL', by rw [e4]; exact HLen.out, rfl, rfl, rfl, rfl, hM⟩)
  refine HA.out.mono ?_
  rintro e w5 ⟨rfl, F', v', d', hL5, hlen5, hs5, hu5, hn5, hg5, hM5⟩
  have HB5 : Hid (Below w.heap.size w w5) := Lib.hid (HB3.out.trans (hM5.below (B := w.heap.size) HB3.out.size (fun j hj => by
    rcases hj with h | h
    · exact HF.out j h
    · rw [h]; exact HBl.out)))
  have HR5 : Hid (Calls Tryz.prog 28 #[.pointer (some ⟨b, 0, none⟩)] w5 fun e w' => e = .returned (.int .i64 128) ∧ ∃ m, w' = w5.drewN m) := Lib.hid (by
    have := Room_any hL5
    rw [hlen5, hs5, hu5] at this
    exact this)
  have HN5 : Hid (∀ m, Calls Tryz.prog 26 #[.pointer (some ⟨b, 0, none⟩)] (w5.drewN m) fun e w' => e = .returned (.int .i64 2) ∧ w5.drewN m = w') := Lib.hid (fun m => by
    have := Number_anyW (hL5.drewN m).wal
    rw [hn5] at this
    exact this)
  have HG5 : Hid (∀ m, Calls Tryz.prog 27 #[.pointer (some ⟨b, 0, none⟩)] (w5.drewN m) fun e w' => e = .returned (.int .i64 0) ∧ w5.drewN m = w') := Lib.hid (fun m => by
    have := Generation_any (hL5.drewN m).wal
    rw [hg5] at this
    exact this)
  clear hL5 hlen5 hs5 hu5 hn5 hg5 hM5 HA HL3
  go_wp2_with fail
  refine HR5.out.mono ?_
  rintro e w6 ⟨rfl, m6, rfl⟩
  go_wp2_with fail
  refine (HN5.out m6).mono ?_
  rintro e w7 ⟨rfl, rfl⟩
  go_wp2_with fail
  refine (HG5.out m6).mono ?_
  rintro e w7 ⟨rfl, rfl⟩
  go_wp2_with fail
  go_ret
  exact ⟨rfl, HB5.out.trans ((below_drawsW w5 m6).mono HB5.out.size)⟩
end Go.Proofs.YtjeabnlmanfplaaGreatDoor

namespace Go.Proofs.YtjeabnlmanfplaaGreatDoor
open Go.RowKit

/-- A disk whose power stays. -/
structure Calm (d : DSt) (n : Nat) : Prop where
  off : d.off = false
  arm : d.armed = false
  size : d.seen.length = n
theorem Calm.lasts {d : DSt} {n : Nat} (h : Calm d n) : d.lasts = true := by unfold DSt.lasts; rw [h.arm]; rfl
theorem Calm.spent {d : DSt} {n : Nat} (h : Calm d n) : d.spent = d := by unfold DSt.spent; rw [h.arm]; rfl
theorem Calm.new (n : Nat) : Calm (DSt.new n) n := ⟨rfl, rfl, by simp [DSt.new]⟩
theorem Calm.write {d : DSt} {n : Nat} (h : Calm d n) (i : Int) (s : List UInt8) : Calm (d.writeD i s) n := by
  unfold DSt.writeD
  split
  · exact h
  · split
    · rw [h.spent]; exact ⟨h.off, h.arm, by show (d.seen.set _ _).length = n; rw [List.length_set]; exact h.size⟩
    · rw [h.spent]; exact h
theorem Calm.flush {d : DSt} {n : Nat} (h : Calm d n) : Calm d.flushD n ∧ d.flushD.loose = [] := by
  unfold DSt.flushD
  rw [if_neg (by rw [h.off]; simp), if_pos h.lasts, h.spent]
  exact ⟨⟨h.off, h.arm, h.size⟩, rfl⟩

theorem scan_disk (xs : List (List UInt8)) (a b : Nat) : ∀ (f : Nat) (slot : Nat) (gen num : Int) (next used : Nat) (dn : Bool),
    (scanR xs f ⟨a, slot, gen, num, next, used, dn⟩).2 = (scanR xs f ⟨b, slot, gen, num, next, used, dn⟩).2 ∧ (scanR xs f ⟨a, slot, gen, num, next, used, dn⟩).1.gen = (scanR xs f ⟨b, slot, gen, num, next, used, dn⟩).1.gen ∧ (scanR xs f ⟨a, slot, gen, num, next, used, dn⟩).1.num = (scanR xs f ⟨b, slot, gen, num, next, used, dn⟩).1.num ∧ (scanR xs f ⟨a, slot, gen, num, next, used, dn⟩).1.next = (scanR xs f ⟨b, slot, gen, num, next, used, dn⟩).1.next ∧ (scanR xs f ⟨a, slot, gen, num, next, used, dn⟩).1.used = (scanR xs f ⟨b, slot, gen, num, next, used, dn⟩).1.used ∧ (scanR xs f ⟨a, slot, gen, num, next, used, dn⟩).1.slot = slot
  | 0, _, _, _, _, _, _ => ⟨rfl, rfl, rfl, rfl, rfl, rfl⟩
  | f + 1, slot, gen, num, next, used, dn => by
    have hr : recAt xs ⟨a, slot, gen, num, next, used, dn⟩ = recAt xs ⟨b, slot, gen, num, next, used, dn⟩ := rfl
    cases h : recAt xs ⟨b, slot, gen, num, next, used, dn⟩ with
    | none =>
      rw [scanR_stop h, scanR_stop (hr.trans h)]
      exact ⟨rfl, rfl, rfl, rfl, rfl, rfl⟩
    | some len =>
      rw [scanR_go h, scanR_go (hr.trans h)]
      obtain ⟨h1, h2, h3, h4, h5, h6⟩ := scan_disk xs a b f slot gen (num + 1) ((next + (1 + secs len)) % (xs.length - 2 * slot)) (used + (1 + secs len)) dn
      exact ⟨congrArg (List.cons _) h1, h2, h3, h4, h5, h6⟩
theorem open_disk (a : Nat) (d : DSt) (slot : Nat) : openR 0 d slot = openR a d slot ∧ (openV 0 d slot).gen = (openV a d slot).gen ∧ (openV 0 d slot).num = (openV a d slot).num ∧ (openV 0 d slot).next = (openV a d slot).next ∧ (openV 0 d slot).used = (openV a d slot).used ∧ (openV a d slot).slot = slot := by
  obtain ⟨h1, h2, h3, h4, h5, _⟩ := scan_disk d.seen 0 a d.seen.length slot (curS d.seen slot).1 (curS d.seen slot).2.2.2 (curS d.seen slot).2.2.1.toNat 0 false
  exact ⟨h1, h2, h3, h4, h5, (scan_disk d.seen a 0 d.seen.length slot (curS d.seen slot).1 (curS d.seen slot).2.2.2 (curS d.seen slot).2.2.1.toNat 0 false).2.2.2.2.2⟩
theorem scan_len (xs : List (List UInt8)) : ∀ (f : Nat) (v : WalV), (scanR xs f v).2.length ≤ f
  | 0, _ => Nat.le_refl _
  | f + 1, v => by
    cases h : recAt xs v with
    | none => rw [scanR_stop h]; exact Nat.zero_le _
    | some len =>
      rw [scanR_go h]
      have := scan_len xs f (v.pass xs.length len)
      show (scanR xs f (v.pass xs.length len)).2.length + 1 ≤ f + 1
      omega
theorem fits_same {k : Nat} (hk : k ≤ 24) (slot : Int) : docFits (k : Int) slot = fitsE k slot := by
  unfold docFits fitsE
  rw [Bool.eq_iff_iff]
  simp
  omega
end Go.Proofs.YtjeabnlmanfplaaGreatDoor
