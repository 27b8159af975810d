/- Contracts of Append and of Checkpoint. -/
import Derived.Test.YtgnijpjdkipaaaaGreatDoorWalU
import Derived.Test.YtgnijpjdkipaaaaGreatDoorWalI
namespace Go.Proofs.YtgnijpjdkipaaaaGreatDoor
open Go.RowKit

def appendW : ByteArray := ⟨#[97, 112, 112, 101, 110, 100]⟩
def checkpointW : ByteArray := ⟨#[99, 104, 101, 99, 107, 112, 111, 105, 110, 116]⟩
/-- What a call on a log that may be refused leaves: nil, or a fault in a new block; the log is out of use where the disk has refused. -/
def CallEnd (w : World) (F : Nat → Prop) (a : Nat) (v : WalV) (d : DSt) (call : ByteArray) (k : Int) (e : Ending) (w' : World) : Prop :=
  (if k = 0 then e = .returned .nilIface else ∃ b, e = .returned (.iface 74 (.pointer (some ⟨b, 0, none⟩))) ∧ w'.heap[b]? = some (.cells (faultV call k) 76 (0, 0))) ∧
  ∃ F', LogAt w' F' a (if k = 7 then { v with down := true } else v) d ∧ ¬ F' a ∧ Moves (fun q => F q ∨ q = a) w w' ∧ ∀ j, F' j → F j ∨ w.heap.size ≤ j
theorem callEnd_no {w w1 w2 : World} {F : Nat → Prop} {a : Nat} {v : WalV} {d : DSt} {call : ByteArray} {k : Int} {e : Ending} (hk : k ≠ 0) (h1 : ∃ F', LogAt w1 F' a v d ∧ ¬ F' a ∧ Moves (fun q => F q ∨ q = a) w w1 ∧ ∀ j, F' j → F j ∨ w.heap.size ≤ j)
    (hs : SettleEnd w1 a v call k e w2) : CallEnd w F a v d call k e w2 := by
  obtain ⟨F', hL, hF, hM, hF'⟩ := h1
  obtain ⟨he, hf, hw, hm⟩ := hs
  refine ⟨by rw [if_neg hk]; exact ⟨_, he, hf⟩, F', ?_, hF, hM.trans hm (fun j hj => Or.inl (Or.inr hj)), hF'⟩
  by_cases h7 : k = 7
  · rw [if_pos h7]
    have e7 : (k == 7) = true := by rw [beq_iff_eq]; exact h7
    rw [e7, Bool.or_true] at hw
    exact hL.moves hF hm hw rfl ⟨hL.ok.n1, hL.ok.s1, hL.ok.fit, hL.ok.next, hL.ok.used, hL.ok.g1, hL.ok.g2, hL.ok.k1, hL.ok.k2⟩
  · rw [if_neg h7]
    have e7 : (k == 7) = false := by rw [beq_eq_false_iff_ne]; exact h7
    rw [e7, Bool.or_false] at hw
    exact hL.moves hF hm hw rfl hL.ok

set_option maxHeartbeats 1600000 in
set_option maxRecDepth 100000 in
theorem Append_any {w : World} {F : Nat → Prop} {a : Nat} {v : WalV} {d : DSt} (h : LogAt w F a v d) (hF : ¬ F a) (l : List UInt8) (hl : l.length ≤ 100000) (hlo : d.loose.length ≤ 100000) :
    Calls Tryz.prog 24 #[.pointer (some ⟨a, 0, none⟩), .string (str l)] w (CallEnd w F a (addV v d l) (addD v d l) appendW (addE v d l)) := by
  have HA := Lib.hid (addRecord_any h hF l hl hlo)
  clear h hF hl hlo
  generalize addV v d l = V at *
  generalize addD v d l = D at *
  obtain ⟨S, hS⟩ : ∃ S, str l = S := ⟨_, rfl⟩
  rw [hS] at HA ⊢
  clear hS
  by_cases h0 : addE v d l = 0
  · rw [h0] at HA ⊢
    clear h0
    go_enter Tryz.func24, Tryz.ntmps24
    go_wp2_with fail
    refine HA.out.mono ?_
    rintro e w1 ⟨rfl, F', hL, hF, hM, hF'⟩
    have HL := Lib.hid hL
    have HE : Hid (CallEnd w F a V D appendW 0 (.returned .nilIface) w1) := Lib.hid ⟨rfl, F', by rw [if_neg (by decide)]; exact hL, hF, hM, hF'⟩
    clear hL hF hM hF'
    go_wp2_with fail
    refine (settle_ok HL.out.wal _).mono ?_
    rintro e w2 ⟨rfl, rfl⟩
    go_wp2_with fail
    go_ret
    exact HE.out
  · obtain ⟨k, hk⟩ : ∃ k, addE v d l = k := ⟨_, rfl⟩
    rw [hk] at HA h0 ⊢
    clear hk
    go_enter Tryz.func24, Tryz.ntmps24
    go_wp2_with fail
    refine HA.out.mono ?_
    rintro e w1 ⟨rfl, hE⟩
    have HE := Lib.hid hE
    obtain ⟨F', hL, _⟩ := hE
    have HL := Lib.hid hL
    have H0 := Lib.hid h0
    clear hL h0
    go_wp2_with fail
    refine (settle_no HL.out.wal appendW k H0.out).mono ?_
    rintro e w2 hs
    have HC := Lib.hid (callEnd_no H0.out HE.out hs)
    obtain ⟨rfl, _⟩ := hs
    go_wp2_with fail
    go_ret
    exact HC.out

set_option maxHeartbeats 1600000 in
set_option maxRecDepth 100000 in
theorem Checkpoint_any {w : World} {F : Nat → Prop} {a : Nat} {v : WalV} {d : DSt} (h : LogAt w F a v d) (hF : ¬ F a) (l : List UInt8) (hl : l.length ≤ 100000) (hlo : d.loose.length ≤ 100000) :
    Calls Tryz.prog 18 #[.pointer (some ⟨a, 0, none⟩), .string (str l)] w (CallEnd w F a (ckV v d l) (ckD v d l) checkpointW (ckE v d l)) := by
  have HA := Lib.hid (replaceState_any h hF l hl hlo)
  clear h hF hl hlo
  generalize ckV v d l = V at *
  generalize ckD v d l = D at *
  obtain ⟨S, hS⟩ : ∃ S, str l = S := ⟨_, rfl⟩
  rw [hS] at HA ⊢
  clear hS
  by_cases h0 : ckE v d l = 0
  · rw [h0] at HA ⊢
    clear h0
    go_enter Tryz.func18, Tryz.ntmps18
    go_wp2_with fail
    refine HA.out.mono ?_
    rintro e w1 ⟨rfl, F', hL, hF, hM, hF'⟩
    have HL := Lib.hid hL
    have HE : Hid (CallEnd w F a V D checkpointW 0 (.returned .nilIface) w1) := Lib.hid ⟨rfl, F', by rw [if_neg (by decide)]; exact hL, hF, hM, hF'⟩
    clear hL hF hM hF'
    go_wp2_with fail
    refine (settle_ok HL.out.wal _).mono ?_
    rintro e w2 ⟨rfl, rfl⟩
    go_wp2_with fail
    go_ret
    exact HE.out
  · obtain ⟨k, hk⟩ : ∃ k, ckE v d l = k := ⟨_, rfl⟩
    rw [hk] at HA h0 ⊢
    clear hk
    go_enter Tryz.func18, Tryz.ntmps18
    go_wp2_with fail
    refine HA.out.mono ?_
    rintro e w1 ⟨rfl, hE⟩
    have HE := Lib.hid hE
    obtain ⟨F', hL, _⟩ := hE
    have HL := Lib.hid hL
    have H0 := Lib.hid h0
    clear hL h0
    go_wp2_with fail
    refine (settle_no HL.out.wal checkpointW k H0.out).mono ?_
    rintro e w2 hs
    have HC := Lib.hid (callEnd_no H0.out HE.out hs)
    obtain ⟨rfl, _⟩ := hs
    go_wp2_with fail
    go_ret
    exact HC.out
end Go.Proofs.YtgnijpjdkipaaaaGreatDoor
