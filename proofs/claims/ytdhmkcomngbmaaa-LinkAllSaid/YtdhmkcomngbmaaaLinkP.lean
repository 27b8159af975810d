/- Ends of a line, as plain functions: what Right, Put, Tick and Take answer (P15.1 to P15.3); packets, written and heard. No program in sight. -/
import Derived.Test.YtdhmkcomngbmaaaFrameP
import Derived.Test.YtdhmkcomngbmaaaList
namespace Go.Proofs.Ytdhmkcomngbmaaa
open Go.RowKit

/-- An end. -/
structure LEnd where
  ep : Int
  ot : Int
  fi : Int
  wa : Int
  out : List (List UInt8)
def maxN : Int := 1099511627776
/-- Right: P15.1. -/
structure LEnd.Ok (x : LEnd) : Prop where
  e1 : 1 ≤ x.ep
  e2 : x.ep ≤ 1099511627776
  o1 : 0 ≤ x.ot
  o2 : x.ot ≤ 1099511627776
  f1 : 1 ≤ x.fi
  f2 : x.fi ≤ 1099511627776
  w1 : 1 ≤ x.wa
  w2 : x.wa ≤ 1099511627776
  len : x.out.length ≤ 64
  each : ∀ p ∈ x.out, p.length ≤ 512

/-- The body of a packet. -/
def pktL (ep ot num wa : Int) (piece : List UInt8) : List UInt8 := enc 8 ep.toNat ++ (enc 8 ot.toNat ++ (enc 8 num.toNat ++ (enc 8 wa.toNat ++ piece)))
def pktB (x : LEnd) (kind : Nat) (num : Int) (piece : List UInt8) : List UInt8 := frameOf kind (pktL x.ep x.ot num x.wa piece)
def ackB (x : LEnd) : List UInt8 := pktB x 2 0 []
theorem pktL_length (ep ot num wa : Int) (piece : List UInt8) : (pktL ep ot num wa piece).length = 32 + piece.length := by
  unfold pktL; simp only [List.length_append, enc_length]; omega

/-- What is heard in a text. -/
structure Heard where
  kind : Nat
  n0 : Nat
  n1 : Nat
  n2 : Nat
  n3 : Nat
  piece : List UInt8
def num8 (l : List UInt8) (i : Nat) : Nat := dec ((l.drop (8 * i)).take 8)
/-- Is the body of a frame of that kind a packet's? -/
def IsPkt (k : Nat) (b : List UInt8) : Prop := (k = 1 ∨ k = 2) ∧ 32 ≤ b.length ∧ b.length ≤ 544 ∧ (∀ i, i < 4 → num8 b i < 9223372036854775808) ∧ (k = 2 → num8 b 2 = 0 ∧ b.length = 32)
/-- .. and of a sender whose epoch may be? -/
def IsHeard (s : List UInt8) : Prop := openE s = 0 ∧ IsPkt (openK s).toNat (openB s) ∧ 1 ≤ num8 (openB s) 0 ∧ num8 (openB s) 0 ≤ 1099511627776
def heardOf (s : List UInt8) : Heard := ⟨(openK s).toNat, num8 (openB s) 0, num8 (openB s) 1, num8 (openB s) 2, num8 (openB s) 3, (openB s).drop 32⟩

/-! ### A packet that is written is heard -/
theorem pkt_drop (ep ot num wa : Int) (piece : List UInt8) : (pktL ep ot num wa piece).drop 32 = piece := by
  unfold pktL
  rw [show (32 : Nat) = 8 + (8 + (8 + 8)) from rfl, ← List.drop_drop, ← List.drop_drop, ← List.drop_drop, drop_enc, drop_enc, drop_enc, drop_enc]
theorem dec8 {n : Int} (h0 : 0 ≤ n) (h1 : n ≤ 1099511627776) : (dec (enc 8 n.toNat) : Int) = n := by
  rw [dec_enc_of_lt (by omega)]; omega
theorem pkt_num (ep ot num wa : Int) (piece : List UInt8) : num8 (pktL ep ot num wa piece) 0 = dec (enc 8 ep.toNat) ∧ num8 (pktL ep ot num wa piece) 1 = dec (enc 8 ot.toNat) ∧ num8 (pktL ep ot num wa piece) 2 = dec (enc 8 num.toNat) ∧ num8 (pktL ep ot num wa piece) 3 = dec (enc 8 wa.toNat) := by
  unfold num8 pktL
  refine ⟨?_, ?_, ?_, ?_⟩
  · rw [Nat.mul_zero, List.drop_zero, take_enc]
  · rw [Nat.mul_one, drop_enc, take_enc]
  · rw [show 8 * 2 = 8 + 8 from rfl, ← List.drop_drop, drop_enc, drop_enc, take_enc]
  · rw [show 8 * 3 = 8 + (8 + 8) from rfl, ← List.drop_drop, ← List.drop_drop, drop_enc, drop_enc, drop_enc, take_enc]

/-- A packet of numbers that may be: what is heard of it. -/
theorem pkt_heard {kind : Nat} {ep ot num wa : Int} {piece : List UInt8} (hk : kind = 1 ∨ kind = 2) (e1 : 1 ≤ ep) (e2 : ep ≤ 1099511627776) (o1 : 0 ≤ ot) (o2 : ot ≤ 1099511627776) (n1 : 0 ≤ num) (n2 : num ≤ 1099511627776) (w1 : 0 ≤ wa) (w2 : wa ≤ 1099511627776) (hp : piece.length ≤ 512) (h2 : kind = 2 → num = 0 ∧ piece = []) :
    IsHeard (frameOf kind (pktL ep ot num wa piece)) ∧ heardOf (frameOf kind (pktL ep ot num wa piece)) = ⟨kind, ep.toNat, ot.toNat, num.toNat, wa.toNat, piece⟩ := by
  have hl : (pktL ep ot num wa piece).length ≤ 4096 := by rw [pktL_length]; omega
  have hk' : kind < 256 := by omega
  obtain ⟨p0, p1, p2, p3⟩ := pkt_num ep ot num wa piece
  rw [dec_enc_of_lt (by omega)] at p0 p1 p2 p3
  have e : openK (frameOf kind (pktL ep ot num wa piece)) = kind := open_frame_kind hk' hl
  have b : openB (frameOf kind (pktL ep ot num wa piece)) = pktL ep ot num wa piece := open_frame_body hl
  refine ⟨⟨open_frame hl, ?_, by rw [b, p0]; omega, by rw [b, p0]; omega⟩, ?_⟩
  · rw [e, b, Int.toNat_natCast]
    refine ⟨hk, by rw [pktL_length]; omega, by rw [pktL_length]; omega, fun i hi => ?_, fun h => ?_⟩
    · match i, hi with
      | 0, _ => rw [p0]; omega
      | 1, _ => rw [p1]; omega
      | 2, _ => rw [p2]; omega
      | 3, _ => rw [p3]; omega
    · obtain ⟨a, c⟩ := h2 h
      rw [p2, pktL_length, a, c]; exact ⟨rfl, rfl⟩
  · unfold heardOf
    rw [e, b, p0, p1, p2, p3, pkt_drop, Int.toNat_natCast]

/-! ### The calls -/
def LEnd.none_ : LEnd := ⟨0, 0, 0, 0, []⟩
/-- Put, at an end that is right: P15.2. -/
def putE15 (x : LEnd) (p : List UInt8) : Int := if 512 < p.length then 5 else if 63 < x.out.length ∨ 1099511627776 ≤ x.fi - 1 + x.out.length then 6 else 0
def putX (x : LEnd) (p : List UInt8) : LEnd := { x with out := x.out ++ [p] }
def putS (x : LEnd) (p : List UInt8) : List UInt8 := if x.out.length < 4 then pktB x 1 (x.fi + x.out.length) p else []
/-- Tick: P15.2. -/
def tickL (x : LEnd) : List (List UInt8) := (x.out.take 4).mapIdx (fun i p => pktB x 1 (x.fi + i) p)

/-- What a packet that came brings. -/
structure CameL where
  piece : List UInt8
  has : Bool
  reply : List UInt8
  anew : Bool
def CameL.none_ : CameL := ⟨[], false, [], false⟩
/-- P15.3: step 1. -/
def metX (x : LEnd) (n0 : Int) : LEnd := if x.ot < n0 then (if x.ot = 0 then { x with ot := n0, wa := 1 } else { x with ot := n0, wa := 1, fi := 1, out := [] }) else x
/-- step 3. -/
def ackedX (x : LEnd) (n3 : Int) : LEnd := if x.fi ≤ n3 ∧ n3 ≤ x.fi + x.out.length then { x with fi := n3, out := x.out.drop (n3 - x.fi).toNat } else x
open Classical in
/-- Take, at an end that is right. -/
noncomputable def takeX (x : LEnd) (s : List UInt8) : LEnd × CameL :=
  if ¬ IsHeard s ∨ ((heardOf s).n0 : Int) < x.ot then (x, CameL.none_) else
  let h := heardOf s
  let y := metX x h.n0
  let anew := decide (x.ot < h.n0 ∧ x.ot ≠ 0)
  if (h.n1 : Int) ≠ x.ep then (y, ⟨[], false, ackB y, anew⟩) else
  let z := ackedX y h.n3
  if h.kind = 2 then (z, ⟨[], false, [], anew⟩) else
  if (h.n2 : Int) = z.wa ∧ z.wa < 1099511627776 then ({ z with wa := z.wa + 1 }, ⟨h.piece, true, ackB { z with wa := z.wa + 1 }, anew⟩)
  else (z, ⟨[], false, ackB z, anew⟩)
theorem takeX_no {x : LEnd} {s : List UInt8} (h : ¬ IsHeard s ∨ ((heardOf s).n0 : Int) < x.ot) : takeX x s = (x, CameL.none_) := by unfold takeX; rw [if_pos h]
end Go.Proofs.Ytdhmkcomngbmaaa
