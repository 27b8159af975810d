/- Contracts of a slot header's sector, of cut and fault. Contracts of flushed and store: writes to a disk, made firm. -/
import Derived.Test.YtlelfakememckaaGreatDoorWalC
namespace Go.Proofs.YtlelfakememckaaGreatDoor
open Go.RowKit

theorem slotSector_any (gen len pos num : Int) (slot : Nat) (w : World) (h : 0 ≤ gen) (h2 : slot ≤ 4096) : Calls Tryz.prog 58 #[.agg #[.int .i64 gen, .int .i64 len, .int .i64 pos, .int .i64 num], .int .i64 slot] w fun e w' => e = .returned (.int .i64 (gen % 2 * (slot : Int))) ∧ Below w.heap.size w w' := by
  have hm1 : 0 ≤ gen % 2 := Int.emod_nonneg _ (by omega)
  have hm2 : gen % 2 < 2 := Int.emod_lt_of_pos _ (by omega)
  have ht : Int.tmod gen 2 = gen % 2 := Int.tmod_eq_emod_of_nonneg h
  have hp : gen % 2 * (slot : Int) = 0 ∨ gen % 2 * (slot : Int) = slot := by
    rcases (show gen % 2 = 0 ∨ gen % 2 = 1 by omega) with e | e <;> rw [e] <;> simp
  have hp1 : 0 ≤ gen % 2 * (slot : Int) := by omega
  have hp2 : gen % 2 * (slot : Int) ≤ 4096 := by omega
  go_enter Tryz.func58, Tryz.ntmps58
  go_wp2
  go_ret
  exact ⟨rfl, (Below.refl _ _).alloc (Nat.le_refl _) _⟩

/-- A text in pieces of 32 bytes, the last one may be shorter. -/
def piecesF : Nat → List UInt8 → List (List UInt8)
  | 0, _ => []
  | f + 1, l => if 32 < l.length then l.take 32 :: piecesF f (l.drop 32) else if l = [] then [] else [l]
def cutsOf (l : List UInt8) : List (List UInt8) := piecesF (l.length + 1) l
theorem piecesF_more : ∀ (f g : Nat) (l : List UInt8), l.length < f → l.length < g → piecesF f l = piecesF g l
  | 0, _, _, h, _ => by omega
  | _, 0, _, _, h => by omega
  | f + 1, g + 1, l, h1, h2 => by
    unfold piecesF
    split
    · next h => rw [piecesF_more f g (l.drop 32) (by rw [List.length_drop]; omega) (by rw [List.length_drop]; omega)]
    · rfl
theorem cuts_long {l : List UInt8} (h : 32 < l.length) : cutsOf l = l.take 32 :: cutsOf (l.drop 32) := by
  unfold cutsOf
  rw [piecesF, if_pos h, piecesF_more l.length ((l.drop 32).length + 1) (l.drop 32) (by rw [List.length_drop]; omega) (by omega)]
theorem cuts_none : cutsOf [] = [] := rfl
theorem cuts_last {l : List UInt8} (h : ¬ 32 < l.length) (h2 : l ≠ []) : cutsOf l = [l] := by
  unfold cutsOf; rw [piecesF, if_neg h, if_neg h2]

def StrsEnd (l : List (List UInt8)) (w : World) (e : Ending) (w' : World) : Prop := ∃ A c, e = .returned (.slice A l.length c) ∧ Lies w' w'.heap.size A (l.map secV) ∧ Below w.heap.size w w'
theorem strsEnd_of {l : List (List UInt8)} {w w' : World} {v : Value} (h : w'.ownsRow w.heap.size 9 1 v l.length (l.map secV)) (hb : Below w.heap.size w w') : StrsEnd l w (.returned v) w' := by
  obtain ⟨A, c, rfl, _, hl⟩ := own_lies h
  exact ⟨A, c, rfl, hl, hb⟩
theorem secV_snoc (l : List (List UInt8)) (x : List UInt8) : l.map secV ++ [.string (str x)] = (l ++ [x]).map secV := by rw [List.map_append]; rfl

theorem take_str (l : List UInt8) (k : Nat) : (str l).extract 0 k = str (l.take k) := by
  apply ByteArray.ext
  simp [str]
theorem drop_str (l : List UInt8) (k : Nat) : (str l).extract k l.length = str (l.drop k) := by
  apply ByteArray.ext
  simp [str]
  rw [List.take_of_length_le (by rw [List.length_drop]; exact Nat.le_refl _)]

set_option maxHeartbeats 800000 in
theorem cut_any (l : List UInt8) (w : World) (hl : l.length ≤ 1000000) : Calls Tryz.prog 73 #[.string (str l)] w (StrsEnd (cutsOf l) w) := by
  obtain ⟨i0, hi0, hz0, hz1, hz2⟩ := info_parts Tryz.infoStr5
  go_enter Tryz.func73, Tryz.ntmps73
  go_wp2
  go_loopw [0, 3] (fun s v wr => ∃ (r : List UInt8) (acc : List (List UInt8)), r.length + acc.length ≤ 1000000 ∧ s = .string (str r) ∧ Hid (cutsOf l = acc ++ cutsOf r) ∧ Hid (wr.ownsRow w.heap.size 9 1 v acc.length (acc.map secV) ∧ Below w.heap.size w wr)) (fun s _ _ => match s with | .string b => b.size | _ => 0)
  case atStart => exact ⟨l, [], by simpa using hl, rfl, Lib.hid rfl, Lib.hid ⟨World.ownsRow_nil _ _ _ _, Below.refl _ _⟩⟩
  case round =>
    obtain ⟨r, acc, hr, rfl, HG, HO⟩ := hrel
    have hsz : (str r).size = r.length := str_size r
    by_cases h32 : 32 < r.length
    · have HG2 : Hid (cutsOf l = (acc ++ [r.take 32]) ++ cutsOf (r.drop 32)) := Lib.hid (by rw [HG.out, cuts_long h32]; simp)
      have HT := Lib.hid (take_str r 32)
      have hD := drop_str r 32
      obtain ⟨S, hS⟩ : ∃ S, str r = S := ⟨_, rfl⟩
      rw [hS] at hsz HT hD ⊢
      have HD := Lib.hid hD
      have hS32 : (32 : Int) < (S.size : Int) := by rw [hsz]; omega
      have hSle : (32 : Int) ≤ (S.size : Int) := by omega
      have HSz := Lib.hid hsz
      clear hS hD HG hsz
      go_wp2_with (at_builtin; refine wpList_append_own_at _ rfl (.tmp 7) (.tmp 10) 27 rfl w.heap.size 9 i0 (.string ByteArray.empty) 1 16 Tryz.underlying27 hi0 hz0 hz1 hz2 rfl (by decide) _ acc.length (acc.map secV) rfl (HO.out.1.alloc _) ⟨wr.heap.size, 0, none⟩ 1 1 [.string (S.extract 0 32)] rfl rfl ?c1 ?c2 ?c3 ?c4 ?c5 ?_)
      case c1 => exact cell_one_new _ _ _
      case c2 => intro u hu; simp at hu; subst hu; rfl
      case c3 => unfold maxLen; omega
      case c4 => omega
      case c5 => have := HO.out.2.size; simp; omega
      intro v3 w3 hown3 hg3 _ _
      rw [HT.out, secV_snoc] at hown3
      have hbel2 : Below w.heap.size w (wr.alloc (.cells #[.string (S.extract 0 32)] 9)) := HO.out.2.alloc HO.out.2.size _
      have HO3 : Hid (w3.ownsRow w.heap.size 9 1 v3 (acc ++ [r.take 32]).length ((acc ++ [r.take 32]).map secV) ∧ Below w.heap.size w w3) := Lib.hid ⟨by rw [List.length_append]; exact hown3, hbel2.grown hg3 hbel2.size (fun g hg => (HO.out.1.lt g hg).1)⟩
      clear hg3 hown3 hbel2 HO
      go_wp2
      go_roundw
      case rel => exact ⟨r.drop 32, acc ++ [r.take 32], by rw [List.length_drop, List.length_append, List.length_singleton]; omega, by rw [HSz.out, HD.out], HG2, HO3⟩
      case measure => rw [HSz.out, HD.out]; show (str (r.drop 32)).size < S.size; rw [str_size, HSz.out, List.length_drop]; omega
    · by_cases hn : r = []
      · subst hn
        obtain ⟨S, hS⟩ : ∃ S, str [] = S := ⟨_, rfl⟩
        have hne : S.toList = [] := by rw [← hS, Lib.toList_data]; rfl
        have hs0 : S.size = 0 := by rw [← hS]; rfl
        have HE : Hid (cutsOf l = acc) := Lib.hid (by rw [HG.out, cuts_none, List.append_nil])
        rw [hS]
        clear hS hsz HG
        go_wp2
        go_ret
        rw [HE.out]
        exact strsEnd_of HO.out.1 HO.out.2
      · have HE : Hid (cutsOf l = acc ++ [r]) := Lib.hid (by rw [HG.out, cuts_last h32 hn])
        have hle : r.length ≤ 32 := by omega
        obtain ⟨S, hS⟩ : ∃ S, str r = S := ⟨_, rfl⟩
        have hne : (S.toList == []) = false := by
          rw [← hS, Lib.toList_data, str_list]
          cases r with
          | nil => exact absurd rfl hn
          | cons x r => rfl
        have hne2 : ¬ S.toList = [] := by simpa using hne
        have HS := Lib.hid hS
        rw [hS] at hsz ⊢
        have h32' : decide (32 < (S.size : Int)) = false := by rw [decide_eq_false_iff_not, hsz]; omega
        have hS32 : S.size ≤ 32 := by omega
        clear hS hn HG h32 hsz
        go_wp2_with (at_builtin; refine wpList_append_own_at _ rfl (.tmp 16) (.tmp 18) 27 rfl w.heap.size 9 i0 (.string ByteArray.empty) 1 16 Tryz.underlying27 hi0 hz0 hz1 hz2 rfl (by decide) _ acc.length (acc.map secV) rfl (HO.out.1.alloc _) ⟨wr.heap.size, 0, none⟩ 1 1 [.string S] rfl rfl ?c1 ?c2 ?c3 ?c4 ?c5 ?_)
        case c1 => exact cell_one_new _ _ _
        case c2 => intro u hu; simp at hu; subst hu; rfl
        case c3 => unfold maxLen; omega
        case c4 => omega
        case c5 => have := HO.out.2.size; simp; omega
        intro v3 w3 hown3 hg3 _ _
        rw [← HS.out, secV_snoc] at hown3
        have hbel2 : Below w.heap.size w (wr.alloc (.cells #[.string S] 9)) := HO.out.2.alloc HO.out.2.size _
        have HO3 : Hid (w3.ownsRow w.heap.size 9 1 v3 (acc ++ [r]).length ((acc ++ [r]).map secV) ∧ Below w.heap.size w w3) := Lib.hid ⟨by rw [List.length_append]; exact hown3, hbel2.grown hg3 hbel2.size (fun g hg => (HO.out.1.lt g hg).1)⟩
        clear hg3 hown3 hbel2 HO
        go_wp2
        go_ret
        rw [HE.out]
        exact strsEnd_of HO3.out.1 HO3.out.2

/-- An error as a value: nil, or a fault at block b that wraps the number. -/
def faultV (call : ByteArray) (e : Int) : Array Value := #[.string call, .iface 56 (.int .i64 e)]

theorem fault_ok (call : ByteArray) (w : World) : Calls Tryz.prog 31 #[.string call, .int .i64 0] w fun e w' => e = .returned .nilIface ∧ w = w' := by
  go_enter Tryz.func31, Tryz.ntmps31
  go_wp2
  go_ret
  exact ⟨rfl, rfl⟩
theorem fault_no (call : ByteArray) (k : Int) (hk : k ≠ 0) (w : World) : Calls Tryz.prog 31 #[.string call, .int .i64 k] w fun e w' => e = .returned (.iface 103 (.pointer (some ⟨w.heap.size, 0, none⟩))) ∧ w' = w.alloc (.cells (faultV call k) 105) := by
  have hk' : (k == 0) = false := by simpa using hk
  go_enter Tryz.func31, Tryz.ntmps31
  go_wp2
  go_ret
  exact ⟨rfl, rfl⟩
end Go.Proofs.YtlelfakememckaaGreatDoor

namespace Go.Proofs.YtlelfakememckaaGreatDoor
open Go.RowKit

/-- Writes one behind the other, up to the first that is refused. -/
def DSt.putsD : DSt → List (Nat × List UInt8) → DSt
  | d, [] => d
  | d, p :: ps => if d.writeE (p.1 : Int) p.2 = 0 then (d.writeD (p.1 : Int) p.2).putsD ps else d.writeD (p.1 : Int) p.2
def DSt.putsE : DSt → List (Nat × List UInt8) → Bool
  | _, [] => true
  | d, p :: ps => if d.writeE (p.1 : Int) p.2 = 0 then (d.writeD (p.1 : Int) p.2).putsE ps else false
def DSt.firmD (d : DSt) (ps : List (Nat × List UInt8)) : DSt := if d.putsE ps = true then (d.putsD ps).flushD else d.putsD ps
def DSt.firmE (d : DSt) (ps : List (Nat × List UInt8)) : Bool := d.putsE ps && ((d.putsD ps).flushE == 0)

theorem writeD_looseW (d : DSt) (i : Int) (s : List UInt8) : (d.writeD i s).loose.length ≤ d.loose.length + 1 := by
  unfold DSt.writeD
  split
  · omega
  · split
    · show (d.spent.loose ++ [_]).length ≤ _
      rw [List.length_append, d.spent_loose]; simp
    · rw [d.spent_loose]; omega
theorem putsD_loose : ∀ (ps : List (Nat × List UInt8)) (d : DSt), (d.putsD ps).loose.length ≤ d.loose.length + ps.length
  | [], d => Nat.le_refl _
  | p :: ps, d => by
    have h1 := writeD_looseW d (p.1 : Int) p.2
    unfold DSt.putsD
    split
    · have := putsD_loose ps (d.writeD (p.1 : Int) p.2)
      simp only [List.length_cons]; omega
    · simp only [List.length_cons]; omega

def putCells (ps : List (Nat × List UInt8)) : List Value := (ps.map fun p => [Value.int .i64 (p.1 : Int), Value.string (str p.2)]).flatten
theorem putCells_length (ps : List (Nat × List UInt8)) : (putCells ps).length = ps.length * 2 := by
  induction ps with
  | nil => rfl
  | cons p ps ih => simp only [putCells, List.map_cons, List.flatten_cons, List.length_append, List.length_cons, List.length_nil] at ih ⊢; omega
theorem putCells_at (ps : List (Nat × List UInt8)) (k : Nat) (hk : k < ps.length) : (putCells ps)[k * 2]? = some (.int .i64 (ps[k].1 : Int)) ∧ (putCells ps)[k * 2 + 1]? = some (.string (str ps[k].2)) := by
  induction ps generalizing k with
  | nil => simp at hk
  | cons p ps ih =>
    cases k with
    | zero => exact ⟨rfl, rfl⟩
    | succ k =>
      have := ih k (by simpa using hk)
      simpa [putCells, Nat.add_mul] using this

/-- What a call on a disk that answers a bool leaves. -/
def FirmEnd (w : World) (F : Nat → Prop) (a : Nat) (d : DSt) (b : Bool) (e : Ending) (w' : World) : Prop := DiskEnd w F a d (.bool b) e w'

set_option maxHeartbeats 1600000 in
theorem flushed_any {w : World} {F : Nat → Prop} {a : Nat} {d : DSt} (h : IsDisk w F a d) (ps : List (Nat × List UInt8)) (A : Option Addr) (n cap : Nat) (hn : ps.length = n) (hA : Lies w w.heap.size A (putCells ps)) (hF : ∀ b off, A = some ⟨b, off, none⟩ → ¬ F b)
    (hp : ∀ p ∈ ps, p.2.length ≤ 1000000) (hL : d.loose.length + n ≤ 1000000) :
    Calls Tryz.prog 90 #[.pointer (some ⟨a, 0, none⟩), .slice A n cap] w (DiskEnd w F a (d.firmD ps) (.bool (d.firmE ps))) := by
  have HN := Lib.hid hn
  have HA := Lib.hid hA
  have HF := Lib.hid hF
  have HP := Lib.hid hp
  have HLow := Lib.hid h.low
  have HD := Lib.hid h
  have hn2 : n ≤ 1000000 := by omega
  clear hn hA hF hp h
  go_enter Tryz.func90, Tryz.ntmps90
  go_wp2
  go_loopw [9] (fun i wr => ∃ (q : Nat) (dq : DSt) (Fq : Nat → Prop), q ≤ n ∧ i = .int .i64 q ∧ dq.loose.length ≤ d.loose.length + q ∧ Hid (d.putsD ps = dq.putsD (ps.drop q) ∧ d.putsE ps = dq.putsE (ps.drop q)) ∧ Hid (IsDisk wr Fq a dq ∧ Moves F w wr ∧ ∀ k, Fq k → F k ∨ w.heap.size ≤ k)) (fun i _ => n - (intOf i).toNat)
  case atStart => exact ⟨0, d, F, by omega, rfl, by omega, Lib.hid ⟨rfl, rfl⟩, Lib.hid ⟨HD.out, Moves.refl _ _, fun _ h => Or.inl h⟩⟩
  case round =>
    clear HD
    obtain ⟨q, dq, Fq, hq, rfl, hlo, HG, HS⟩ := hrel
    by_cases hlt : q < n
    · have hql : q < ps.length := by rw [HN.out]; exact hlt
      obtain ⟨b, off, hA, hb, hc⟩ := HA.out.at_ (fun e => by have := putCells_length ps; rw [e] at this; simp at this; omega)
      subst hA
      obtain ⟨k1, k2⟩ := putCells_at ps q hql
      have hlen := putCells_length ps
      have c1 : w.cell? ⟨b, off + q * 2, none⟩ = some (.int .i64 (ps[q].1 : Int)) := by
        rw [hc (q * 2) (by omega), ← List.getElem?_eq_getElem]; exact k1
      have c2 : w.cell? ⟨b, off + q * 2 + 1, none⟩ = some (.string (str ps[q].2)) := by
        rw [Nat.add_assoc, hc (q * 2 + 1) (by omega), ← List.getElem?_eq_getElem]; exact k2
      have hblk := HS.out.2.1.block b hb (HF.out b off rfl)
      have d1 : wr.cell? ⟨b, off + q * 2, none⟩ = some (.int .i64 (ps[q].1 : Int)) := (World.cell?_of_block (a := ⟨b, off + q * 2, none⟩) hblk).trans c1
      have d2 : wr.cell? ⟨b, off + q * 2 + 1, none⟩ = some (.string (str ps[q].2)) := (World.cell?_of_block (a := ⟨b, off + q * 2 + 1, none⟩) hblk).trans c2
      have hdrop : ps.drop q = ps[q] :: ps.drop (q + 1) := List.drop_eq_getElem_cons hql
      have hpq := HP.out _ (List.getElem_mem hql)
      obtain ⟨⟨i, s⟩, hp⟩ : ∃ p, ps[q] = p := ⟨_, rfl⟩
      rw [hp] at d1 d2 hdrop hpq
      simp only at d1 d2 hpq
      have hwl := writeD_looseW dq (i : Int) s
      have HG2 : Hid (dq.writeE (i : Int) s = 0 → d.putsD ps = (dq.writeD (i : Int) s).putsD (ps.drop (q + 1)) ∧ d.putsE ps = (dq.writeD (i : Int) s).putsE (ps.drop (q + 1))) := Lib.hid (fun h0 => by
        obtain ⟨g1, g2⟩ := HG.out
        rw [g1, g2, hdrop]
        show (if dq.writeE (i : Int) s = 0 then _ else _ : DSt) = _ ∧ (if dq.writeE (i : Int) s = 0 then _ else _ : Bool) = _
        rw [if_pos h0, if_pos h0]
        exact ⟨rfl, rfl⟩)
      have HG3 : Hid (dq.writeE (i : Int) s ≠ 0 → d.firmD ps = dq.writeD (i : Int) s ∧ d.firmE ps = false) := Lib.hid (fun h0 => by
        obtain ⟨g1, g2⟩ := HG.out
        unfold DSt.firmD DSt.firmE
        rw [g1, g2, hdrop]
        have e1 : dq.putsE ((i, s) :: ps.drop (q + 1)) = false := by show (if dq.writeE (i : Int) s = 0 then _ else _ : Bool) = _; rw [if_neg h0]
        have e2 : dq.putsD ((i, s) :: ps.drop (q + 1)) = dq.writeD (i : Int) s := by show (if dq.writeE (i : Int) s = 0 then _ else _ : DSt) = _; rw [if_neg h0]
        rw [e1, e2]
        exact ⟨rfl, rfl⟩)
      have HW : Hid (∀ V, IsDisk V Fq a dq → Calls Tryz.prog 100 #[.pointer (some ⟨a, 0, none⟩), .int .i64 (i : Int), .string (str s)] V (DiskEnd V Fq a (dq.writeD (i : Int) s) (.int .i64 (dq.writeE (i : Int) s)))) := Lib.hid (fun V hV => by
        have := Write_any hV (i : Int) (str s) (by rw [str_size]; omega) (by omega)
        rw [str_list] at this
        exact this)
      have HD5 : Hid (IsDisk (wr.alloc (.cells #[.int .i64 (i : Int), .string (str s)] 131)) Fq a dq) := Lib.hid (HS.out.1.below ((Below.refl _ _).alloc (Nat.le_refl _) _))
      have HM5 : Hid (Moves F w (wr.alloc (.cells #[.int .i64 (i : Int), .string (str s)] 131))) := Lib.hid (HS.out.2.1.alloc _)
      have HQ5 : Hid (∀ k, Fq k → F k ∨ w.heap.size ≤ k) := Lib.hid HS.out.2.2
      have HSz : Hid (w.heap.size ≤ (wr.alloc (.cells #[.int .i64 (i : Int), .string (str s)] 131)).heap.size) := Lib.hid (by have := HS.out.2.1.size; simp; omega)
      clear hc k1 k2 c1 c2 hblk hdrop hp HG hql hlen
      generalize dq.writeE (i : Int) s = E at *
      generalize dq.writeD (i : Int) s = dz at *
      generalize str s = S at *
      go_wp2_with fail
      refine (HW.out _ HD5.out).mono ?_
      rintro e w5 ⟨rfl, hm5, F5, hd5, hF5⟩
      have HS5 : Hid (IsDisk w5 F5 a dz ∧ Moves F w w5 ∧ ∀ k, F5 k → F k ∨ w.heap.size ≤ k) := Lib.hid ⟨hd5, HM5.out.trans hm5 HQ5.out, fun k hk => (hF5 k hk).elim (HQ5.out k) (fun h => .inr (Nat.le_trans HSz.out h))⟩
      clear hm5 hd5 hF5 d1 d2 HS
      by_cases hE : E = 0
      · subst hE
        have HGn := Lib.hid (HG2.out rfl)
        clear HG2 HG3
        go_wp2_with fail
        go_roundw
        case rel => exact ⟨q + 1, dz, F5, by omega, by go_num, by omega, HGn, HS5⟩
        case measure => simp [intOf]; omega
      · have hEb : (E != 0) = true := by simpa using hE
        have HGn := Lib.hid (HG3.out hE)
        clear HG2 HG3 hE
        go_wp2_with fail
        go_ret
        rw [HGn.out.1, HGn.out.2]
        exact ⟨rfl, HS5.out.2.1, F5, HS5.out.1, HS5.out.2.2⟩
    · have HQ : Hid (ps.drop q = []) := Lib.hid (by rw [List.drop_eq_nil_iff, HN.out]; omega)
      have HE : Hid (d.firmD ps = dq.flushD ∧ d.firmE ps = (dq.flushE == 0)) := Lib.hid (by
        obtain ⟨g1, g2⟩ := HG.out
        unfold DSt.firmD DSt.firmE
        rw [g1, g2, HQ.out]
        exact ⟨rfl, rfl⟩)
      have hge : n ≤ q := by omega
      have hlt2 : decide ((q : Int) < (n : Int)) = false := by rw [decide_eq_false_iff_not]; omega
      clear HG HQ
      go_wp2_with fail
      refine (Flush_any HS.out.1 (by omega)).mono ?_
      rintro e w5 ⟨rfl, hm5, F5, hd5, hF5⟩
      have HS5 : Hid (IsDisk w5 F5 a dq.flushD ∧ Moves F w w5 ∧ ∀ k, F5 k → F k ∨ w.heap.size ≤ k) := Lib.hid ⟨hd5, HS.out.2.1.trans hm5 HS.out.2.2, fun k hk => (hF5 k hk).elim (HS.out.2.2 k) (fun h => .inr (Nat.le_trans HS.out.2.1.size h))⟩
      clear hm5 hd5 hF5 HS
      go_wp2_with fail
      go_ret
      rw [HE.out.1, HE.out.2]
      exact ⟨rfl, HS5.out.2.1, F5, HS5.out.1, HS5.out.2.2⟩

/-- First the body, made firm; then the header, made firm. -/
def DSt.storeE (d : DSt) (ps : List (Nat × List UInt8)) (h : Nat × List UInt8) : Bool := d.firmE ps && (d.firmD ps).firmE [h]
def DSt.storeD (d : DSt) (ps : List (Nat × List UInt8)) (h : Nat × List UInt8) : DSt := if d.firmE ps = true then (d.firmD ps).firmD [h] else d.firmD ps
theorem flushD_looseW (d : DSt) : d.flushD.loose.length ≤ d.loose.length := by
  unfold DSt.flushD
  split
  · exact Nat.le_refl _
  · split
    · exact Nat.zero_le _
    · rw [d.spent_loose]; exact Nat.le_refl _
theorem firmD_loose (d : DSt) (ps : List (Nat × List UInt8)) : (d.firmD ps).loose.length ≤ d.loose.length + ps.length := by
  unfold DSt.firmD
  split
  · exact Nat.le_trans (flushD_looseW _) (putsD_loose ps d)
  · exact putsD_loose ps d

set_option maxHeartbeats 1600000 in
theorem store_any {w : World} {F : Nat → Prop} {a : Nat} {d : DSt} (h : IsDisk w F a d) (ps : List (Nat × List UInt8)) (A : Option Addr) (n cap : Nat) (hn : ps.length = n) (hA : Lies w w.heap.size A (putCells ps)) (hF : ∀ b off, A = some ⟨b, off, none⟩ → ¬ F b)
    (hp : ∀ p ∈ ps, p.2.length ≤ 1000000) (hL : d.loose.length + n + 1 ≤ 1000000) (i : Nat) (s : List UInt8) (hs : s.length ≤ 1000000) :
    Calls Tryz.prog 74 #[.pointer (some ⟨a, 0, none⟩), .slice A n cap, .agg #[.int .i64 i, .string (str s)]] w (DiskEnd w F a (d.storeD ps (i, s)) (.bool (d.storeE ps (i, s)))) := by
  have hfl := firmD_loose d ps
  rw [hn] at hfl
  have hb0 : Below w.heap.size w (w.alloc (.cells #[.int .i64 i, .string (str s)] 131)) := (Below.refl _ _).alloc (Nat.le_refl _) _
  have HC := Lib.hid (flushed_any (cap := cap) (h.below hb0) ps A n hn (hA.next hb0) hF hp (by omega))
  have HLow := Lib.hid h.low
  have HM0 : Hid (Moves F w (w.alloc (.cells #[.int .i64 i, .string (str s)] 131))) := Lib.hid (Moves.of_below hb0)
  have HB0 : Hid ((w.alloc (.cells #[.int .i64 i, .string (str s)] 131)).heap[w.heap.size]? = some (.cells #[.int .i64 i, .string (str s)] 131 (0, 0))) := Lib.hid (heap_alloc_new _ _)
  have HStr : Hid (str s = str s) := Lib.hid rfl
  obtain ⟨S, hS⟩ : ∃ S, str s = S := ⟨_, rfl⟩
  have HS := Lib.hid hS
  have HEE : Hid (d.firmE ps = true → d.storeE ps (i, s) = (d.firmD ps).firmE [(i, s)] ∧ d.storeD ps (i, s) = (d.firmD ps).firmD [(i, s)]) := Lib.hid (fun h0 => by unfold DSt.storeE DSt.storeD; rw [h0]; exact ⟨rfl, rfl⟩)
  have HNE : Hid (d.firmE ps = false → d.storeE ps (i, s) = false ∧ d.storeD ps (i, s) = d.firmD ps) := Lib.hid (fun h0 => by unfold DSt.storeE DSt.storeD; rw [h0]; exact ⟨rfl, rfl⟩)
  rw [hS] at HC HM0 HB0 ⊢
  clear h hA hF hp hS HStr hb0
  generalize d.storeE ps (i, s) = ES at *
  generalize d.storeD ps (i, s) = DS at *
  generalize d.firmD ps = d1 at *
  cases hE : d.firmE ps with
  | false =>
    rw [hE] at HC
    have HG := Lib.hid (HNE.out hE)
    clear HNE HEE hE
    go_enter Tryz.func74, Tryz.ntmps74
    go_wp2_with fail
    refine HC.out.mono ?_
    rintro e w1 ⟨rfl, hm1, F1, hd1, hF1⟩
    have HE1 : Hid (Moves F w w1 ∧ IsDisk w1 F1 a d1 ∧ ∀ k, F1 k → F k ∨ w.heap.size ≤ k) := Lib.hid ⟨HM0.out.trans hm1 (fun _ h => .inl h), hd1, fun k hk => (hF1 k hk).imp id (fun h => Nat.le_trans HM0.out.size h)⟩
    clear hm1 hd1 hF1
    go_wp2_with fail
    go_ret
    rw [HG.out.1, HG.out.2]
    exact ⟨rfl, HE1.out.1, F1, HE1.out.2.1, HE1.out.2.2⟩
  | true =>
    rw [hE] at HC
    have HG := Lib.hid (HEE.out hE)
    clear HNE HEE hE
    go_enter Tryz.func74, Tryz.ntmps74
    go_wp2_with fail
    refine HC.out.mono ?_
    rintro e w1 ⟨rfl, hm1, F1, hd1, hF1⟩
    have hblk : w1.heap[w.heap.size]? = some (.cells #[.int .i64 i, .string S] 131 (0, 0)) := (hm1.block _ (by simp) (fun hf => by have := HLow.out _ hf; omega)).trans HB0.out
    have HE1 : Hid (Moves F w w1 ∧ IsDisk w1 F1 a d1 ∧ ∀ k, F1 k → F k ∨ w.heap.size ≤ k) := Lib.hid ⟨HM0.out.trans hm1 (fun _ h => .inl h), hd1, fun k hk => (hF1 k hk).imp id (fun h => Nat.le_trans HM0.out.size h)⟩
    have k0 := Lib.cell_of_heap hblk
    have HB2 : Hid (Below w1.heap.size w1 (w1.alloc (.cells #[.int .i64 i, .string S] 131))) := Lib.hid ((Below.refl _ _).alloc (Nat.le_refl _) _)
    have HC2 : Hid (Calls Tryz.prog 90 #[.pointer (some ⟨a, 0, none⟩), .slice (some ⟨w1.heap.size, 0, none⟩) 1 1] (w1.alloc (.cells #[.int .i64 i, .string S] 131)) (DiskEnd (w1.alloc (.cells #[.int .i64 i, .string S] 131)) F1 a (d1.firmD [(i, s)]) (.bool (d1.firmE [(i, s)])))) := Lib.hid (by
      refine flushed_any (hd1.below HB2.out) [(i, s)] _ 1 1 rfl ?_ ?_ ?_ (by omega)
      · have := lies_new w1 #[.int .i64 i, .string S] 131
        rw [← HS.out] at this ⊢
        exact this
      · intro b off e hf
        simp only [Option.some.injEq, Addr.mk.injEq, and_true] at e
        have := hd1.low _ hf
        omega
      · intro p hp
        simp at hp; subst hp; exact hs)
    clear hm1 hd1 hF1 hblk HC HB0 HM0
    go_wp2_with fail
    refine HC2.out.mono ?_
    rintro e w2 ⟨rfl, hm2, F2, hd2, hF2⟩
    have HE2 : Hid (Moves F w w2 ∧ IsDisk w2 F2 a (d1.firmD [(i, s)]) ∧ ∀ k, F2 k → F k ∨ w.heap.size ≤ k) := by
      obtain ⟨g1, g2, g3⟩ := HE1.out
      have g4 : Moves F w (w1.alloc (.cells #[.int .i64 i, .string S] 131)) := g1.alloc _
      exact Lib.hid ⟨g4.trans hm2 g3, hd2, fun k hk => (hF2 k hk).elim (g3 k) (fun h => .inr (Nat.le_trans g4.size h))⟩
    clear hm2 hd2 hF2 HC2 HB2 HE1 k0
    go_wp2_with fail
    go_ret
    rw [HG.out.1, HG.out.2]
    exact ⟨rfl, HE2.out.1, F2, HE2.out.2.1, HE2.out.2.2⟩
end Go.Proofs.YtlelfakememckaaGreatDoor
