/- Contract of readAll. -/
import Derived.Test.YtjeabnlmanfplaaGreatDoorWalE
namespace Go.Proofs.YtjeabnlmanfplaaGreatDoor
open Go.RowKit

def part (l : List Value) (z : Value) (q : Nat) : List Value := l.take q ++ List.replicate (l.length - q) z
theorem part_zero (l : List Value) (z : Value) : part l z 0 = List.replicate l.length z := by simp [part]
theorem part_all (l : List Value) (z : Value) : part l z l.length = l := by simp [part]
theorem part_set (l : List Value) (z : Value) {q : Nat} (h : q < l.length) : (part l z q).set q l[q] = part l z (q + 1) := by
  unfold part
  obtain ⟨m, hm⟩ : ∃ m, l.length - q = m + 1 := ⟨l.length - q - 1, by omega⟩
  have hm2 : l.length - (q + 1) = m := by omega
  have hlt : (l.take q).length = q := by rw [List.length_take]; omega
  rw [List.set_append_right _ _ (by omega), hlt, Nat.sub_self, hm, hm2, List.replicate_succ, List.set_cons_zero, List.take_succ_eq_append_getElem h, List.append_assoc]
  rfl

theorem own_setW {w : World} {base : Nat} {e : TypeId} {g n cap : Nat} {xs : List Value} (h : w.ownsRow base e 1 (.slice (some ⟨g, 0, none⟩) n cap) n xs) (i : Nat) (u : Value) : (w.setCell ⟨g, i, none⟩ u).ownsRow base e 1 (.slice (some ⟨g, 0, none⟩) n cap) n (xs.set i u) := by
  obtain ⟨h1, h2⟩ := h
  refine ⟨by rw [List.length_set]; exact h1, ?_⟩
  rcases h2 with ⟨h0, _⟩ | ⟨g', cap', cur, h0, hb, hg, hn, hm, hs, ht⟩
  · cases h0
  · simp only [Value.slice.injEq, Option.some.injEq, Addr.mk.injEq, and_true, true_and] at h0
    obtain ⟨rfl, rfl⟩ := h0
    refine .inr ⟨g, cap, cur.setIfInBounds i u, rfl, hb, row_set hg i u, hn, hm, by simpa using hs, ?_⟩
    rw [Array.toList_setIfInBounds, List.take_set, ht]

def emptyV : Value := .string ByteArray.empty
theorem make_strings (n : Nat) (h : n ≤ 4096) (w : World) : (Instr.makeSlice 27 (.int .i64 (n : Int)) (.int .i64 (n : Int))).run Tryz.prog w = .ok (.slice (some ⟨w.heap.size, 0, none⟩) n n) (w.alloc (.cells (madeCells #[emptyV] n) 9)) := by
  obtain ⟨i0, hi0, hz0, hz1, hz2⟩ := info_parts Tryz.infoStr5
  have hr := run_make (P := Tryz.prog) w 27 9 i0 _ Tryz.underlying27 hi0 hz0 .i64 .i64 n n (by omega) (Int.le_refl _) (by rw [hz2]; omega) (by omega)
  rw [hz1] at hr
  simp only [Int.toNat_natCast, Nat.mul_one] at hr
  exact hr
theorem made_list (n : Nat) : (madeCells #[emptyV] n).toList = List.replicate n emptyV := by
  apply List.ext_getElem
  · simp [madeCells]
  · intro i h1 h2
    simp [madeCells, Nat.mod_one]

def ReadEnd (d : DSt) (w : World) (e : Ending) (w' : World) : Prop :=
  (if d.off = true then e = .returned (.tuple #[.slice none 0 0, .int .i64 7]) else ∃ g c, e = .returned (.tuple #[.slice (some ⟨g, 0, none⟩) d.seen.length c, .int .i64 0]) ∧ Lies w' w'.heap.size (some ⟨g, 0, none⟩) (d.seen.map secV) ∧ w.heap.size ≤ g) ∧ Below w.heap.size w w'

set_option maxHeartbeats 1600000 in
theorem readAll_any {w : World} {F : Nat → Prop} {a : Nat} {d : DSt} (h : IsDisk w F a d) : Calls Tryz.prog 47 #[.pointer (some ⟨a, 0, none⟩)] w (ReadEnd d w) := by
  have HD := Lib.hid h
  have hn := h.1.le
  have hpos := h.1.pos
  have hmk := make_strings d.seen.length hn
  have HR : Hid (∀ q, q < d.seen.length → d.off = false → d.readE (q : Int) = 0 ∧ d.readB (q : Int) = d.seen.getD q []) := Lib.hid (fun q hq ho => by
    have e1 : d.readE (q : Int) = 0 := by unfold DSt.readE; rw [if_neg (by rw [ho]; simp), if_pos ((d.has_iff _).2 (by omega))]
    refine ⟨e1, ?_⟩
    unfold DSt.readB
    rw [if_pos e1, Int.toNat_natCast])
  have HO : Hid (d.off = true → ∀ q : Int, d.readE q = 7) := Lib.hid (fun ho q => by unfold DSt.readE; rw [if_pos ho])
  have HOwn : Hid ((w.alloc (.cells (madeCells #[emptyV] d.seen.length) 9)).ownsRow w.heap.size 9 1 (.slice (some ⟨w.heap.size, 0, none⟩) d.seen.length d.seen.length) d.seen.length (part (d.seen.map secV) emptyV 0)) := Lib.hid (by
    have := World.ownsRow_lit (e := 9) (size := 1) (base := w.heap.size) w (madeCells #[emptyV] d.seen.length) d.seen.length (Nat.le_refl _) (by unfold maxLen; omega) (by simp [madeCells])
    rw [made_list] at this
    rw [part_zero, List.length_map]
    exact this)
  have HB0 : Hid (Below w.heap.size w (w.alloc (.cells (madeCells #[emptyV] d.seen.length) 9))) := Lib.hid ((Below.refl _ _).alloc (Nat.le_refl _) _)
  have HLen : Hid ((d.seen.map secV).length = d.seen.length) := Lib.hid (by simp)
  clear h
  go_enter Tryz.func47, Tryz.ntmps47
  go_wp2_with (go_at_call 45; refine (Size_any HD.out).mono ?_; rintro e w' ⟨rfl, rfl⟩)
  generalize w.alloc (.cells (madeCells #[emptyV] d.seen.length) 9) = V at *
  go_loopw [13] (fun i wr => ∃ q : Nat, q ≤ d.seen.length ∧ i = .int .i64 q ∧ Hid ((d.off = true → q = 0) ∧ wr.ownsRow w.heap.size 9 1 (.slice (some ⟨w.heap.size, 0, none⟩) d.seen.length d.seen.length) d.seen.length (part (d.seen.map secV) emptyV q) ∧ Below w.heap.size w wr)) (fun i _ => d.seen.length - (intOf i).toNat)
  case atStart => exact ⟨0, by omega, rfl, Lib.hid ⟨fun _ => rfl, HOwn.out, HB0.out⟩⟩
  case round =>
    clear HOwn HB0
    obtain ⟨q, hq, rfl, HS⟩ := hrel
    have HD5 : Hid (IsDisk wr F a d) := Lib.hid (HD.out.below HS.out.2.2)
    by_cases hlt : q < d.seen.length
    · by_cases hoff : d.off = true
      · have HE := Lib.hid (HO.out hoff (q : Int))
        have HF : Hid (∀ w', Below w.heap.size w w' → ReadEnd d w (.returned (.tuple #[.slice none 0 0, .int .i64 7])) w') := Lib.hid (fun w' hb => ⟨by rw [if_pos hoff], hb⟩)
        clear HR HO hoff hmk
        go_wp2_with fail
        refine (Read_any HD5.out (q : Int)).mono ?_
        rw [HE.out]
        generalize str (d.readB (q : Int)) = S
        rintro e w' ⟨rfl, rfl⟩
        go_wp2_with fail
        go_ret2
        exact HF.out _ HS.out.2.2
      · have hoff' : d.off = false := by simpa using hoff
        obtain ⟨e1, e2⟩ := HR.out q hlt hoff'
        have hql : q < (d.seen.map secV).length := by rw [HLen.out]; exact hlt
        have HP := Lib.hid (part_set (d.seen.map secV) emptyV hql)
        have hval : (d.seen.map secV)[q] = .string (str (d.readB (q : Int))) := by
          rw [List.getElem_map, e2, List.getD_eq_getElem?_getD, List.getElem?_eq_getElem hlt]; rfl
        rw [hval] at HP
        have c1 := HS.out.2.1.cellAt q (by omega)
        have c2 := HS.out.2.1.frozenAt q
        have hpl : q < (part (d.seen.map secV) emptyV q).length := by unfold part; rw [List.length_append, List.length_replicate, List.length_take]; omega
        rw [List.getElem?_eq_getElem hpl] at c1
        obtain ⟨z, hz⟩ : ∃ z, (part (d.seen.map secV) emptyV q)[q] = z := ⟨_, rfl⟩
        rw [hz] at c1
        have HE1 := Lib.hid e1
        have HNo : Hid (d.off = true → q + 1 = 0) := Lib.hid (fun h => absurd h hoff)
        clear HR HO hoff hoff' hmk e1 e2 hval hpl hz hql
        go_wp2_with fail
        refine (Read_any HD5.out (q : Int)).mono ?_
        rw [HE1.out]
        generalize str (d.readB (q : Int)) = S at *
        rintro e w' ⟨rfl, rfl⟩
        have HS9 : Hid ((d.off = true → q + 1 = 0) ∧ (wr.setCell ⟨w.heap.size, q, none⟩ (.string S)).ownsRow w.heap.size 9 1 (.slice (some ⟨w.heap.size, 0, none⟩) d.seen.length d.seen.length) d.seen.length (part (d.seen.map secV) emptyV (q + 1)) ∧ Below w.heap.size w (wr.setCell ⟨w.heap.size, q, none⟩ (.string S))) := Lib.hid ⟨HNo.out, by rw [← HP.out]; exact own_setW HS.out.2.1 q _, HS.out.2.2.setCell (by simp) _⟩
        clear HS HP HNo HD5
        go_wp2_with fail
        go_roundw
        case rel => exact ⟨q + 1, by omega, by go_num, HS9⟩
        case measure => simp [intOf]; omega
    · have HQ : Hid (q = d.seen.length) := Lib.hid (by omega)
      have hge : d.seen.length ≤ q := by omega
      have hlt2 : decide ((q : Int) < (d.seen.length : Int)) = false := by rw [decide_eq_false_iff_not]; omega
      have HNo : Hid (d.off = false) := Lib.hid (by
        cases ho : d.off with
        | false => rfl
        | true => have := HS.out.1 ho; omega)
      clear HR HO hmk
      go_wp2_with fail
      go_ret2
      refine ⟨?_, HS.out.2.2⟩
      rw [if_neg (by rw [HNo.out]; simp)]
      refine ⟨w.heap.size, d.seen.length, rfl, ?_, Nat.le_refl _⟩
      have := HS.out.2.1
      rw [HQ.out] at this
      have e2 : part (d.seen.map secV) emptyV d.seen.length = d.seen.map secV := by rw [← HLen.out]; exact part_all _ _
      rw [e2] at this
      exact own_lies_ this
end Go.Proofs.YtjeabnlmanfplaaGreatDoor
