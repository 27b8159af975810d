/- Contract of readAll. The contract of strings.Join out of the library, at this program, and the contract of joined. Nothing is assumed of Join: each body is compared with the body that the contract was proved of. Plain: the state that a slot holds; a part of a row. -/
import Derived.Test.YtlelfakememckaaGreatDoorWalD
import Derived.Shelf.Strings.OnBuilder
import Derived.IntWalk
import Derived.BigRegion
namespace Go.Proofs.YtlelfakememckaaGreatDoor
open Go.RowKit

def part (l : List Value) (z : Value) (q : Nat) : List Value := l.take q ++ List.replicate (l.length - q) z
theorem part_zero (l : List Value) (z : Value) : part l z 0 = List.replicate l.length z := by simp [part]
theorem part_all (l : List Value) (z : Value) : part l z l.length = l := by simp [part]
theorem part_set (l : List Value) (z : Value) {q : Nat} (h : q < l.length) : (part l z q).set q l[q] = part l z (q + 1) := by
  unfold part
  obtain ⟨m, hm⟩ : ∃ m, l.length - q = m + 1 := ⟨l.length - q - 1, by omega⟩
  have hm2 : l.length - (q + 1) = m := by omega
  have hlt : (l.take q).length = q := by rw [List.length_take]; omega
  rw [List.set_append_right _ _ (by omega), hlt, Nat.sub_self, hm, hm2, List.replicate_succ, List.set_cons_zero, List.take_succ_eq_append_getElem h, List.append_assoc]
  rfl

theorem own_setW {w : World} {base : Nat} {e : TypeId} {g n cap : Nat} {xs : List Value} (h : w.ownsRow base e 1 (.slice (some ⟨g, 0, none⟩) n cap) n xs) (i : Nat) (u : Value) : (w.setCell ⟨g, i, none⟩ u).ownsRow base e 1 (.slice (some ⟨g, 0, none⟩) n cap) n (xs.set i u) := by
  obtain ⟨h1, h2⟩ := h
  refine ⟨by rw [List.length_set]; exact h1, ?_⟩
  rcases h2 with ⟨h0, _⟩ | ⟨g', cap', cur, h0, hb, hg, hn, hm, hs, ht⟩
  · cases h0
  · simp only [Value.slice.injEq, Option.some.injEq, Addr.mk.injEq, and_true, true_and] at h0
    obtain ⟨rfl, rfl⟩ := h0
    refine .inr ⟨g, cap, cur.setIfInBounds i u, rfl, hb, row_set hg i u, hn, hm, by simpa using hs, ?_⟩
    rw [Array.toList_setIfInBounds, List.take_set, ht]

def emptyV : Value := .string ByteArray.empty
theorem make_strings (n : Nat) (h : n ≤ 4096) (w : World) : (Instr.makeSlice 27 (.int .i64 (n : Int)) (.int .i64 (n : Int))).run Tryz.prog w = .ok (.slice (some ⟨w.heap.size, 0, none⟩) n n) (w.alloc (.cells (madeCells #[emptyV] n) 9)) := by
  obtain ⟨i0, hi0, hz0, hz1, hz2⟩ := info_parts Tryz.infoStr5
  have hr := run_make (P := Tryz.prog) w 27 9 i0 _ Tryz.underlying27 hi0 hz0 .i64 .i64 n n (by omega) (Int.le_refl _) (by rw [hz2]; omega) (by omega)
  rw [hz1] at hr
  simp only [Int.toNat_natCast, Nat.mul_one] at hr
  exact hr
theorem made_list (n : Nat) : (madeCells #[emptyV] n).toList = List.replicate n emptyV := by
  apply List.ext_getElem
  · simp [madeCells]
  · intro i h1 h2
    simp [madeCells, Nat.mod_one]

def ReadEnd (d : DSt) (w : World) (e : Ending) (w' : World) : Prop :=
  (if d.off = true then e = .returned (.tuple #[.slice none 0 0, .int .i64 7]) else ∃ g c, e = .returned (.tuple #[.slice (some ⟨g, 0, none⟩) d.seen.length c, .int .i64 0]) ∧ Lies w' w'.heap.size (some ⟨g, 0, none⟩) (d.seen.map secV) ∧ w.heap.size ≤ g) ∧ Below w.heap.size w w'

set_option maxHeartbeats 1600000 in
theorem readAll_any {w : World} {F : Nat → Prop} {a : Nat} {d : DSt} (h : IsDisk w F a d) : Calls Tryz.prog 32 #[.pointer (some ⟨a, 0, none⟩)] w (ReadEnd d w) := by
  have HD := Lib.hid h
  have hn := h.1.le
  have hpos := h.1.pos
  have hmk := make_strings d.seen.length hn
  have HR : Hid (∀ q, q < d.seen.length → d.off = false → d.readE (q : Int) = 0 ∧ d.readB (q : Int) = d.seen.getD q []) := Lib.hid (fun q hq ho => by
    have e1 : d.readE (q : Int) = 0 := by unfold DSt.readE; rw [if_neg (by rw [ho]; simp), if_pos ((d.has_iff _).2 (by omega))]
    refine ⟨e1, ?_⟩
    unfold DSt.readB
    rw [if_pos e1, Int.toNat_natCast])
  have HO : Hid (d.off = true → ∀ q : Int, d.readE q = 7) := Lib.hid (fun ho q => by unfold DSt.readE; rw [if_pos ho])
  have HOwn : Hid ((w.alloc (.cells (madeCells #[emptyV] d.seen.length) 9)).ownsRow w.heap.size 9 1 (.slice (some ⟨w.heap.size, 0, none⟩) d.seen.length d.seen.length) d.seen.length (part (d.seen.map secV) emptyV 0)) := Lib.hid (by
    have := World.ownsRow_lit (e := 9) (size := 1) (base := w.heap.size) w (madeCells #[emptyV] d.seen.length) d.seen.length (Nat.le_refl _) (by unfold maxLen; omega) (by simp [madeCells])
    rw [made_list] at this
    rw [part_zero, List.length_map]
    exact this)
  have HB0 : Hid (Below w.heap.size w (w.alloc (.cells (madeCells #[emptyV] d.seen.length) 9))) := Lib.hid ((Below.refl _ _).alloc (Nat.le_refl _) _)
  have HLen : Hid ((d.seen.map secV).length = d.seen.length) := Lib.hid (by simp)
  clear h
  go_enter Tryz.func32, Tryz.ntmps32
  go_wp2_with (go_at_call 30; refine (Size_any HD.out).mono ?_; rintro e w' ⟨rfl, rfl⟩)
  generalize w.alloc (.cells (madeCells #[emptyV] d.seen.length) 9) = V at *
  go_loopw [13] (fun i wr => ∃ q : Nat, q ≤ d.seen.length ∧ i = .int .i64 q ∧ Hid ((d.off = true → q = 0) ∧ wr.ownsRow w.heap.size 9 1 (.slice (some ⟨w.heap.size, 0, none⟩) d.seen.length d.seen.length) d.seen.length (part (d.seen.map secV) emptyV q) ∧ Below w.heap.size w wr)) (fun i _ => d.seen.length - (intOf i).toNat)
  case atStart => exact ⟨0, by omega, rfl, Lib.hid ⟨fun _ => rfl, HOwn.out, HB0.out⟩⟩
  case round =>
    clear HOwn HB0
    obtain ⟨q, hq, rfl, HS⟩ := hrel
    have HD5 : Hid (IsDisk wr F a d) := Lib.hid (HD.out.below HS.out.2.2)
    by_cases hlt : q < d.seen.length
    · by_cases hoff : d.off = true
      · have HE := Lib.hid (HO.out hoff (q : Int))
        have HF : Hid (∀ w', Below w.heap.size w w' → ReadEnd d w (.returned (.tuple #[.slice none 0 0, .int .i64 7])) w') := Lib.hid (fun w' hb => ⟨by rw [if_pos hoff], hb⟩)
        clear HR HO hoff hmk
        go_wp2_with fail
        refine (Read_any HD5.out (q : Int)).mono ?_
        rw [HE.out]
        generalize str (d.readB (q : Int)) = S
        rintro e w' ⟨rfl, rfl⟩
        go_wp2_with fail
        go_ret2
        exact HF.out _ HS.out.2.2
      · have hoff' : d.off = false := by simpa using hoff
        obtain ⟨e1, e2⟩ := HR.out q hlt hoff'
        have hql : q < (d.seen.map secV).length := by rw [HLen.out]; exact hlt
        have HP := Lib.hid (part_set (d.seen.map secV) emptyV hql)
        have hval : (d.seen.map secV)[q] = .string (str (d.readB (q : Int))) := by
          rw [List.getElem_map, e2, List.getD_eq_getElem?_getD, List.getElem?_eq_getElem hlt]; rfl
        rw [hval] at HP
        have c1 := HS.out.2.1.cellAt q (by omega)
        have c2 := HS.out.2.1.frozenAt q
        have hpl : q < (part (d.seen.map secV) emptyV q).length := by unfold part; rw [List.length_append, List.length_replicate, List.length_take]; omega
        rw [List.getElem?_eq_getElem hpl] at c1
        obtain ⟨z, hz⟩ : ∃ z, (part (d.seen.map secV) emptyV q)[q] = z := ⟨_, rfl⟩
        rw [hz] at c1
        have HE1 := Lib.hid e1
        have HNo : Hid (d.off = true → q + 1 = 0) := Lib.hid (fun h => absurd h hoff)
        clear HR HO hoff hoff' hmk e1 e2 hval hpl hz hql
        go_wp2_with fail
        refine (Read_any HD5.out (q : Int)).mono ?_
        rw [HE1.out]
        generalize str (d.readB (q : Int)) = S at *
        rintro e w' ⟨rfl, rfl⟩
        have HS9 : Hid ((d.off = true → q + 1 = 0) ∧ (wr.setCell ⟨w.heap.size, q, none⟩ (.string S)).ownsRow w.heap.size 9 1 (.slice (some ⟨w.heap.size, 0, none⟩) d.seen.length d.seen.length) d.seen.length (part (d.seen.map secV) emptyV (q + 1)) ∧ Below w.heap.size w (wr.setCell ⟨w.heap.size, q, none⟩ (.string S))) := Lib.hid ⟨HNo.out, by rw [← HP.out]; exact own_setW HS.out.2.1 q _, HS.out.2.2.setCell (by simp) _⟩
        clear HS HP HNo HD5
        go_wp2_with fail
        go_roundw
        case rel => exact ⟨q + 1, by omega, by go_num, HS9⟩
        case measure => simp [intOf]; omega
    · have HQ : Hid (q = d.seen.length) := Lib.hid (by omega)
      have hge : d.seen.length ≤ q := by omega
      have hlt2 : decide ((q : Int) < (d.seen.length : Int)) = false := by rw [decide_eq_false_iff_not]; omega
      have HNo : Hid (d.off = false) := Lib.hid (by
        cases ho : d.off with
        | false => rfl
        | true => have := HS.out.1 ho; omega)
      clear HR HO hmk
      go_wp2_with fail
      go_ret2
      refine ⟨?_, HS.out.2.2⟩
      rw [if_neg (by rw [HNo.out]; simp)]
      refine ⟨w.heap.size, d.seen.length, rfl, ?_, Nat.le_refl _⟩
      have := HS.out.2.1
      rw [HQ.out] at this
      have e2 : part (d.seen.map secV) emptyV d.seen.length = d.seen.map secV := by rw [← HLen.out]; exact part_all _ _
      rw [e2] at this
      exact own_lies_ this
end Go.Proofs.YtlelfakememckaaGreatDoor

namespace Go.Proofs
open Go.Shelf Go.RowKit
def Tryz.lays156_ren : Go.Shelf.Ren := ⟨fun | 156 => 82 | 165 => 93 | 166 => 94 | 169 => 95 | 240 => 103 | 241 => 104 | 276 => 118 | 277 => 119 | n => n, fun | 0 => 0 | 3 => 3 | 4 => 4 | 9 => 9 | 20 => 20 | 31 => 27 | 37 => 101 | 70 => 161 | 72 => 163 | 75 => 34 | 76 => 164 | 127 => 179 | 164 => 115 | 5 => 5 | 80 => 133 | n => n, fun | n => n⟩
theorem Tryz.lays156 : Go.Proofs.Lays.n156 Tryz.prog Tryz.lays156_ren := {
  mixed := by kernel_rfl
  f156 := Tryz.func82.trans (congrArg some (by kernel_rfl))
  f165 := Tryz.func93.trans (congrArg some (by kernel_rfl))
  f166 := Tryz.func94.trans (congrArg some (by kernel_rfl))
  f169 := Tryz.func95.trans (congrArg some (by kernel_rfl))
  f240 := Tryz.func103.trans (congrArg some (by kernel_rfl))
  f241 := Tryz.func104.trans (congrArg some (by kernel_rfl))
  f276 := Tryz.func118.trans (congrArg some (by kernel_rfl))
  f277 := Tryz.func119.trans (congrArg some (by kernel_rfl))
  t0 := Tryz.underlying0
  a0 := Tryz.isAgg0
  z0 := Tryz.sizeOf0
  v0 := Tryz.zeroValue0
  t3 := Tryz.underlying3
  a3 := Tryz.isAgg3
  z3 := Tryz.sizeOf3
  v3 := Tryz.zeroValue3
  t4 := Tryz.underlying4
  a4 := Tryz.isAgg4
  z4 := Tryz.sizeOf4
  v4 := Tryz.zeroValue4
  t9 := Tryz.underlying9
  a9 := Tryz.isAgg9
  z9 := Tryz.sizeOf9
  v9 := Tryz.zeroValue9
  t20 := Tryz.underlying20
  a20 := Tryz.isAgg20
  z20 := Tryz.sizeOf20
  v20 := Tryz.zeroValue20
  t31 := Tryz.underlying27
  a31 := Tryz.isAgg27
  z31 := Tryz.sizeOf27
  v31 := Tryz.zeroValue27
  t37 := Tryz.underlying101
  a37 := Tryz.isAgg101
  z37 := Tryz.sizeOf101
  v37 := Tryz.zeroValue101
  t70 := Tryz.underlying161
  a70 := Tryz.isAgg161
  z70 := Tryz.sizeOf161
  v70 := Tryz.zeroValue161
  t72 := Tryz.underlying163
  a72 := Tryz.isAgg163
  z72 := Tryz.sizeOf163
  v72 := Tryz.zeroValue163
  t75 := Tryz.underlying34
  a75 := Tryz.isAgg34
  z75 := Tryz.sizeOf34
  v75 := Tryz.zeroValue34
  t76 := Tryz.underlying164
  a76 := Tryz.isAgg164
  z76 := Tryz.sizeOf164
  v76 := Tryz.zeroValue164
  t127 := Tryz.underlying179
  a127 := Tryz.isAgg179
  z127 := Tryz.sizeOf179
  v127 := Tryz.zeroValue179
  t164 := Tryz.underlying115
  a164 := Tryz.isAgg115
  z164 := Tryz.sizeOf115
  v164 := Tryz.zeroValue115 }
theorem Tryz.Builder_Extra_156 : Builder.Extra Tryz.prog Tryz.lays156_ren := {
  sizeBuilder := by kernel_rfl
  liesBuilder := by kernel_rfl
  t5 := Tryz.underlying5
  a5 := Tryz.isAgg5
  z5 := Tryz.sizeOf5
  v5 := Tryz.zeroValue5
  infoByte := by kernel_rfl
  cellsByte := by kernel_rfl
  sizeByte := by kernel_rfl
  neB5 := by decide }
end Go.Proofs
namespace Go.Proofs.YtlelfakememckaaGreatDoor
open Go.RowKit

theorem join_none_sep (xs : List (List UInt8)) : Lib.join xs [] = xs.flatten := by
  match xs with
  | [] => rfl
  | x :: r =>
    rw [Lib.join_cons, List.flatten_cons]
    congr 1
    induction r with
    | nil => rfl
    | cons y r ih => simp [Lib.joinTail] at ih ⊢

theorem Join_any (xs : List (List UInt8)) (A : Option Addr) (n cap : Nat) (w : World) (hn : xs.length = n) (hc : n ≤ cap) (hA : Lies w w.heap.size A (xs.map secV)) (h1 : n ≤ 4096) (h2 : xs.flatten.length ≤ 140737488355328) :
    Calls Tryz.prog 82 #[.slice A n cap, .string ByteArray.empty] w fun e w' => e = .returned (.string (str xs.flatten)) ∧ Below w.heap.size w w' := by
  subst hn
  by_cases hx : xs = []
  · subst hx
    exact (Any.strings_Join_none Tryz.lays156 Tryz.Builder_Extra_156 A cap ByteArray.empty w).mono fun e w' ⟨he, hw⟩ => ⟨he, hw ▸ Below.refl _ _⟩
  · obtain ⟨b, off, rfl, hb, hcell⟩ := hA.at_ (by simpa using hx)
    have hm : (xs.map str).map (fun s : ByteArray => s.data.toList) = xs := by rw [List.map_map]; exact (List.map_congr_left (fun x _ => str_list x)).trans (List.map_id _)
    have hj : Lib.join ((xs.map str).map (fun s : ByteArray => s.data.toList)) (ByteArray.empty).data.toList = xs.flatten := by rw [hm]; exact join_none_sep xs
    have := Any.strings_Join Tryz.lays156 Tryz.Builder_Extra_156 b off cap (xs.map str) ByteArray.empty w (fun j x hjx => by
      obtain ⟨hj1, hj2⟩ := List.getElem?_eq_some_iff.1 hjx
      have := hcell j (by simpa using hj1)
      rw [this, List.getElem_map]
      rw [List.getElem_map] at hj2
      rw [← hj2]; rfl) hb (by rw [List.length_map]; omega) (by rw [List.length_map]; exact hc) (by rw [hj]; exact h2)
    rw [hj, List.length_map] at this
    exact this

theorem joined_any (xs : List (List UInt8)) (A : Option Addr) (n cap k : Nat) (w : World) (hn : xs.length = n) (hc : n ≤ cap) (hA : Lies w w.heap.size A (xs.map secV)) (h1 : n ≤ 4096) (h2 : xs.flatten.length ≤ 1000000) (hk : k ≤ xs.flatten.length) :
    Calls Tryz.prog 59 #[.slice A n cap, .int .i64 k] w fun e w' => e = .returned (.string (str (xs.flatten.take k))) ∧ Below w.heap.size w w' := by
  have HJ := Lib.hid (Join_any xs A n cap w hn hc hA h1 (by omega))
  have hsz := str_size xs.flatten
  have HT := Lib.hid (take_str xs.flatten k)
  clear hA hn
  generalize xs.flatten = l at *
  obtain ⟨S, hS⟩ : ∃ S, str l = S := ⟨_, rfl⟩
  rw [hS] at HJ HT hsz
  have hks : k ≤ S.size := by omega
  have hks2 : S.size ≤ 1000000 := by omega
  clear hS
  go_enter Tryz.func59, Tryz.ntmps59
  go_wp2_with fail
  refine HJ.out.mono ?_
  rintro e w1 ⟨rfl, hb⟩
  have HB := Lib.hid hb
  clear hb HJ
  go_wp2_with fail
  go_ret
  exact ⟨by rw [← HT.out]; rfl, HB.out⟩
end Go.Proofs.YtlelfakememckaaGreatDoor

namespace Go.Proofs.YtlelfakememckaaGreatDoor
open Go.RowKit

def stateOf (xs : List (List UInt8)) (slot gen len : Nat) : List UInt8 := (((xs.drop (gen % 2 * slot + 1)).take (secs len)).flatten).take len

theorem flatten_32 : ∀ (xs : List (List UInt8)), (∀ x ∈ xs, x.length = 32) → xs.flatten.length = 32 * xs.length
  | [], _ => rfl
  | x :: r, h => by
    rw [List.flatten_cons, List.length_append, h x List.mem_cons_self, flatten_32 r (fun y hy => h y (List.mem_cons_of_mem _ hy)), List.length_cons]
    omega
theorem Lies.part {w : World} {B : Nat} {g o : Nat} {cs : List Value} (h : Lies w B (some ⟨g, o, none⟩) cs) (k m : Nat) : Lies w B (some ⟨g, o + k, none⟩) ((cs.drop k).take m) := by
  by_cases hn : (cs.drop k).take m = []
  · exact .inl hn
  · have hcs : cs ≠ [] := by rintro rfl; simp at hn
    obtain ⟨b, off, hA, hb, hc⟩ := h.at_ hcs
    simp only [Option.some.injEq, Addr.mk.injEq, and_true] at hA
    obtain ⟨rfl, rfl⟩ := hA
    refine .inr ⟨g, o + k, rfl, hb, fun i hi => ?_⟩
    rw [List.length_take, List.length_drop] at hi
    have := hc (k + i) (by omega)
    rw [List.getElem_take, List.getElem_drop, Nat.add_assoc]
    exact this

theorem Lies.moves6 {w w' : World} {F : Nat → Prop} {A : Option Addr} {cs : List Value} (h : Lies w w.heap.size A cs) (hm : Moves F w w') (hn : ∀ b off, A = some ⟨b, off, none⟩ → ¬ F b) : Lies w' w'.heap.size A cs := by
  rcases h with h | ⟨b, off, hA, hlt, hc⟩
  · exact .inl h
  · exact .inr ⟨b, off, hA, Nat.lt_of_lt_of_le hlt hm.size, fun i hi => (World.cell?_of_block (a := ⟨b, off + i, none⟩) (hm.block b hlt (hn b off hA))).trans (hc i hi)⟩
end Go.Proofs.YtlelfakememckaaGreatDoor
