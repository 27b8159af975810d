/- For the law SumEnds: a text with its sum behind; bytes in memory, more of them appended. -/
import Derived.Test.YtdhmkcomngbmaaaSumBytes
import Derived.ArgAppend
namespace Go.Proofs.Ytdhmkcomngbmaaa
open Go.RowKit

/-! ### Plain -/

theorem sumRight_cat {l m : List UInt8} (h : m.length = 4) : sumRight (l ++ m) = (crcSum 0 l == dec m) := by
  unfold sumRight
  rw [if_neg (by rw [List.length_append]; omega), show (l ++ m).length - 4 = l.length from by rw [List.length_append]; omega, List.take_left, List.drop_left]

theorem sum_behind (l : List UInt8) : sumRight (l ++ enc 4 (crcSum 0 l)) = true := by
  rw [sumRight_cat (enc_length _ _), dec_enc_of_lt (show crcSum 0 l < 256 ^ 4 from crcSum_lt 0 l), beq_self_eq_true]

theorem sum_behind_turned {l : List UInt8} {k : Nat} {b : UInt8} (hk : k < (l ++ enc 4 (crcSum 0 l)).length) (hb : b ≠ 0) :
    sumRight ((l ++ enc 4 (crcSum 0 l)).set k ((l ++ enc 4 (crcSum 0 l))[k] ^^^ b)) = false := by
  by_cases h : k < l.length
  · have e1 : (l ++ enc 4 (crcSum 0 l))[k] = l[k] := List.getElem_append_left h
    rw [e1, List.set_append_left _ _ h, sumRight_cat (enc_length _ _), dec_enc_of_lt (show crcSum 0 l < 256 ^ 4 from crcSum_lt 0 l), beq_eq_false_iff_ne]
    intro he
    exact hb ((crc_turned h b).1 he)
  · have hl : l.length ≤ k := Nat.le_of_not_lt h
    have hk4 : k - l.length < (enc 4 (crcSum 0 l)).length := by rw [List.length_append] at hk; omega
    have e1 : (l ++ enc 4 (crcSum 0 l))[k] = (enc 4 (crcSum 0 l))[k - l.length] := List.getElem_append_right hl
    rw [e1, List.set_append_right _ _ hl, sumRight_cat (by rw [List.length_set, enc_length]), beq_eq_false_iff_ne]
    intro he
    have h2 : dec ((enc 4 (crcSum 0 l)).set (k - l.length) ((enc 4 (crcSum 0 l))[k - l.length] ^^^ b)) = dec (enc 4 (crcSum 0 l)) := by
      rw [← he, dec_enc_of_lt (show crcSum 0 l < 256 ^ 4 from crcSum_lt 0 l)]
    have h3 := congrArg (enc 4) h2
    have e4 : ∀ m : List UInt8, m.length = 4 → enc 4 (dec m) = m := fun m hm => by rw [← hm, enc_dec]
    rw [e4 _ (by rw [List.length_set, enc_length]), e4 _ (enc_length _ _)] at h3
    have h4 : ((enc 4 (crcSum 0 l)).set (k - l.length) ((enc 4 (crcSum 0 l))[k - l.length] ^^^ b))[k - l.length]? = (enc 4 (crcSum 0 l))[k - l.length]? := by rw [h3]
    rw [List.getElem?_set_self hk4, List.getElem?_eq_getElem hk4, Option.some.injEq, xor_same_iff] at h4
    exact hb h4

/-! ### Memory -/

/-- The first n cells of block g are there, and may be written. -/
def Room (w : World) (g n : Nat) : Prop := ∀ j, j < n → (w.cell? ⟨g, j, none⟩).isSome = true ∧ w.frozen? ⟨g, j, none⟩ = false

theorem BytesIn.below {B : Nat} {w w' : World} {g : Nat} {l : List UInt8} (h : BytesIn w g l) (hb : Below B w w') (hg : g < B) : BytesIn w' g l := fun j hj => by
  rw [hb.cell (p := ⟨g, j, none⟩) hg, hb.frozen (p := ⟨g, j, none⟩) hg]
  exact h j hj
theorem Room.below {B : Nat} {w w' : World} {g n : Nat} (h : Room w g n) (hb : Below B w w') (hg : g < B) : Room w' g n := fun j hj => by
  rw [hb.cell (p := ⟨g, j, none⟩) hg, hb.frozen (p := ⟨g, j, none⟩) hg]
  exact h j hj

theorem bytesRow_size_eq (s : ByteArray) {cap : Nat} (h : s.size ≤ cap) : (bytesRow s cap).size = cap := by
  unfold bytesRow
  rw [Array.size_append, Array.size_map, Array.size_replicate]
  have : s.data.size = s.size := rfl
  omega

/-- '[]byte(s)': a new block that begins with the text's bytes, its capacity's cells behind. -/
theorem bytes_of_text_room (w : World) (s : ByteArray) : ∃ (cap : Nat) (w' : World),
    (convert 9 88 (.string s)).run Try.prog w = .ok (.slice (some ⟨w.heap.size, 0, none⟩) s.size cap) w' ∧
    BytesIn w' w.heap.size s.data.toList ∧ Room w' w.heap.size cap ∧ Below w.heap.size w w' ∧ w'.heap.size = w.heap.size + 1 := by
  refine ⟨_, _, run_bytes_of_string w 9 88 5 s Try.underlying9 Try.underlying88 Try.underlying5, ?_, ?_, ?_, ?_⟩
  · intro j hj
    have hb := heap_alloc_new w.drew (.cells (bytesRow s (grownCap w s.size 0 5)) 5 ((bytesRow s (grownCap w s.size 0 5)).size, (bytesRow s (grownCap w s.size 0 5)).size + 1))
    have hl : j < s.size := by rw [list_length] at hj; exact hj
    have hz := bytesRow_size s (grownCap w s.size 0 5)
    constructor
    · rw [← bytesRow_at s _ j hj]
      exact Lib.cell_of_heap hb j
    · exact frozen_out hb (by omega)
  · intro j hj
    have hb := heap_alloc_new w.drew (.cells (bytesRow s (grownCap w s.size 0 5)) 5 ((bytesRow s (grownCap w s.size 0 5)).size, (bytesRow s (grownCap w s.size 0 5)).size + 1))
    have hz := bytesRow_size_eq s (grownCap_ge w s.size 0 5)
    constructor
    · have hc := Lib.cell_of_heap hb j
      rw [Array.getElem?_eq_getElem (by rw [hz]; exact hj)] at hc
      exact Option.isSome_iff_exists.2 ⟨_, hc⟩
    · exact frozen_out hb (by rw [hz]; exact hj)
  · exact (Below.refl _ _).drew.alloc (Nat.le_refl _) _
  · show (w.heap.push _).size = _
    simp

theorem Below.setCells {B g : Nat} {a : World} (hB : B ≤ g) : ∀ (vs : List Value) (o : Nat) {w : World}, Below B a w → Below B a (w.setCells g o vs)
  | [], _, _, h => h
  | v :: r, o, _, h => Below.setCells hB r (o + 1) (h.setCell (p := ⟨g, o, none⟩) hB v)

theorem size_setCells (g : Nat) : ∀ (vs : List Value) (o : Nat) (w : World), (w.setCells g o vs).heap.size = w.heap.size
  | [], _, _ => rfl
  | v :: r, o, w => by
    rw [World.setCells, size_setCells g r]
    simp [World.setCell]

def byteVals (l : List UInt8) : List Value := l.map (fun c => Value.int .u8 (c.toNat : Int))
theorem byteVals_length (l : List UInt8) : (byteVals l).length = l.length := by simp [byteVals]
theorem byteVals_get {l : List UInt8} {j : Nat} {u : Value} (h : (byteVals l)[j]? = some u) : ∃ hj : j < l.length, u = .int .u8 (l[j].toNat : Int) := by
  have hj : j < l.length := by
    have := (List.getElem?_eq_some_iff.1 h).1
    rwa [byteVals_length] at this
  refine ⟨hj, ?_⟩
  simp [byteVals, List.getElem?_eq_getElem hj] at h
  exact h.symm
theorem byteVals_at {l : List UInt8} {j : Nat} (h : j < (byteVals l).length) : (byteVals l)[j] = .int .u8 (l[j]'(by rw [byteVals_length] at h; exact h)).toNat := by simp [byteVals]
theorem byteVals_one (l : List UInt8) : ∀ u ∈ byteVals l, u.oneCell' = true := by
  intro u hu
  obtain ⟨c, _, rfl⟩ := List.mem_map.1 hu
  rfl

theorem Try.infoOfByte : ∃ i, Try.prog.info? 5 = some i ∧ i.zero = some (.int .u8 0) ∧ i.size = 1 ∧ i.bytes = 1 := by
  have h : (Try.prog.info? 5).map (fun i => (i.zero, i.size, i.bytes)) = some (some (.int .u8 0), 1, 1) := by kernel_rfl
  cases hq : Try.prog.info? 5 with
  | none => simp [hq] at h
  | some i =>
    simp [hq] at h
    exact ⟨i, rfl, h.1, h.2.1, h.2.2⟩

/-- 'append(b, m..)': the bytes l of block g, with m behind, in that block or in a new one. -/
theorem append_bytes {w : World} {g cap g2 c B : Nat} {l m : List UInt8} (hl : BytesIn w g l) (hr : Room w g cap) (hm : BytesIn w g2 m) (hB : B ≤ g) (hg : g < w.heap.size) (_hpos : 0 < m.length) (hsz : l.length + m.length ≤ 140737488355328) (ty : TypeId) :
    ∃ g' cap' w', (Builtin.append_ #[88, 88] ty #[.slice (some ⟨g, 0, none⟩) l.length cap, .slice (some ⟨g2, 0, none⟩) m.length c]).run Try.prog w = .ok (.slice (some ⟨g', 0, none⟩) (l.length + m.length) cap') w' ∧
      BytesIn w' g' (l ++ m) ∧ B ≤ g' ∧ g' < w'.heap.size ∧ Below B w w' := by
  obtain ⟨i, hi, hz, hs1, hb1⟩ := Try.infoOfByte
  have hold : ∀ j u, (byteVals l)[j]? = some u → w.cell? ((⟨g, 0, none⟩ : Addr).add j) = some u := fun j u hu => by
    obtain ⟨hj, rfl⟩ := byteVals_get hu
    rw [WideShapes.add_plain, Nat.zero_add]
    exact (hl j hj).1
  have hnew : ∀ j u, (byteVals m)[j]? = some u → w.cell? ((⟨g2, 0, none⟩ : Addr).add j) = some u := fun j u hu => by
    obtain ⟨hj, rfl⟩ := byteVals_get hu
    rw [WideShapes.add_plain, Nat.zero_add]
    exact (hm j hj).1
  by_cases hroom : l.length + m.length ≤ cap
  · have hc : ∀ j, j < (byteVals m).length → (w.cell? ⟨g, 0 + l.length * i.size + j, none⟩).isSome = true ∧ w.frozen? ⟨g, 0 + l.length * i.size + j, none⟩ = false := fun j hj => by
      rw [byteVals_length] at hj
      rw [hs1]
      exact hr _ (by omega)
    have hrun := run_append_room_cells (P := Try.prog) w 88 ty 5 i Try.underlying88 hi g 0 l.length cap ⟨g2, 0, none⟩ m.length c (byteVals m) (by rw [byteVals_length, hs1]; omega) hnew (byteVals_one m) hroom (fun j hj => (hc j hj).1) (fun j hj => (hc j hj).2)
    refine ⟨g, cap, _, hrun, ?_, hB, by rw [size_setCells]; exact hg, Below.setCells hB _ _ (Below.refl _ _)⟩
    rw [hs1, Nat.zero_add, Nat.mul_one]
    rw [hs1, Nat.zero_add, Nat.mul_one] at hc
    intro j hj
    rw [List.length_append] at hj
    rw [World.frozen?_setCells]
    by_cases h : j < l.length
    · rw [World.cell?_setCells_out g _ _ _ _ (fun _ _ => Or.inl h), List.getElem_append_left h]
      exact hl j h
    · obtain ⟨q, rfl⟩ : ∃ q, j = l.length + q := ⟨j - l.length, by omega⟩
      have hq : q < (byteVals m).length := by rw [byteVals_length]; omega
      refine ⟨?_, (hc q hq).2⟩
      rw [World.cell?_setCells_in g _ _ _ (fun x hx => (hc x hx).1) q hq, byteVals_at hq, List.getElem_append_right (by omega)]
      simp only [Nat.add_sub_cancel_left]
  · obtain ⟨v', w', hrun, hown, hgr⟩ := run_append_arg_grows (P := Try.prog) w 88 ty 5 i (.int .u8 0) 1 1 Try.underlying88 hi hz hs1 hb1 rfl (by omega) ⟨g, 0, none⟩ l.length cap (byteVals l) (by rw [byteVals_length]; omega) hold ⟨g2, 0, none⟩ m.length c (byteVals m) (by rw [byteVals_length]; omega) hnew (by omega) (by unfold maxLen; omega) (by omega)
    rcases hown.2 with ⟨_, h0⟩ | ⟨g', cap', cur, rfl, hge, hheap, _, _, _, htake⟩
    · omega
    · refine ⟨g', cap', w', hrun, ?_, by omega, (Array.getElem?_eq_some_iff.1 hheap).1, ⟨hgr.os, hgr.tape, hgr.output, hgr.size, fun k hk => hgr.block k (by omega) (by simp)⟩⟩
      intro j hj
      refine ⟨?_, Lib.frozen_of_heap hheap j⟩
      rw [Lib.cell_of_heap hheap j]
      have e : byteVals l ++ byteVals m = byteVals (l ++ m) := by simp [byteVals]
      rw [e, Nat.mul_one] at htake
      have h1 : (cur.toList.take (l.length + m.length))[j]? = some (.int .u8 ((l ++ m)[j].toNat : Int)) := by
        rw [htake, List.getElem?_eq_getElem (by rw [byteVals_length]; exact hj), byteVals_at]
      rw [List.getElem?_take_of_lt (by rw [List.length_append] at hj; exact hj)] at h1
      simpa using h1

/-- append, what it answers known. -/
theorem wpList_append_known {P : Program} {w : World} {ops : Array Oper} {rest : List Oper} {o : Oper} {a : Act} {Q : Exit → Act → World → Prop} (hg : o.guard = none) (s x : Operand) (t : TypeId)
    (hop : o.op = Op.call { callee := Callee.builtin Builtin.append, args := #[s, x], argTypes := #[t, t] }) {v1 v2 v' : Value} {w' : World} (hs : a.eval s = v1) (hx : a.eval x = v2)
    (hrun : (Builtin.append_ #[t, t] o.type #[v1, v2]).run P w = .ok v' w') (h : wpList P ops Q rest (a.put o.dst v') w') : wpList P ops Q (o :: rest) a w := by
  refine wpList_plain hg fun K hK' => ?_
  unfold Oper.wp
  simp [execOp, hop, resolve, invoke, builtin, hs, hx, hrun, Result.andThen]
  exact hK' _ _ h

end Go.Proofs.Ytdhmkcomngbmaaa
