/- Bytes that lie in a block of memory: made of a text, one of them turned, made into a text again. No function of the program. (A part of stage 2's text on bytes, for seats that reach no sum.) -/
import Derived.Test.YtkpoeigoocbgeaaRows
import Derived.Test.YtkpoeigoocbgeaaPlain
import Derived.Test.YtkpoeigoocbgeaaMem
import Derived.Laws.IdiomStrings
import Derived.Laws.BitsAllLaws
import Derived.OpenShut
namespace Go.Proofs.Ytkpoeigoocbgeaa
open Go.RowKit


theorem byte_of {n : Int} (h : (Lit.int .u8 n).wf = true) : ∃ b : UInt8, n = ((b.toNat : Nat) : Int) := by
  have hb := bounds_u8 h
  refine ⟨UInt8.ofNat n.toNat, ?_⟩
  rw [UInt8.toNat_ofNat']
  omega

/-- The first cells of block g are the bytes l, and may be written. -/
def BytesIn (w : World) (g : Nat) (l : List UInt8) : Prop :=
  ∀ j (h : j < l.length), w.cell? ⟨g, j, none⟩ = some (.int .u8 (l[j].toNat : Int)) ∧ w.frozen? ⟨g, j, none⟩ = false

theorem bytesRow_at (s : ByteArray) (cap j : Nat) (h : j < s.data.toList.length) : (bytesRow s cap)[j]? = some (.int .u8 (s.data.toList[j].toNat : Int)) := by
  have h2 : j < s.data.size := by simpa using h
  unfold bytesRow
  rw [Array.getElem?_append_left (by simpa using h2), Array.getElem?_map, Array.getElem?_eq_getElem h2]
  simp

theorem bytesRow_size (s : ByteArray) (cap : Nat) : s.size ≤ (bytesRow s cap).size := by
  unfold bytesRow
  rw [Array.size_append, Array.size_map]
  have : s.data.size = s.size := rfl
  omega

theorem frozen_out {w : World} {g j n : Nat} {cs : Array Value} {t : TypeId} (hb : w.heap[g]? = some (.cells cs t (n, n + 1))) (h : j < n) : w.frozen? ⟨g, j, none⟩ = false := by
  simp only [World.frozen?, hb]
  simp
  omega

/-- '[]byte(s)': a new block that begins with the text's bytes. -/
theorem bytes_of_text (w : World) (s : ByteArray) : ∃ (cap : Nat) (w' : World),
    (convert 9 67 (.string s)).run Try.prog w = .ok (.slice (some ⟨w.heap.size, 0, none⟩) s.size cap) w' ∧
    BytesIn w' w.heap.size s.data.toList ∧ Below w.heap.size w w' ∧ w'.heap.size = w.heap.size + 1 := by
  refine ⟨_, _, run_bytes_of_string w 9 67 5 s Try.underlying9 Try.underlying67 Try.underlying5, ?_, ?_, ?_⟩
  · intro j hj
    have hb := heap_alloc_new w.drew (.cells (bytesRow s (grownCap w s.size 0 5)) 5 ((bytesRow s (grownCap w s.size 0 5)).size, (bytesRow s (grownCap w s.size 0 5)).size + 1))
    have hl : j < s.size := by rw [list_length] at hj; exact hj
    have hz := bytesRow_size s (grownCap w s.size 0 5)
    constructor
    · rw [← bytesRow_at s _ j hj]
      exact Lib.cell_of_heap hb j
    · exact frozen_out hb (by omega)
  · exact (Below.refl _ _).drew.alloc (Nat.le_refl _) _
  · show (w.heap.push _).size = _
    simp

/-- One byte stored. -/
theorem BytesIn.set {w : World} {g : Nat} {l : List UInt8} (h : BytesIn w g l) (k : Nat) (c : UInt8) : BytesIn (w.setCell ⟨g, k, none⟩ (.int .u8 (c.toNat : Int))) g (l.set k c) := by
  intro j hj
  have hj' : j < l.length := by simpa using hj
  obtain ⟨h1, h2⟩ := h j hj'
  constructor
  · by_cases e : k = j
    · subst e
      rw [List.getElem_set_self]
      exact World.cell?_setCell_same _ _ _ h1
    · rw [List.getElem_set_ne e, World.cell?_setCell_other _ _ _ _ (by intro q; injection q; omega)]
      exact h1
  · rw [World.frozen?_setCell]
    exact h2

/-- 'string(b)' of such bytes. -/
theorem text_of_bytes {w : World} {g : Nat} {l : List UInt8} (h : BytesIn w g l) (cap : Nat) :
    (convert 67 9 (.slice (some ⟨g, 0, none⟩) l.length cap)).run Try.prog w = .ok (.string (str l)) w :=
  run_convert_bytes_back (P := Try.prog) w 67 9 5 ⟨g, 0, none⟩ cap l Try.underlying67 Try.underlying5 Try.underlying9 (fun j hj => by
    rw [WideShapes.add_plain, Nat.zero_add]
    exact (h j hj).1)

/-! ### A turned byte -/

theorem u8_turn (a b : UInt8) : bits BinOp.xor IntKind.u8 ((a.toNat : Nat) : Int) ((b.toNat : Nat) : Int) = (((a ^^^ b).toNat : Nat) : Int) := by
  rw [UInt8.toNat_xor]
  exact u8_xor_nat a.toNat b.toNat a.toNat_lt b.toNat_lt

theorem xor_same_iff (a b : UInt8) : a ^^^ b = a ↔ b = 0 := by
  constructor
  · intro h
    have h2 := congrArg (a ^^^ ·) h
    have h3 : a ^^^ (a ^^^ b) = b := by rw [← UInt8.xor_assoc, UInt8.xor_self, UInt8.zero_xor]
    simp only [h3, UInt8.xor_self] at h2
    exact h2
  · intro h; rw [h, UInt8.xor_zero]

theorem set_parts {l : List UInt8} {k : Nat} (h : k < l.length) (c : UInt8) : l.set k c = l.take k ++ [c] ++ l.drop (k + 1) := by
  rw [List.set_eq_take_append_cons_drop, if_pos h, List.append_assoc]
  rfl
theorem list_parts {l : List UInt8} {k : Nat} (h : k < l.length) : l = l.take k ++ [l[k]] ++ l.drop (k + 1) := by
  rw [List.append_assoc, List.singleton_append, List.getElem_cons_drop, List.take_append_drop]
end Go.Proofs.Ytkpoeigoocbgeaa
