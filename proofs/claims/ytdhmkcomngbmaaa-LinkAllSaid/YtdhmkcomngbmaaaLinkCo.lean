/- The contract of (*ends).comes: a packet comes to its end. -/
import Derived.Test.YtdhmkcomngbmaaaLinkQ
namespace Go.Proofs.Ytdhmkcomngbmaaa
open Go.RowKit

theorem five_new1 (w : World) (a b c d : Value) {t : TypeId} (a' b' c' d' e' : Value) (t' : TypeId) : Five ((w.alloc (.cells #[a, b, c, d] t (0, 0))).alloc (.cells #[a', b', c', d', e'] t' (0, 0))) (w.heap.size + 1) a' b' c' d' e' t' := by
  have h := Five.new (w.alloc (.cells #[a, b, c, d] t (0, 0))) a' b' c' d' e' t'
  rw [show (w.alloc (.cells #[a, b, c, d] t (0, 0))).heap.size = w.heap.size + 1 from by simp] at h
  exact h
theorem quad_new1 (w : World) (a b c d e : Value) {t : TypeId} (a' b' c' d' : Value) (t' : TypeId) : Quad ((w.alloc (.cells #[a, b, c, d, e] t (0, 0))).alloc (.cells #[a', b', c', d'] t' (0, 0))) (w.heap.size + 1) a' b' c' d' t' := by
  have h := Quad.new (w.alloc (.cells #[a, b, c, d, e] t (0, 0))) a' b' c' d' t'
  rw [show (w.alloc (.cells #[a, b, c, d, e] t (0, 0))).heap.size = w.heap.size + 1 from by simp] at h
  exact h

theorem Strs.lower {w : World} {B B' : Nat} {A : Option Addr} {xs : List (List UInt8)} (h : Strs w B A xs) (hb : ∀ a, A = some a → a.block < B') : Strs w B' A xs := by
  rcases h with h | ⟨b, off, hA, _, hc⟩
  · exact .inl h
  · exact .inr ⟨b, off, hA, hb _ hA, hc⟩
def fv (y : LEnd) (A : Option Addr) (c : Nat) (w : World) (K : Nat) : Prop := Five w K (.int .i64 y.ep) (.int .i64 y.ot) (.int .i64 y.fi) (.slice A y.out.length c) (.int .i64 y.wa) 24
theorem heap_endSet_far (w : World) {H b : Nat} (h : b ≠ H) (o0 o1 o2 o3 o4 : Nat) (y : LEnd) (A : Option Addr) (c : Nat) : (endSet w H o0 o1 o2 o3 o4 y A c).heap[b]? = w.heap[b]? := by
  unfold Go.Proofs.Ytdhmkcomngbmaaa.endSet
  rw [Below.heap_setCell _ _ _ _ h, Below.heap_setCell _ _ _ _ h, Below.heap_setCell _ _ _ _ h, Below.heap_setCell _ _ _ _ h, Below.heap_setCell _ _ _ _ h]
def qd (k : CameL) (w : World) (K : Nat) : Prop := Quad w K (.string (str k.piece)) (.bool k.has) (.string (str k.reply)) (.bool k.anew) 42
theorem qd.endSet {k : CameL} {w : World} {K : Nat} (h : qd k w K) {H : Nat} (hK : K ≠ H) (o0 o1 o2 o3 o4 : Nat) (y : LEnd) (A : Option Addr) (c : Nat) : qd k (endSet w H o0 o1 o2 o3 o4 y A c) K :=
  ⟨(heap_endSet_far w hK o0 o1 o2 o3 o4 y A c).trans h.blk⟩
theorem qd.c0 {k : CameL} {w : World} {K : Nat} (h : qd k w K) : w.cell? ⟨K, 0, none⟩ = some (.string (str k.piece)) := Quad.c0 h
theorem qd.c1 {k : CameL} {w : World} {K : Nat} (h : qd k w K) : w.cell? ⟨K, 1, none⟩ = some (.bool k.has) := Quad.c1 h
theorem qd.c2 {k : CameL} {w : World} {K : Nat} (h : qd k w K) : w.cell? ⟨K, 2, none⟩ = some (.string (str k.reply)) := Quad.c2 h
/-- What lies in memory once a packet was taken. -/
structure CoAt (A : Option Addr) (V wx : World) (y : LEnd) (k : CameL) (A9 : Option Addr) (c9 K4 K5 : Nat) : Prop where
  e : fv y A9 c9 wx K4
  c : qd k wx K5
  st : Strs wx V.heap.size A9 y.out
  nn : A9 = none → c9 = 0
  cc : y.out.length ≤ c9
  bel : Below V.heap.size V wx
  sr : ∀ N, Src N A A9
  k4 : V.heap.size ≤ K4
  k5 : V.heap.size ≤ K5
section
variable {A A9 : Option Addr} {V w9 : World} {y : LEnd} {k : CameL} {c9 : Nat}
/-- .. at the call's end. -/
structure CoCall (A : Option Addr) (V w9 : World) (y : LEnd) (A9 : Option Addr) (c9 : Nat) : Prop where
  st : Strs w9 V.heap.size A9 y.out
  nn : A9 = none → c9 = 0
  cc : y.out.length ≤ c9
  bel : Below V.heap.size V w9
  sr : ∀ N, Src N A A9
theorem CoCall.mk_ (hs : Strs w9 w9.heap.size A9 y.out) (hn : A9 = none → c9 = 0) (hc : y.out.length ≤ c9) (hb : Below V.heap.size V w9) (hsr : ∀ N, Src N A A9) (hA : ∀ a, A = some a → a.block < V.heap.size) : CoCall A V w9 y A9 c9 :=
  ⟨hs.lower (fun a ha => by
    rcases hsr (a.block + 1) a ha with h | ⟨a', e1, e2⟩
    · omega
    · have := hA a' e1; omega), hn, hc, hb, hsr⟩
theorem CoCall.at_ (h : CoCall A V w9 y A9 c9) {wx : World} {K4 K5 : Nat} (hx : Below V.heap.size w9 wx) (he : fv y A9 c9 wx K4) (hc : qd k wx K5) (h4 : V.heap.size ≤ K4) (h5 : V.heap.size ≤ K5) : CoAt A V wx y k A9 c9 K4 K5 :=
  ⟨he, hc, h.st.below hx, h.nn, h.cc, h.bel.trans hx, h.sr, h4, h5⟩
theorem CoCall.w1 (h : CoCall A V w9 y A9 c9) : CoAt A V ((w9.alloc (.cells #[.int .i64 y.ep, .int .i64 y.ot, .int .i64 y.fi, .slice A9 y.out.length c9, .int .i64 y.wa] 24)).alloc (.cells #[.string (str k.piece), .bool k.has, .string (str k.reply), .bool k.anew] 42)) y k A9 c9 w9.heap.size (w9.heap.size + 1) :=
  h.at_ ((below_news w9 _ _).mono h.bel.size) ((Five.new w9 _ _ _ _ _ _).below (below_one _ _)) (quad_new1 w9 _ _ _ _ _ _ _ _ _ _) h.bel.size (Nat.le_succ_of_le h.bel.size)
theorem CoCall.w2 (h : CoCall A V w9 y A9 c9) : CoAt A V ((w9.alloc (.cells #[.string (str k.piece), .bool k.has, .string (str k.reply), .bool k.anew] 42)).alloc (.cells #[.int .i64 y.ep, .int .i64 y.ot, .int .i64 y.fi, .slice A9 y.out.length c9, .int .i64 y.wa] 24)) y k A9 c9 (w9.heap.size + 1) w9.heap.size :=
  h.at_ ((below_news w9 _ _).mono h.bel.size) (five_new1 w9 _ _ _ _ _ _ _ _ _ _) ((Quad.new w9 _ _ _ _ _).below (below_one _ _)) (Nat.le_succ_of_le h.bel.size) h.bel.size
theorem CoCall.w3 (h : CoCall A V w9 y A9 c9) {a b c d e : Value} (hf : Five w9 V.heap.size a b c d e 24) : CoAt A V ((fiveSet w9 V.heap.size (.int .i64 y.ep) (.int .i64 y.ot) (.int .i64 y.fi) (.slice A9 y.out.length c9) (.int .i64 y.wa)).alloc (.cells #[.string (str k.piece), .bool k.has, .string (str k.reply), .bool k.anew] 42)) y k A9 c9 V.heap.size w9.heap.size := by
  have e : (fiveSet w9 V.heap.size (.int .i64 y.ep) (.int .i64 y.ot) (.int .i64 y.fi) (.slice A9 y.out.length c9) (.int .i64 y.wa)).heap.size = w9.heap.size := by simp [fiveSet, World.setCell]
  refine h.at_ ((below_five (Below.refl _ _) (Nat.le_refl _) _ _ _ _ _).alloc (by rw [e]; exact h.bel.size) _) ((hf.set _ _ _ _ _).below (below_one _ _)) ?_ (Nat.le_refl _) h.bel.size
  have := Quad.new (fiveSet w9 V.heap.size (.int .i64 y.ep) (.int .i64 y.ot) (.int .i64 y.fi) (.slice A9 y.out.length c9) (.int .i64 y.wa)) (.string (str k.piece)) (.bool k.has) (.string (str k.reply)) (.bool k.anew) 42
  rw [e] at this
  exact this
theorem CoCall.w4 (h : CoCall A V w9 y A9 c9) {a b c d e a' b' c' d' : Value} (hf : Five w9 V.heap.size a b c d e 24) (hq : Quad w9 (V.heap.size + 1) a' b' c' d' 42) : CoAt A V (quadSet (fiveSet w9 V.heap.size (.int .i64 y.ep) (.int .i64 y.ot) (.int .i64 y.fi) (.slice A9 y.out.length c9) (.int .i64 y.wa)) (V.heap.size + 1) (.string (str k.piece)) (.bool k.has) (.string (str k.reply)) (.bool k.anew)) y k A9 c9 V.heap.size (V.heap.size + 1) :=
  h.at_ (below_quad (below_five (Below.refl _ _) (Nat.le_refl _) _ _ _ _ _) (Nat.le_succ _) _ _ _ _) ((hf.set _ _ _ _ _).farQuad (by omega) _ _ _ _) ((hq.farSet (by omega) _ _ _ _ _).set _ _ _ _) (Nat.le_refl _) (Nat.le_succ _)
theorem CoCall.w5 (h : CoCall A V w9 y A9 c9) {a' b' c' d' : Value} (hq : Quad w9 V.heap.size a' b' c' d' 42) : CoAt A V ((quadSet w9 V.heap.size (.string (str k.piece)) (.bool k.has) (.string (str k.reply)) (.bool k.anew)).alloc (.cells #[.int .i64 y.ep, .int .i64 y.ot, .int .i64 y.fi, .slice A9 y.out.length c9, .int .i64 y.wa] 24)) y k A9 c9 w9.heap.size V.heap.size := by
  have e : (quadSet w9 V.heap.size (.string (str k.piece)) (.bool k.has) (.string (str k.reply)) (.bool k.anew)).heap.size = w9.heap.size := by simp [quadSet, World.setCell]
  refine h.at_ ((below_quad (Below.refl _ _) (Nat.le_refl _) _ _ _ _).alloc (by rw [e]; exact h.bel.size) _) ?_ ((hq.set _ _ _ _).below (below_one _ _)) h.bel.size (Nat.le_refl _)
  have := Five.new (quadSet w9 V.heap.size (.string (str k.piece)) (.bool k.has) (.string (str k.reply)) (.bool k.anew)) (.int .i64 y.ep) (.int .i64 y.ot) (.int .i64 y.fi) (.slice A9 y.out.length c9) (.int .i64 y.wa) 24
  rw [e] at this
  exact this
theorem CoCall.w6 (h : CoCall A V w9 y A9 c9) {a b c d e a' b' c' d' : Value} (hf : Five w9 (V.heap.size + 1) a b c d e 24) (hq : Quad w9 V.heap.size a' b' c' d' 42) : CoAt A V (quadSet (fiveSet w9 (V.heap.size + 1) (.int .i64 y.ep) (.int .i64 y.ot) (.int .i64 y.fi) (.slice A9 y.out.length c9) (.int .i64 y.wa)) V.heap.size (.string (str k.piece)) (.bool k.has) (.string (str k.reply)) (.bool k.anew)) y k A9 c9 (V.heap.size + 1) V.heap.size :=
  h.at_ (below_quad (below_five (Below.refl _ _) (Nat.le_succ _) _ _ _ _ _) (Nat.le_refl _) _ _ _ _) ((hf.set _ _ _ _ _).farQuad (by omega) _ _ _ _) ((hq.farSet (by omega) _ _ _ _ _).set _ _ _ _) (Nat.le_succ _) (Nat.le_refl _)
end
end Go.Proofs.Ytdhmkcomngbmaaa
