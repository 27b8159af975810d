/- The contract of Take of the package link. -/
import Derived.Test.YtdhmkcomngbmaaaLinkF
namespace Go.Proofs.Ytdhmkcomngbmaaa
open Go.RowKit

/-- A block of four cells. -/
structure Quad (w : World) (H : Nat) (a b c d : Value) (ty : TypeId) : Prop where
  blk : w.heap[H]? = some (.cells #[a, b, c, d] ty (0, 0))
def quadSet (w : World) (H : Nat) (a b c d : Value) : World := (((w.setCell ⟨H, 0, none⟩ a).setCell ⟨H, 1, none⟩ b).setCell ⟨H, 2, none⟩ c).setCell ⟨H, 3, none⟩ d
section
variable {w w' : World} {H : Nat} {a b c d : Value} {ty : TypeId}
theorem Quad.c0 (h : Quad w H a b c d ty) : w.cell? ⟨H, 0, none⟩ = some a := by rw [Lib.cell_of_heap h.blk]; rfl
theorem Quad.c1 (h : Quad w H a b c d ty) : w.cell? ⟨H, 1, none⟩ = some b := by rw [Lib.cell_of_heap h.blk]; rfl
theorem Quad.c2 (h : Quad w H a b c d ty) : w.cell? ⟨H, 2, none⟩ = some c := by rw [Lib.cell_of_heap h.blk]; rfl
theorem Quad.c3 (h : Quad w H a b c d ty) : w.cell? ⟨H, 3, none⟩ = some d := by rw [Lib.cell_of_heap h.blk]; rfl
theorem Quad.fr (h : Quad w H a b c d ty) (j : Nat) : w.frozen? ⟨H, j, none⟩ = false := Lib.frozen_of_heap h.blk j
theorem Quad.lt (h : Quad w H a b c d ty) : H < w.heap.size := heap_lt h.blk
theorem Quad.set (h : Quad w H a b c d ty) (a' b' c' d' : Value) : Quad (quadSet w H a' b' c' d') H a' b' c' d' ty := ⟨row_set (row_set (row_set (row_set h.blk 0 _) 1 _) 2 _) 3 _⟩
theorem Quad.set0 (h : Quad w H a b c d ty) (u : Value) : Quad (w.setCell ⟨H, 0, none⟩ u) H u b c d ty := ⟨row_set h.blk 0 _⟩
theorem Quad.set1 (h : Quad w H a b c d ty) (u : Value) : Quad (w.setCell ⟨H, 1, none⟩ u) H a u c d ty := ⟨row_set h.blk 1 _⟩
theorem Quad.set2 (h : Quad w H a b c d ty) (u : Value) : Quad (w.setCell ⟨H, 2, none⟩ u) H a b u d ty := ⟨row_set h.blk 2 _⟩
theorem Quad.far (h : Quad w H a b c d ty) {p : Addr} (hp : H ≠ p.block) (v : Value) : Quad (w.setCell p v) H a b c d ty := ⟨(Below.heap_setCell _ _ _ _ hp).trans h.blk⟩
theorem Quad.farSet (h : Quad w H a b c d ty) {K : Nat} (hp : H ≠ K) (a' b' c' d' e' : Value) : Quad (fiveSet w K a' b' c' d' e') H a b c d ty :=
  ((((h.far (p := ⟨K, 0, none⟩) hp _).far (p := ⟨K, 1, none⟩) hp _).far (p := ⟨K, 2, none⟩) hp _).far (p := ⟨K, 3, none⟩) hp _).far (p := ⟨K, 4, none⟩) hp _
theorem Quad.new (w : World) (a b c d : Value) (ty : TypeId) : Quad (w.alloc (.cells #[a, b, c, d] ty (0, 0))) w.heap.size a b c d ty := ⟨heap_new _ _⟩
theorem Quad.below (h : Quad w H a b c d ty) (hb : Below w.heap.size w w') : Quad w' H a b c d ty := ⟨(hb.block H h.lt).trans h.blk⟩
theorem Quad.drew (h : Quad w H a b c d ty) : Quad w.drew H a b c d ty := ⟨h.blk⟩
theorem Quad.all (h : Quad w H a b c d ty) : w.cell? ⟨H, 0, none⟩ = some a ∧ w.cell? ⟨H, 1, none⟩ = some b ∧ w.cell? ⟨H, 2, none⟩ = some c ∧ w.cell? ⟨H, 3, none⟩ = some d := ⟨h.c0, h.c1, h.c2, h.c3⟩
end
theorem Five.farQuad {w : World} {H : Nat} {a b c d e : Value} {ty : TypeId} (h : Five w H a b c d e ty) {K : Nat} (hp : H ≠ K) (a' b' c' d' : Value) : Five (quadSet w K a' b' c' d') H a b c d e ty :=
  (((h.far (p := ⟨K, 0, none⟩) hp _).far (p := ⟨K, 1, none⟩) hp _).far (p := ⟨K, 2, none⟩) hp _).far (p := ⟨K, 3, none⟩) hp _
theorem below_quad {B : Nat} {w w' : World} {H : Nat} (h : Below B w w') (hp : B ≤ H) (a b c d : Value) : Below B w (quadSet w' H a b c d) :=
  (((h.setCell (p := ⟨H, 0, none⟩) hp _).setCell (p := ⟨H, 1, none⟩) hp _).setCell (p := ⟨H, 2, none⟩) hp _).setCell (p := ⟨H, 3, none⟩) hp _

theorem str_none : str [] = ⟨#[]⟩ := rfl
theorem lat_bel {B : Nat} {w : World} (h : B ≤ w.heap.size) (z : LatW w) : Below B w z.wd := z.bel.mono h
/-- What lies in memory while a packet is taken: the end's block, the answers'. -/
structure TkAt (w wd : World) (a b c d e : Value) : Prop where
  p : Five wd w.heap.size a b c d e 24
  e : Five wd (w.heap.size + 1) (.int .i64 0) (.int .i64 0) (.int .i64 0) (.slice none 0 0) (.int .i64 0) 24
  f : Quad wd (w.heap.size + 2) (.string ⟨#[]⟩) (.bool false) (.string ⟨#[]⟩) (.bool false) 42
  bel : Below w.heap.size w wd
section
variable {w wd w' : World} {a b c d e : Value}
theorem TkAt.later (h : TkAt w wd a b c d e) (hb : Below wd.heap.size wd w') : TkAt w w' a b c d e := ⟨h.p.below hb, h.e.below hb, h.f.below hb, h.bel.trans (hb.mono h.bel.size)⟩
theorem TkAt.setP (h : TkAt w wd a b c d e) (a' b' c' d' e' : Value) : TkAt w (fiveSet wd w.heap.size a' b' c' d' e') a' b' c' d' e' :=
  ⟨h.p.set _ _ _ _ _, h.e.farSet (by omega) _ _ _ _ _, h.f.farSet (by omega) _ _ _ _ _, below_five h.bel (Nat.le_refl _) _ _ _ _ _⟩
theorem TkAt.set4 (h : TkAt w wd a b c d e) (u : Value) : TkAt w (wd.setCell ⟨w.heap.size, 4, none⟩ u) a b c d u :=
  ⟨h.p.set4 _, h.e.far (p := ⟨w.heap.size, 4, none⟩) (by show w.heap.size + 1 ≠ w.heap.size; omega) _, h.f.far (p := ⟨w.heap.size, 4, none⟩) (by show w.heap.size + 2 ≠ w.heap.size; omega) _, h.bel.setCell (p := ⟨w.heap.size, 4, none⟩) (Nat.le_refl _) _⟩
theorem TkAt.far (h : TkAt w wd a b c d e) {K j : Nat} (hK : w.heap.size + 2 < K) (u : Value) : TkAt w (wd.setCell ⟨K, j, none⟩ u) a b c d e :=
  ⟨h.p.far (p := ⟨K, j, none⟩) (by show w.heap.size ≠ K; omega) _, h.e.far (p := ⟨K, j, none⟩) (by show w.heap.size + 1 ≠ K; omega) _, h.f.far (p := ⟨K, j, none⟩) (by show w.heap.size + 2 ≠ K; omega) _, h.bel.setCell (p := ⟨K, j, none⟩) (by show w.heap.size ≤ K; omega) _⟩
theorem TkAt.lat (h : TkAt w wd a b c d e) (z : LatW wd) : TkAt w z.wd a b c d e := h.later z.bel
theorem TkAt.start (w : World) (a b c d e : Value) : TkAt w (((w.alloc (.cells #[a, b, c, d, e] 24)).alloc (.cells #[.int .i64 0, .int .i64 0, .int .i64 0, .slice none 0 0, .int .i64 0] 24)).alloc (.cells #[.string ⟨#[]⟩, .bool false, .string ⟨#[]⟩, .bool false] 42)) a b c d e := by
  obtain ⟨h0, h1, hb⟩ := boxes5 w a b c d e (.int .i64 0) (.int .i64 0) (.int .i64 0) (.slice none 0 0) (.int .i64 0) 24 24 (below_one _ (.cells #[.string ⟨#[]⟩, .bool false, .string ⟨#[]⟩, .bool false] 42))
  have h2 := Quad.new ((w.alloc (.cells #[a, b, c, d, e] 24)).alloc (.cells #[.int .i64 0, .int .i64 0, .int .i64 0, .slice none 0 0, .int .i64 0] 24)) (.string ⟨#[]⟩) (.bool false) (.string ⟨#[]⟩) (.bool false) 42
  rw [show ((w.alloc (.cells #[a, b, c, d, e] 24)).alloc (.cells #[.int .i64 0, .int .i64 0, .int .i64 0, .slice none 0 0, .int .i64 0] 24)).heap.size = w.heap.size + 2 from by simp] at h2
  exact ⟨h0, h1, h2, hb⟩
/-- The answer's blocks written: what is read there. -/
theorem TkAt.fin (h : TkAt w wd a b c d e) (v0 v1 v2 v3 v4 u0 u1 u2 u3 : Value) :
    Five (quadSet (fiveSet wd (w.heap.size + 1) v0 v1 v2 v3 v4) (w.heap.size + 2) u0 u1 u2 u3) (w.heap.size + 1) v0 v1 v2 v3 v4 24 ∧ Quad (quadSet (fiveSet wd (w.heap.size + 1) v0 v1 v2 v3 v4) (w.heap.size + 2) u0 u1 u2 u3) (w.heap.size + 2) u0 u1 u2 u3 42 ∧ Below w.heap.size w (quadSet (fiveSet wd (w.heap.size + 1) v0 v1 v2 v3 v4) (w.heap.size + 2) u0 u1 u2 u3) :=
  ⟨(h.e.set _ _ _ _ _).farQuad (by omega) _ _ _ _, (h.f.farSet (by omega) _ _ _ _ _).set _ _ _ _, below_quad (below_five h.bel (by omega) _ _ _ _ _) (by omega) _ _ _ _⟩
end

def CameL.val (c : CameL) : Value := .agg #[.string (str c.piece), .bool c.has, .string (str c.reply), .bool c.anew]
/-- What Take leaves. -/
def TakeEnd (r : LEnd × CameL) (w : World) (e : Ending) (w' : World) : Prop := ∃ v, e = .returned (.tuple #[v, r.2.val]) ∧ EndIs r.1 w v w'
/-- .. with where the pieces lie: where they lay, or in a block of the call's own. -/
def TakeEndS (A0 : Option Addr) (r : LEnd × CameL) (w : World) (e : Ending) (w' : World) : Prop := ∃ A c, e = .returned (.tuple #[r.1.val A c, r.2.val]) ∧ Strs w' w'.heap.size A r.1.out ∧ (A = none → c = 0) ∧ r.1.out.length ≤ c ∧ Below w.heap.size w w' ∧ ∀ N, Src N A0 A
theorem TakeEndS.less {A0 : Option Addr} {r : LEnd × CameL} {w : World} {e : Ending} {w' : World} (h : TakeEndS A0 r w e w') : TakeEnd r w e w' := by
  obtain ⟨A, c, h1, h2, h3, h4, h5, _⟩ := h
  exact ⟨_, h1, A, c, rfl, h2, h3, h4, h5⟩
theorem TakeEndS.mk_ {A0 : Option Addr} {y : LEnd} {k : CameL} {r : LEnd × CameL} {w w' : World} {A : Option Addr} {c : Nat} (hr : r = (y, k)) (hs : Strs w' w.heap.size A y.out) (hn : A = none → c = 0) (hc : y.out.length ≤ c) (hb : Below w.heap.size w w') (hsr : ∀ N, Src N A0 A) :
    TakeEndS A0 r w (.returned (.tuple #[y.val A c, k.val])) w' := by
  subst hr
  exact ⟨A, c, rfl, hs.more hb.size, hn, hc, hb, hsr⟩
theorem TakeEnd.mk_ {y : LEnd} {k : CameL} {r : LEnd × CameL} {w w' : World} {A : Option Addr} {c : Nat} (hr : r = (y, k)) (hs : Strs w' w.heap.size A y.out) (hn : A = none → c = 0) (hc : y.out.length ≤ c) (hb : Below w.heap.size w w') :
    TakeEnd r w (.returned (.tuple #[y.val A c, k.val])) w' := by
  subst hr
  exact ⟨_, rfl, A, c, rfl, hs.more hb.size, hn, hc, hb⟩

theorem TakeEndS.mk2 {A0 : Option Addr} {r : LEnd × CameL} {w w' : World} {ep ot fi wa : Int} {out : List (List UInt8)} {pc rp : List UInt8} {has an : Bool} {A : Option Addr} {c : Nat} (hr : r = (⟨ep, ot, fi, wa, out⟩, ⟨pc, has, rp, an⟩)) (hs : Strs w' w.heap.size A out) (hn : A = none → c = 0) (hc : out.length ≤ c) (hb : Below w.heap.size w w') (hsr : ∀ N, Src N A0 A) :
    TakeEndS A0 r w (.returned (.tuple #[.agg #[.int .i64 ep, .int .i64 ot, .int .i64 fi, .slice A out.length c, .int .i64 wa], .agg #[.string (str pc), .bool has, .string (str rp), .bool an]])) w' :=
  TakeEndS.mk_ hr hs hn hc hb hsr

/-! ### The ways of Take, plain -/
section
variable {x : LEnd} {s : List UInt8}
theorem heard_pkt (hp : PktS s) (h1 : 1 ≤ (heardOf s).n0) (h2 : (heardOf s).n0 ≤ 1099511627776) : IsHeard s := ⟨hp.1, hp.2, h1, h2⟩
theorem take_none (h : ¬ PktS s) : takeX x s = (x, CameL.none_) := takeX_no (.inl fun e => h ⟨e.1, e.2.1⟩)
theorem take_far (h : isN (heardOf s).n0 = false) : takeX x s = (x, CameL.none_) := takeX_no (.inl fun e => by
  have : isN (heardOf s).n0 = true := (isN_iff _).2 ⟨by have := e.2.2.1; show (1 : Int) ≤ ((num8 (openB s) 0 : Nat) : Int); omega, by have := e.2.2.2; show ((num8 (openB s) 0 : Nat) : Int) ≤ _; omega⟩
  rw [h] at this; cases this)
theorem take_old (h : ((heardOf s).n0 : Int) < x.ot) : takeX x s = (x, CameL.none_) := takeX_no (.inr h)
theorem take_on (hp : PktS s) (h1 : isN (heardOf s).n0 = true) (h2 : ¬ ((heardOf s).n0 : Int) < x.ot) : ¬ (¬ IsHeard s ∨ ((heardOf s).n0 : Int) < x.ot) := by
  have := (isN_iff _).1 h1
  rintro (h | h)
  · exact h (heard_pkt hp (by omega) (by omega))
  · exact h2 h
theorem take_other (h : ¬ (¬ IsHeard s ∨ ((heardOf s).n0 : Int) < x.ot)) (h1 : ((heardOf s).n1 : Int) ≠ x.ep) :
    takeX x s = (metX x (heardOf s).n0, ⟨[], false, ackB (metX x (heardOf s).n0), decide (x.ot < ((heardOf s).n0 : Int) ∧ x.ot ≠ 0)⟩) := by
  unfold takeX; rw [if_neg h]; simp only []; rw [if_pos h1]
theorem take_ack (h : ¬ (¬ IsHeard s ∨ ((heardOf s).n0 : Int) < x.ot)) (h1 : ¬ ((heardOf s).n1 : Int) ≠ x.ep) (h2 : (heardOf s).kind = 2) :
    takeX x s = (ackedX (metX x (heardOf s).n0) (heardOf s).n3, ⟨[], false, [], decide (x.ot < ((heardOf s).n0 : Int) ∧ x.ot ≠ 0)⟩) := by
  unfold takeX; rw [if_neg h]; simp only []; rw [if_neg h1, if_pos h2]
theorem take_yes (h : ¬ (¬ IsHeard s ∨ ((heardOf s).n0 : Int) < x.ot)) (h1 : ¬ ((heardOf s).n1 : Int) ≠ x.ep) (h2 : ¬ (heardOf s).kind = 2) (h3 : ((heardOf s).n2 : Int) = (ackedX (metX x (heardOf s).n0) (heardOf s).n3).wa ∧ (ackedX (metX x (heardOf s).n0) (heardOf s).n3).wa < 1099511627776) :
    takeX x s = ({ ackedX (metX x (heardOf s).n0) (heardOf s).n3 with wa := (ackedX (metX x (heardOf s).n0) (heardOf s).n3).wa + 1 }, ⟨(heardOf s).piece, true, ackB { ackedX (metX x (heardOf s).n0) (heardOf s).n3 with wa := (ackedX (metX x (heardOf s).n0) (heardOf s).n3).wa + 1 }, decide (x.ot < ((heardOf s).n0 : Int) ∧ x.ot ≠ 0)⟩) := by
  unfold takeX; rw [if_neg h]; simp only []; rw [if_neg h1, if_neg h2, if_pos h3]
theorem take_no (h : ¬ (¬ IsHeard s ∨ ((heardOf s).n0 : Int) < x.ot)) (h1 : ¬ ((heardOf s).n1 : Int) ≠ x.ep) (h2 : ¬ (heardOf s).kind = 2) (h3 : ¬ (((heardOf s).n2 : Int) = (ackedX (metX x (heardOf s).n0) (heardOf s).n3).wa ∧ (ackedX (metX x (heardOf s).n0) (heardOf s).n3).wa < 1099511627776)) :
    takeX x s = (ackedX (metX x (heardOf s).n0) (heardOf s).n3, ⟨[], false, ackB (ackedX (metX x (heardOf s).n0) (heardOf s).n3), decide (x.ot < ((heardOf s).n0 : Int) ∧ x.ot ≠ 0)⟩) := by
  unfold takeX; rw [if_neg h]; simp only []; rw [if_neg h1, if_neg h2, if_neg h3]
theorem acked_ok3 {y : LEnd} (h : y.Ok3) (n : Int) : (ackedX y n).Ok3 ∧ (ackedX y n).ep = y.ep := by
  unfold ackedX; split
  · exact ⟨⟨h.e1, h.e2, h.o1, h.o2, h.w1, h.w2⟩, rfl⟩
  · exact ⟨h, rfl⟩
end

set_option maxHeartbeats 1000000 in
set_option maxRecDepth 100000 in
theorem LTake_wrong (x : LEnd) (A : Option Addr) (c : Nat) (s : List UInt8) (w : World) (h : Strs w w.heap.size A x.out) (hn : A = none → c = 0) (hc : x.out.length ≤ c) (hl : x.out.length ≤ 9223372036854775807) (hx : okB x = false) :
    Calls Try.prog 21 #[x.val A c, .string (str s)] w (TakeEnd (x, CameL.none_) w) := by
  obtain ⟨V, hV⟩ : ∃ V, V = ((w.alloc (.cells #[.int .i64 x.ep, .int .i64 x.ot, .int .i64 x.fi, .slice A x.out.length c, .int .i64 x.wa] 24)).alloc (.cells #[.int .i64 0, .int .i64 0, .int .i64 0, .slice none 0 0, .int .i64 0] 24)).alloc (.cells #[.string ⟨#[]⟩, .bool false, .string ⟨#[]⟩, .bool false] 42) := ⟨_, rfl⟩
  have hT := TkAt.start w (.int .i64 x.ep) (.int .i64 x.ot) (.int .i64 x.fi) (.slice A x.out.length c) (.int .i64 x.wa)
  rw [← hV] at hT
  have HT := Lib.hid hT
  have HV := Lib.hid hV
  have HRt := Lib.hid (fun z : LatW V => LRight_any x A c z.wd ((h.next hT.bel).next z.bel) hl)
  have HEn : Hid (∀ w', Below w.heap.size w w' → TakeEnd (x, CameL.none_) w (.returned (.tuple #[x.val A c, CameL.none_.val])) w') := Lib.hid (fun w' hb => TakeEnd.mk_ rfl (h.below hb) hn hc hb)
  have HOk := Lib.hid hx
  clear hV hT h hn hc hl hx
  unfold LEnd.val at HRt HEn ⊢
  go_enter Try.func21, Try.ntmps21
  go_upto_region 1 with fail
  rw [← HV.out]
  obtain ⟨z0, hz0⟩ := LatW.start V
  rw [← hz0]
  clear hz0
  have x0 := fun z : LatW V => (HT.out.lat z).p.c0
  have x1 := fun z : LatW V => (HT.out.lat z).p.c1
  have x2 := fun z : LatW V => (HT.out.lat z).p.c2
  have x3 := fun z : LatW V => (HT.out.lat z).p.c3
  have x4 := fun z : LatW V => (HT.out.lat z).p.c4
  have y0 := fun z : LatW V => (HT.out.lat z).e.c0
  have y1 := fun z : LatW V => (HT.out.lat z).e.c1
  have y2 := fun z : LatW V => (HT.out.lat z).e.c2
  have y3 := fun z : LatW V => (HT.out.lat z).e.c3
  have y4 := fun z : LatW V => (HT.out.lat z).e.c4
  have u0 := fun z : LatW V => (HT.out.lat z).f.c0
  have u1 := fun z : LatW V => (HT.out.lat z).f.c1
  have u2 := fun z : LatW V => (HT.out.lat z).f.c2
  have u3 := fun z : LatW V => (HT.out.lat z).f.c3
  have xf := fun z : LatW V => (HT.out.lat z).p.fr
  have yf := fun z : LatW V => (HT.out.lat z).e.fr
  have uf := fun z : LatW V => (HT.out.lat z).f.fr
  go_wp2_with (go_at_call 14; refine (HRt.out z0).mono ?_; rw [HOk.out]; rintro e w9 ⟨rfl, hb9⟩; obtain ⟨z1, hz1⟩ := LatW.later z0 hb9; subst hz1; clear hb9)
  obtain ⟨hR, hQ, hE⟩ := (HT.out.lat z1).fin (.int .i64 x.ep) (.int .i64 x.ot) (.int .i64 x.fi) (.slice A x.out.length c) (.int .i64 x.wa) (.string ⟨#[]⟩) (.bool false) (.string ⟨#[]⟩) (.bool false)
  have t0 := hR.c0
  have t1 := hR.c1
  have t2 := hR.c2
  have t3 := hR.c3
  have t4 := hR.c4
  have q0 := hQ.c0
  have q1 := hQ.c1
  have q2 := hQ.c2
  have q3 := hQ.c3
  unfold quadSet fiveSet at t0 t1 t2 t3 t4 q0 q1 q2 q3 hE
  exact bodyPost_ret (v := .tuple #[.agg #[.int .i64 x.ep, .int .i64 x.ot, .int .i64 x.fi, .slice A x.out.length c, .int .i64 x.wa], CameL.none_.val]) (by simp [results, Try.results21, go_sem, CameL.val, CameL.none_, str_none, t0, t1, t2, t3, t4, q0, q1, q2, q3]) rfl (HEn.out _ hE)

set_option maxHeartbeats 8000000 in
set_option maxRecDepth 100000 in
theorem LTake_anyS (x : LEnd) (A : Option Addr) (c : Nat) (s : List UInt8) (w : World) (h : Strs w w.heap.size A x.out) (hn : A = none → c = 0) (hc : x.out.length ≤ c) (hx : x.Ok) (hs : s.length ≤ 281474976710656) :
    Calls Try.prog 21 #[x.val A c, .string (str s)] w (TakeEndS A (takeX x s) w) := by
  obtain ⟨V, hV⟩ : ∃ V, V = ((w.alloc (.cells #[.int .i64 x.ep, .int .i64 x.ot, .int .i64 x.fi, .slice A x.out.length c, .int .i64 x.wa] 24)).alloc (.cells #[.int .i64 0, .int .i64 0, .int .i64 0, .slice none 0 0, .int .i64 0] 24)).alloc (.cells #[.string ⟨#[]⟩, .bool false, .string ⟨#[]⟩, .bool false] 42) := ⟨_, rfl⟩
  have hT := TkAt.start w (.int .i64 x.ep) (.int .i64 x.ot) (.int .i64 x.fi) (.slice A x.out.length c) (.int .i64 x.wa)
  rw [← hV] at hT
  have HT := Lib.hid hT
  have HV := Lib.hid hV
  have hsV : w.heap.size + 3 ≤ V.heap.size := by rw [hV]; simp
  have HRt := Lib.hid (fun z : LatW V => LRight_any x A c z.wd ((h.next hT.bel).next z.bel) (by have := hx.len; omega))
  have HEn : Hid (∀ w', takeX x s = (x, CameL.none_) → Below w.heap.size w w' → TakeEndS A (takeX x s) w (.returned (.tuple #[x.val A c, CameL.none_.val])) w') := Lib.hid (fun w' hr hb => TakeEndS.mk_ hr (h.below hb) hn hc hb (fun N => Src.refl N _))
  have HOk := Lib.hid ((okB_iff x).2 hx)
  have HOp := Lib.hid (fun W => lopen_any s W hs)
  have HSt := Lib.hid h
  have HN := Lib.hid hn
  have HC := Lib.hid hc
  have HX := Lib.hid hx
  clear hV hT h hn hc hs
  unfold LEnd.val at HRt HEn ⊢
  go_enter Try.func21, Try.ntmps21
  go_upto_region 1 with fail
  rw [← HV.out]
  obtain ⟨z0, hz0⟩ := LatW.start V
  rw [← hz0]
  clear hz0
  have x0 := fun z : LatW V => (HT.out.lat z).p.c0
  have x1 := fun z : LatW V => (HT.out.lat z).p.c1
  have x2 := fun z : LatW V => (HT.out.lat z).p.c2
  have x3 := fun z : LatW V => (HT.out.lat z).p.c3
  have x4 := fun z : LatW V => (HT.out.lat z).p.c4
  have y0 := fun z : LatW V => (HT.out.lat z).e.c0
  have y1 := fun z : LatW V => (HT.out.lat z).e.c1
  have y2 := fun z : LatW V => (HT.out.lat z).e.c2
  have y3 := fun z : LatW V => (HT.out.lat z).e.c3
  have y4 := fun z : LatW V => (HT.out.lat z).e.c4
  have u0 := fun z : LatW V => (HT.out.lat z).f.c0
  have u1 := fun z : LatW V => (HT.out.lat z).f.c1
  have u2 := fun z : LatW V => (HT.out.lat z).f.c2
  have u3 := fun z : LatW V => (HT.out.lat z).f.c3
  have xf := fun z : LatW V => (HT.out.lat z).p.fr
  have yf := fun z : LatW V => (HT.out.lat z).e.fr
  have uf := fun z : LatW V => (HT.out.lat z).f.fr
  go_wp2_with (go_at_call 14; refine (HRt.out z0).mono ?_; rw [HOk.out]; rintro e w9 ⟨rfl, hb9⟩; obtain ⟨z1, hz1⟩ := LatW.later z0 hb9; subst hz1; clear hb9)
  refine (HOp.out _).mono ?_
  rintro e w9 ⟨k, a, b, m, d, pc, ok, rfl, hiff, hval, hb9⟩
  obtain ⟨z2, hz2⟩ := LatW.later z1 hb9
  subst hz2
  clear hb9
  have HIff := Lib.hid hiff
  have HVal := Lib.hid hval
  clear hiff hval HOp HRt HOk HV
  obtain ⟨C, hC⟩ : ∃ C, z2.wd.heap.size = C := ⟨_, rfl⟩
  have hlo : w.heap.size + 2 < C := by have := z2.bel.size; omega
  have HCn : Hid (Five (z2.wd.alloc (.cells #[.int .i64 a, .int .i64 b, .int .i64 m, .int .i64 d, .string (str pc)] 79 (0, 0))) C (.int .i64 a) (.int .i64 b) (.int .i64 m) (.int .i64 d) (.string (str pc)) 79) := Lib.hid (by rw [← hC]; exact Five.new _ _ _ _ _ _ _)
  obtain ⟨z3, hz3⟩ := LatW.made z2 (.cells #[.int .i64 a, .int .i64 b, .int .i64 m, .int .i64 d, .string (str pc)] 79 (0, 0))
  rw [hz3] at HCn
  have HZ3 := Lib.hid hz3
  have HCe := Lib.hid hC
  clear hz3 hC
  cases ok with
  | false =>
    have hno : takeX x s = (x, CameL.none_) := take_none (fun e => by have := HIff.out.2 e; cases this)
    go_upto_region 4 with fail
    rw [HZ3.out]
    go_wp2_with fail
    obtain ⟨hR, hQ, hE⟩ := (HT.out.lat z3).fin (.int .i64 x.ep) (.int .i64 x.ot) (.int .i64 x.fi) (.slice A x.out.length c) (.int .i64 x.wa) (.string ⟨#[]⟩) (.bool false) (.string ⟨#[]⟩) (.bool false)
    have t0 := hR.c0
    have t1 := hR.c1
    have t2 := hR.c2
    have t3 := hR.c3
    have t4 := hR.c4
    have q0 := hQ.c0
    have q1 := hQ.c1
    have q2 := hQ.c2
    have q3 := hQ.c3
    unfold quadSet fiveSet at t0 t1 t2 t3 t4 q0 q1 q2 q3 hE
    exact bodyPost_ret (v := .tuple #[.agg #[.int .i64 x.ep, .int .i64 x.ot, .int .i64 x.fi, .slice A x.out.length c, .int .i64 x.wa], CameL.none_.val]) (by simp [results, Try.results21, go_sem, CameL.val, CameL.none_, str_none, t0, t1, t2, t3, t4, q0, q1, q2, q3]) rfl (HEn.out _ hno hE)
  | true =>
    have hp := HIff.out.1 rfl
    obtain ⟨rfl, rfl, rfl, rfl, rfl, rfl⟩ := HVal.out rfl
    clear HIff HVal
    go_upto_region 4 with fail
    rw [HZ3.out]
    clear HZ3
    rw [HCe.out]
    clear HCe
    have c0 := HCn.out.c0
    have c1 := HCn.out.c1
    have c2 := HCn.out.c2
    have c3 := HCn.out.c3
    have c4 := HCn.out.c4
    cases g1 : isN ((heardOf s).n0 : Int) with
    | false =>
      have hno : takeX x s = (x, CameL.none_) := take_far g1
      have G1 := Lib.hid g1
      clear g1
      go_wp2_with (go_at_call 36; refine (isNum_any _ _).mono ?_; rw [G1.out]; rintro e w9 ⟨rfl, hw9⟩; subst hw9)
      obtain ⟨hR, hQ, hE⟩ := (HT.out.lat z3).fin (.int .i64 x.ep) (.int .i64 x.ot) (.int .i64 x.fi) (.slice A x.out.length c) (.int .i64 x.wa) (.string ⟨#[]⟩) (.bool false) (.string ⟨#[]⟩) (.bool false)
      have t0 := hR.c0
      have t1 := hR.c1
      have t2 := hR.c2
      have t3 := hR.c3
      have t4 := hR.c4
      have q0 := hQ.c0
      have q1 := hQ.c1
      have q2 := hQ.c2
      have q3 := hQ.c3
      unfold quadSet fiveSet at t0 t1 t2 t3 t4 q0 q1 q2 q3 hE
      exact bodyPost_ret (v := .tuple #[.agg #[.int .i64 x.ep, .int .i64 x.ot, .int .i64 x.fi, .slice A x.out.length c, .int .i64 x.wa], CameL.none_.val]) (by simp [results, Try.results21, go_sem, CameL.val, CameL.none_, str_none, t0, t1, t2, t3, t4, q0, q1, q2, q3]) rfl (HEn.out _ hno hE)
    | true =>
      by_cases g2 : ((heardOf s).n0 : Int) < x.ot
      · have hno : takeX x s = (x, CameL.none_) := take_old g2
        have G1 := Lib.hid g1
        clear g1
        go_wp2_with (go_at_call 36; refine (isNum_any _ _).mono ?_; rw [G1.out]; rintro e w9 ⟨rfl, hw9⟩; subst hw9)
        obtain ⟨hR, hQ, hE⟩ := (HT.out.lat z3).fin (.int .i64 x.ep) (.int .i64 x.ot) (.int .i64 x.fi) (.slice A x.out.length c) (.int .i64 x.wa) (.string ⟨#[]⟩) (.bool false) (.string ⟨#[]⟩) (.bool false)
        have t0 := hR.c0
        have t1 := hR.c1
        have t2 := hR.c2
        have t3 := hR.c3
        have t4 := hR.c4
        have q0 := hQ.c0
        have q1 := hQ.c1
        have q2 := hQ.c2
        have q3 := hQ.c3
        unfold quadSet fiveSet at t0 t1 t2 t3 t4 q0 q1 q2 q3 hE
        exact bodyPost_ret (v := .tuple #[.agg #[.int .i64 x.ep, .int .i64 x.ot, .int .i64 x.fi, .slice A x.out.length c, .int .i64 x.wa], CameL.none_.val]) (by simp [results, Try.results21, go_sem, CameL.val, CameL.none_, str_none, t0, t1, t2, t3, t4, q0, q1, q2, q3]) rfl (HEn.out _ hno hE)
      · have hon := take_on hp g1 g2
        have hN := (isN_iff _).1 g1
        have G1 := Lib.hid g1
        clear g1
        have HMt := Lib.hid (fun W (hW : Below w.heap.size w W) => meet_any x A c ((heardOf s).n0 : Int) W (HSt.out.below hW) hW.size HN.out HC.out (by omega))
        obtain ⟨hok, mep, mot, _, _, _, _⟩ := met_ok HX.out (n := ((heardOf s).n0 : Int)) (by omega)
        obtain ⟨an, han⟩ : ∃ an, decide (x.ot < ((heardOf s).n0 : Int) ∧ x.ot ≠ 0) = an := ⟨_, rfl⟩
        rw [han] at HMt
        have HAn := Lib.hid han
        have HOn := Lib.hid hon
        have hPk : (heardOf s).kind = 1 ∨ (heardOf s).kind = 2 := hp.2.1
        have HOky := Lib.hid hok
        have HR1 := Lib.hid (fun h1 => @take_other x s hon h1)
        have HR2 := Lib.hid (fun h1 h2 => @take_ack x s hon h1 h2)
        have HR3 := Lib.hid (fun h1 h2 h3 => @take_yes x s hon h1 h2 h3)
        have HR4 := Lib.hid (fun h1 h2 h3 => @take_no x s hon h1 h2 h3)
        rw [han] at HR1 HR2 HR3 HR4
        have MEP := Lib.hid mep
        clear han hp hon hx hok mep mot
        generalize takeX x s = R at *
        generalize metX x ((heardOf s).n0 : Int) = y at *
        generalize (heardOf s).n0 = n0 at *
        generalize (heardOf s).n1 = n1 at *
        generalize (heardOf s).n2 = n2 at *
        generalize (heardOf s).n3 = n3 at *
        generalize (heardOf s).kind = kd at *
        generalize (heardOf s).piece = pc at *
        clear HEn HSt HN HC HOn HAn
        unfold LEnd.val at HMt
        go_wp2_with (go_at_call 36; refine (isNum_any _ _).mono ?_; rw [G1.out]; rintro e w9 ⟨rfl, hw9⟩; subst hw9)
        refine (HMt.out _ (HT.out.lat z3).bel).mono ?_
        rintro e w9 ⟨v, rfl, A1, a1, rfl, hS, hN1, hC1, hb9, hsr1⟩
        have HSr1 := Lib.hid hsr1
        clear hsr1
        have HCn2 := Lib.hid (HCn.out.below hb9)
        have HT2 := Lib.hid ((HT.out.lat z3).later hb9)
        have HS1 := Lib.hid hS
        have HN1 := Lib.hid hN1
        have HC1 := Lib.hid hC1
        clear hS hN1 hC1 hb9 HMt G1 g2 c0 c1 c2 c3 c4 x0 x1 x2 x3 x4 y0 y1 y2 y3 y4 u0 u1 u2 u3 xf yf uf HT HCn
        unfold LEnd.val
        have x0 := HT2.out.p.c0
        have x1 := HT2.out.p.c1
        have x2 := HT2.out.p.c2
        have x3 := HT2.out.p.c3
        have x4 := HT2.out.p.c4
        have xf := HT2.out.p.fr
        go_upto_region 7 with fail
        have HT3 := Lib.hid (HT2.out.setP (.int .i64 y.ep) (.int .i64 y.ot) (.int .i64 y.fi) (.slice A1 y.out.length a1) (.int .i64 y.wa))
        have HCn3 := Lib.hid (HCn2.out.farSet (K := w.heap.size) (by omega) (.int .i64 y.ep) (.int .i64 y.ot) (.int .i64 y.fi) (.slice A1 y.out.length a1) (.int .i64 y.wa))
        have HS3 := Lib.hid (HS1.out.below (below_five (Below.refl _ _) (Nat.le_refl _) (.int .i64 y.ep) (.int .i64 y.ot) (.int .i64 y.fi) (.slice A1 y.out.length a1) (.int .i64 y.wa)))
        obtain ⟨W3, hW3⟩ : ∃ W3, fiveSet w9 w.heap.size (.int .i64 y.ep) (.int .i64 y.ot) (.int .i64 y.fi) (.slice A1 y.out.length a1) (.int .i64 y.wa) = W3 := ⟨_, rfl⟩
        rw [hW3] at HT3 HCn3 HS3
        unfold fiveSet at hW3
        rw [hW3]
        clear hW3 HT2 HCn2 HS1 x0 x1 x2 x3 x4 xf
        have x0 := HT3.out.p.c0
        have x1 := HT3.out.p.c1
        have x2 := HT3.out.p.c2
        have x3 := HT3.out.p.c3
        have x4 := HT3.out.p.c4
        have y0 := HT3.out.e.c0
        have y1 := HT3.out.e.c1
        have y2 := HT3.out.e.c2
        have y3 := HT3.out.e.c3
        have y4 := HT3.out.e.c4
        have u0 := HT3.out.f.c0
        have u1 := HT3.out.f.c1
        have u2 := HT3.out.f.c2
        have u3 := HT3.out.f.c3
        have xf := HT3.out.p.fr
        have yf := HT3.out.e.fr
        have uf := HT3.out.f.fr
        have c0 := HCn3.out.c0
        have c1 := HCn3.out.c1
        have c2 := HCn3.out.c2
        have c3 := HCn3.out.c3
        have c4 := HCn3.out.c4
        by_cases h1 : (n1 : Int) = y.ep
        case neg =>
          have hq : ((n1 : Int) != y.ep) = true := by simpa using h1
          have hr := HR1.out (by rw [← MEP.out]; exact h1)
          have HAk := Lib.hid (fun W => acknowledge_any y A1 a1 W HOky.out.ok3)
          unfold LEnd.val at HAk
          clear h1 HR1 HR2 HR3 HR4
          go_upto_region 8 with fail
          clear x0 x1 x2 x3 x4 y0 y1 y2 y3 y4 u0 u1 u2 u3 xf yf uf c0 c1 c2 c3 c4
          have y0 := fun z : LatW W3 => (HT3.out.lat z).e.c0
          have y1 := fun z : LatW W3 => (HT3.out.lat z).e.c1
          have y2 := fun z : LatW W3 => (HT3.out.lat z).e.c2
          have y3 := fun z : LatW W3 => (HT3.out.lat z).e.c3
          have y4 := fun z : LatW W3 => (HT3.out.lat z).e.c4
          have u0 := fun z : LatW W3 => (HT3.out.lat z).f.c0
          have u1 := fun z : LatW W3 => (HT3.out.lat z).f.c1
          have u2 := fun z : LatW W3 => (HT3.out.lat z).f.c2
          have u3 := fun z : LatW W3 => (HT3.out.lat z).f.c3
          have yf := fun z : LatW W3 => (HT3.out.lat z).e.fr
          have uf := fun z : LatW W3 => (HT3.out.lat z).f.fr
          have hd0 := HT3.out.p.drew.all
          have HLz := Lib.hid (fun z : LatW W3 => (HT3.out.lat z).p.all)
          have hne1 : w.heap.size ≠ w.heap.size + 1 := by omega
          have hne2 : w.heap.size ≠ w.heap.size + 2 := by omega
          have HLe := Lib.hid (fun z : LatW W3 => ((HT3.out.lat z).p.farSet hne1 (.int .i64 y.ep) (.int .i64 y.ot) (.int .i64 y.fi) (.slice A1 y.out.length a1) (.int .i64 y.wa)).all)
          have HLf := Lib.hid (fun z : LatW W3 => (((HT3.out.lat z).p.farSet hne1 (.int .i64 y.ep) (.int .i64 y.ot) (.int .i64 y.fi) (.slice A1 y.out.length a1) (.int .i64 y.wa)).farQuad hne2 (.string ⟨#[]⟩) (.bool false) (.string (str (ackB y))) (.bool an)).all)
          unfold fiveSet at HLe
          unfold quadSet fiveSet at HLf
          go_region_held3 (fun w' => w'.cell? ⟨w.heap.size, 0, none⟩ = some (.int .i64 y.ep) ∧ w'.cell? ⟨w.heap.size, 1, none⟩ = some (.int .i64 y.ot) ∧ w'.cell? ⟨w.heap.size, 2, none⟩ = some (.int .i64 y.fi) ∧ w'.cell? ⟨w.heap.size, 3, none⟩ = some (.slice A1 y.out.length a1) ∧ w'.cell? ⟨w.heap.size, 4, none⟩ = some (.int .i64 y.wa)) (first | with_reducible exact HLz.out z4 | with_reducible exact hd0 | with_reducible exact HLe.out z4 | with_reducible exact HLf.out z4) (first | (go_at_call 41; refine (HAk.out _).mono ?_; rintro e w8 ⟨rfl, hb8⟩; obtain ⟨z4, hz4⟩ := LatW.later (LatW.first W3) hb8; subst hz4; clear hb8))
          all_goals
            go_wp2_with fail
            obtain ⟨hR, hQ, hE⟩ := (HT3.out.lat z4).fin (.int .i64 y.ep) (.int .i64 y.ot) (.int .i64 y.fi) (.slice A1 y.out.length a1) (.int .i64 y.wa) (.string ⟨#[]⟩) (.bool false) (.string (str (ackB y))) (.bool an)
            have t0 := hR.c0
            have t1 := hR.c1
            have t2 := hR.c2
            have t3 := hR.c3
            have t4 := hR.c4
            have q0 := hQ.c0
            have q1 := hQ.c1
            have q2 := hQ.c2
            have q3 := hQ.c3
            have hSS := HS3.out.below (below_quad (B := w.heap.size) (H := w.heap.size + 2) (below_five (B := w.heap.size) (H := w.heap.size + 1) (lat_bel HT3.out.bel.size z4) (by omega) (.int .i64 y.ep) (.int .i64 y.ot) (.int .i64 y.fi) (.slice A1 y.out.length a1) (.int .i64 y.wa)) (by omega) (.string ⟨#[]⟩) (.bool false) (.string (str (ackB y))) (.bool an))
            have hfin := TakeEndS.mk2 (w := w) (A0 := A) (ep := y.ep) (ot := y.ot) (fi := y.fi) (wa := y.wa) (out := y.out) (pc := []) (has := false) (rp := ackB y) (an := an) (A := A1) (c := a1) hr hSS HN1.out HC1.out hE (fun N => HSr1.out N)
            unfold quadSet fiveSet at t0 t1 t2 t3 t4 q0 q1 q2 q3 hfin
            exact bodyPost_ret (v := .tuple #[.agg #[.int .i64 y.ep, .int .i64 y.ot, .int .i64 y.fi, .slice A1 y.out.length a1, .int .i64 (y.wa)], .agg #[.string (str []), .bool false, .string (str (ackB y)), .bool an]]) (by simp [results, Try.results21, go_sem, str_none, t0, t1, t2, t3, t4, q0, q1, q2, q3]) rfl hfin
        case pos =>
          have h1' : ¬ (n1 : Int) ≠ x.ep := by rw [← MEP.out]; exact fun e => e h1
          have hq : ((n1 : Int) != y.ep) = false := by simpa using h1
          have HRl := Lib.hid (fun W (hW : Strs W w.heap.size A1 y.out) (hz : w.heap.size ≤ W.heap.size) => release_any y A1 a1 n3 W hW hz HN1.out HC1.out HOky.out)
          have hz3 := (acked_ok3 HOky.out.ok3 (n3 : Int)).1
          have HZ3 := Lib.hid hz3
          replace HR2 := Lib.hid (HR2.out h1')
          replace HR3 := Lib.hid (HR3.out h1')
          replace HR4 := Lib.hid (HR4.out h1')
          clear HR1 h1 hz3 h1'
          generalize ackedX y (n3 : Int) = z at *
          unfold LEnd.val at HRl
          go_wp2_with fail
          refine (HRl.out _ HS3.out HT3.out.bel.size).mono ?_
          rintro e w10 ⟨v, rfl, A2, a2, rfl, hS, hN2, hC2, hb10, hsr2⟩
          have HSr2 := Lib.hid (fun N => (HSr1.out N).trans (hsr2 N))
          clear hsr2
          have HCn4 := Lib.hid (HCn3.out.below hb10)
          have HT4 := Lib.hid (HT3.out.later hb10)
          have HS4 := Lib.hid hS
          have HN2 := Lib.hid hN2
          have HC2 := Lib.hid hC2
          clear hS hN2 hC2 hb10 HRl HS3 HT3 HCn3 HN1 HC1 c0 c1 c2 c3 c4 x0 x1 x2 x3 x4 y0 y1 y2 y3 y4 u0 u1 u2 u3 xf yf uf
          unfold LEnd.val
          have x0 := HT4.out.p.c0
          have x1 := HT4.out.p.c1
          have x2 := HT4.out.p.c2
          have x3 := HT4.out.p.c3
          have x4 := HT4.out.p.c4
          have xf := HT4.out.p.fr
          go_upto_region 10 with fail
          have HT5 := Lib.hid (HT4.out.setP (.int .i64 z.ep) (.int .i64 z.ot) (.int .i64 z.fi) (.slice A2 z.out.length a2) (.int .i64 z.wa))
          have HCn5 := Lib.hid (HCn4.out.farSet (K := w.heap.size) (by omega) (.int .i64 z.ep) (.int .i64 z.ot) (.int .i64 z.fi) (.slice A2 z.out.length a2) (.int .i64 z.wa))
          have HS5 := Lib.hid (HS4.out.below (below_five (Below.refl _ _) (Nat.le_refl _) (.int .i64 z.ep) (.int .i64 z.ot) (.int .i64 z.fi) (.slice A2 z.out.length a2) (.int .i64 z.wa)))
          obtain ⟨W5, hW5⟩ : ∃ W5, fiveSet w10 w.heap.size (.int .i64 z.ep) (.int .i64 z.ot) (.int .i64 z.fi) (.slice A2 z.out.length a2) (.int .i64 z.wa) = W5 := ⟨_, rfl⟩
          rw [hW5] at HT5 HCn5 HS5
          unfold fiveSet at hW5
          rw [hW5]
          clear hW5 HT4 HCn4 HS4 x0 x1 x2 x3 x4 xf
          have x0 := HT5.out.p.c0
          have x1 := HT5.out.p.c1
          have x2 := HT5.out.p.c2
          have x3 := HT5.out.p.c3
          have x4 := HT5.out.p.c4
          have y0 := HT5.out.e.c0
          have y1 := HT5.out.e.c1
          have y2 := HT5.out.e.c2
          have y3 := HT5.out.e.c3
          have y4 := HT5.out.e.c4
          have u0 := HT5.out.f.c0
          have u1 := HT5.out.f.c1
          have u2 := HT5.out.f.c2
          have u3 := HT5.out.f.c3
          have xf := HT5.out.p.fr
          have yf := HT5.out.e.fr
          have uf := HT5.out.f.fr
          by_cases hk : kd = 2
          case pos =>
            have hr := Lib.hid (HR2.out hk)
            subst hk
            clear HR2 HR3 HR4
            go_wp2_with fail
            obtain ⟨hR, hQ, hE⟩ := (HT5.out).fin (.int .i64 z.ep) (.int .i64 z.ot) (.int .i64 z.fi) (.slice A2 z.out.length a2) (.int .i64 z.wa) (.string ⟨#[]⟩) (.bool false) (.string ⟨#[]⟩) (.bool an)
            have t0 := hR.c0
            have t1 := hR.c1
            have t2 := hR.c2
            have t3 := hR.c3
            have t4 := hR.c4
            have q0 := hQ.c0
            have q1 := hQ.c1
            have q2 := hQ.c2
            have q3 := hQ.c3
            have hSS := HS5.out.below (below_quad (B := w.heap.size) (H := w.heap.size + 2) (below_five (B := w.heap.size) (H := w.heap.size + 1) (Below.refl _ _) (by omega) (.int .i64 z.ep) (.int .i64 z.ot) (.int .i64 z.fi) (.slice A2 z.out.length a2) (.int .i64 z.wa)) (by omega) (.string ⟨#[]⟩) (.bool false) (.string ⟨#[]⟩) (.bool an))
            have hfin := TakeEndS.mk2 (w := w) (A0 := A) (ep := z.ep) (ot := z.ot) (fi := z.fi) (wa := z.wa) (out := z.out) (pc := []) (has := false) (rp := []) (an := an) (A := A2) (c := a2) hr.out hSS HN2.out HC2.out hE (fun N => HSr2.out N)
            unfold quadSet fiveSet at t0 t1 t2 t3 t4 q0 q1 q2 q3 hfin
            exact bodyPost_ret (v := .tuple #[.agg #[.int .i64 z.ep, .int .i64 z.ot, .int .i64 z.fi, .slice A2 z.out.length a2, .int .i64 (z.wa)], .agg #[.string (str []), .bool false, .string (str ([])), .bool an]]) (by simp [results, Try.results21, go_sem, str_none, t0, t1, t2, t3, t4, q0, q1, q2, q3]) rfl hfin
          case neg =>
            have hkq : ((kd : Int) == 2) = false := by rw [beq_eq_false_iff_ne]; omega
            replace HR3 := Lib.hid (HR3.out hk)
            replace HR4 := Lib.hid (HR4.out hk)
            clear HR2
            go_upto_region 13 with fail
            obtain ⟨D, hD⟩ : ∃ D, W5.heap.size = D := ⟨_, rfl⟩
            have hloD : w.heap.size + 2 < D := by have := HT5.out.f.lt; omega
            have hCD : C ≠ D := by have := HCn5.out.lt; omega
            have HQ6 := Lib.hid (Quad.new W5 (.string ⟨#[]⟩) (.bool false) (.string ⟨#[]⟩) (.bool an) 42)
            have HT6 := Lib.hid (HT5.out.later (below_one W5 (.cells #[.string ⟨#[]⟩, .bool false, .string ⟨#[]⟩, .bool an] 42 (0, 0))))
            have HCn6 := Lib.hid (HCn5.out.below (below_one W5 (.cells #[.string ⟨#[]⟩, .bool false, .string ⟨#[]⟩, .bool an] 42 (0, 0))))
            have HS6 := Lib.hid (HS5.out.below ((below_one W5 (.cells #[.string ⟨#[]⟩, .bool false, .string ⟨#[]⟩, .bool an] 42 (0, 0))).mono HT5.out.bel.size))
            obtain ⟨W6, hW6⟩ : ∃ W6, W5.alloc (.cells #[.string ⟨#[]⟩, .bool false, .string ⟨#[]⟩, .bool an] 42 (0, 0)) = W6 := ⟨_, rfl⟩
            rw [hW6] at HQ6 HT6 HCn6 HS6
            rw [hD] at HQ6
            rw [hW6, hD]
            clear hW6 hD HT5 HCn5 HS5 x0 x1 x2 x3 x4 y0 y1 y2 y3 y4 u0 u1 u2 u3 xf yf uf
            have x4 := HT6.out.p.c4
            have c2 := HCn6.out.c2
            have HTold := HT6
            by_cases h3 : (n2 : Int) = z.wa
            case neg =>
              have hq3 : ((n2 : Int) == z.wa) = false := beq_eq_false_iff_ne.2 h3
              have hr := Lib.hid (HR4.out (fun e => h3 e.1))
              clear HR3 HR4
              go_upto_region 16 with fail
              clear x4 c2
              have HAk := Lib.hid (fun W => acknowledge_any (z) A2 a2 W HZ3.out)
              unfold LEnd.val at HAk
              obtain ⟨AK, hAK⟩ : ∃ AK, ackB (z) = AK := ⟨_, rfl⟩
              rw [hAK] at HAk hr
              clear hAK
              go_upto_region 16 with fail
              have x0 := HT6.out.p.c0
              have x1 := HT6.out.p.c1
              have x2 := HT6.out.p.c2
              have x3 := HT6.out.p.c3
              have x4 := HT6.out.p.c4
              have y0 := HT6.out.e.c0
              have y1 := HT6.out.e.c1
              have y2 := HT6.out.e.c2
              have y3 := HT6.out.e.c3
              have y4 := HT6.out.e.c4
              have u0 := HT6.out.f.c0
              have u1 := HT6.out.f.c1
              have u2 := HT6.out.f.c2
              have u3 := HT6.out.f.c3
              have xf := HT6.out.p.fr
              have yf := HT6.out.e.fr
              have uf := HT6.out.f.fr
              have d0 := HQ6.out.c0
              have d1 := HQ6.out.c1
              have d2 := HQ6.out.c2
              have d3 := HQ6.out.c3
              have df := HQ6.out.fr
              go_wp2_with fail
              refine (HAk.out _).mono ?_
              rintro e w12 ⟨rfl, hb12⟩
              replace HT6 := Lib.hid (HT6.out.later hb12)
              replace HQ6 := Lib.hid (HQ6.out.below hb12)
              replace HS6 := Lib.hid (HS6.out.below (hb12.mono (by have := HTold.out.bel.size; omega)))
              clear hb12 HTold d0 d1 d2 d3 df x0 x1 x2 x3 x4 y0 y1 y2 y3 y4 u0 u1 u2 u3 xf yf uf
              have x0 := HT6.out.p.c0
              have x1 := HT6.out.p.c1
              have x2 := HT6.out.p.c2
              have x3 := HT6.out.p.c3
              have x4 := HT6.out.p.c4
              have y0 := HT6.out.e.c0
              have y1 := HT6.out.e.c1
              have y2 := HT6.out.e.c2
              have y3 := HT6.out.e.c3
              have y4 := HT6.out.e.c4
              have u0 := HT6.out.f.c0
              have u1 := HT6.out.f.c1
              have u2 := HT6.out.f.c2
              have u3 := HT6.out.f.c3
              have xf := HT6.out.p.fr
              have yf := HT6.out.e.fr
              have uf := HT6.out.f.fr
              have d0 := HQ6.out.c0
              have d1 := HQ6.out.c1
              have d2 := HQ6.out.c2
              have d3 := HQ6.out.c3
              have df := HQ6.out.fr
              go_upto_region 17 with fail
              replace HT6 := Lib.hid (HT6.out.far (K := D) (j := 2) (by omega) (.string (str AK)))
              replace HQ6 := Lib.hid (HQ6.out.set2 (.string (str AK)))
              replace HS6 := Lib.hid (HS6.out.below ((Below.refl w.heap.size w12).setCell (p := ⟨D, 2, none⟩) (by show w.heap.size ≤ D; omega) (.string (str AK))))
              generalize w12.setCell ⟨D, 2, none⟩ (.string (str AK)) = W13 at *
              clear d0 d1 d2 d3 df x0 x1 x2 x3 x4 y0 y1 y2 y3 y4 u0 u1 u2 u3 xf yf uf
              have x0 := HT6.out.p.c0
              have x1 := HT6.out.p.c1
              have x2 := HT6.out.p.c2
              have x3 := HT6.out.p.c3
              have x4 := HT6.out.p.c4
              have y0 := HT6.out.e.c0
              have y1 := HT6.out.e.c1
              have y2 := HT6.out.e.c2
              have y3 := HT6.out.e.c3
              have y4 := HT6.out.e.c4
              have u0 := HT6.out.f.c0
              have u1 := HT6.out.f.c1
              have u2 := HT6.out.f.c2
              have u3 := HT6.out.f.c3
              have xf := HT6.out.p.fr
              have yf := HT6.out.e.fr
              have uf := HT6.out.f.fr
              have d0 := HQ6.out.c0
              have d1 := HQ6.out.c1
              have d2 := HQ6.out.c2
              have d3 := HQ6.out.c3
              have df := HQ6.out.fr
              go_region
              go_wp2_with fail
              obtain ⟨hR, hQ, hE⟩ := (HT6.out).fin (.int .i64 z.ep) (.int .i64 z.ot) (.int .i64 z.fi) (.slice A2 z.out.length a2) (.int .i64 z.wa) (.string ⟨#[]⟩) (.bool false) (.string (str (AK))) (.bool an)
              have t0 := hR.drew.c0
              have t1 := hR.drew.c1
              have t2 := hR.drew.c2
              have t3 := hR.drew.c3
              have t4 := hR.drew.c4
              have q0 := hQ.drew.c0
              have q1 := hQ.drew.c1
              have q2 := hQ.drew.c2
              have q3 := hQ.drew.c3
              have hSS := HS6.out.below (below_quad (B := w.heap.size) (H := w.heap.size + 2) (below_five (B := w.heap.size) (H := w.heap.size + 1) (Below.refl _ _) (by omega) (.int .i64 z.ep) (.int .i64 z.ot) (.int .i64 z.fi) (.slice A2 z.out.length a2) (.int .i64 z.wa)) (by omega) (.string ⟨#[]⟩) (.bool false) (.string (str AK)) (.bool an)).drew
              have hfin := TakeEndS.mk2 (w := w) (A0 := A) (ep := z.ep) (ot := z.ot) (fi := z.fi) (wa := z.wa) (out := z.out) (pc := []) (has := false) (rp := AK) (an := an) (A := A2) (c := a2) hr.out hSS HN2.out HC2.out hE.drew (fun N => HSr2.out N)
              unfold quadSet fiveSet at t0 t1 t2 t3 t4 q0 q1 q2 q3 hfin
              exact bodyPost_ret (v := .tuple #[.agg #[.int .i64 z.ep, .int .i64 z.ot, .int .i64 z.fi, .slice A2 z.out.length a2, .int .i64 (z.wa)], .agg #[.string (str []), .bool false, .string (str (AK)), .bool an]]) (by simp [results, Try.results21, go_sem, str_none, t0, t1, t2, t3, t4, q0, q1, q2, q3]) rfl hfin
            case pos =>
              have hq3 : ((n2 : Int) == z.wa) = true := beq_iff_eq.2 h3
              by_cases h4 : z.wa < 1099511627776
              case neg =>
                have hq4 : decide (z.wa < 1099511627776) = false := decide_eq_false h4
                have hr := Lib.hid (HR4.out (fun e => h4 e.2))
                clear HR3 HR4
                go_upto_region 16 with fail
                clear x4 c2
                have HAk := Lib.hid (fun W => acknowledge_any (z) A2 a2 W HZ3.out)
                unfold LEnd.val at HAk
                obtain ⟨AK, hAK⟩ : ∃ AK, ackB (z) = AK := ⟨_, rfl⟩
                rw [hAK] at HAk hr
                clear hAK
                go_upto_region 16 with fail
                have x0 := HT6.out.p.c0
                have x1 := HT6.out.p.c1
                have x2 := HT6.out.p.c2
                have x3 := HT6.out.p.c3
                have x4 := HT6.out.p.c4
                have y0 := HT6.out.e.c0
                have y1 := HT6.out.e.c1
                have y2 := HT6.out.e.c2
                have y3 := HT6.out.e.c3
                have y4 := HT6.out.e.c4
                have u0 := HT6.out.f.c0
                have u1 := HT6.out.f.c1
                have u2 := HT6.out.f.c2
                have u3 := HT6.out.f.c3
                have xf := HT6.out.p.fr
                have yf := HT6.out.e.fr
                have uf := HT6.out.f.fr
                have d0 := HQ6.out.c0
                have d1 := HQ6.out.c1
                have d2 := HQ6.out.c2
                have d3 := HQ6.out.c3
                have df := HQ6.out.fr
                go_wp2_with fail
                refine (HAk.out _).mono ?_
                rintro e w12 ⟨rfl, hb12⟩
                replace HT6 := Lib.hid (HT6.out.later hb12)
                replace HQ6 := Lib.hid (HQ6.out.below hb12)
                replace HS6 := Lib.hid (HS6.out.below (hb12.mono (by have := HTold.out.bel.size; omega)))
                clear hb12 HTold d0 d1 d2 d3 df x0 x1 x2 x3 x4 y0 y1 y2 y3 y4 u0 u1 u2 u3 xf yf uf
                have x0 := HT6.out.p.c0
                have x1 := HT6.out.p.c1
                have x2 := HT6.out.p.c2
                have x3 := HT6.out.p.c3
                have x4 := HT6.out.p.c4
                have y0 := HT6.out.e.c0
                have y1 := HT6.out.e.c1
                have y2 := HT6.out.e.c2
                have y3 := HT6.out.e.c3
                have y4 := HT6.out.e.c4
                have u0 := HT6.out.f.c0
                have u1 := HT6.out.f.c1
                have u2 := HT6.out.f.c2
                have u3 := HT6.out.f.c3
                have xf := HT6.out.p.fr
                have yf := HT6.out.e.fr
                have uf := HT6.out.f.fr
                have d0 := HQ6.out.c0
                have d1 := HQ6.out.c1
                have d2 := HQ6.out.c2
                have d3 := HQ6.out.c3
                have df := HQ6.out.fr
                go_upto_region 17 with fail
                replace HT6 := Lib.hid (HT6.out.far (K := D) (j := 2) (by omega) (.string (str AK)))
                replace HQ6 := Lib.hid (HQ6.out.set2 (.string (str AK)))
                replace HS6 := Lib.hid (HS6.out.below ((Below.refl w.heap.size w12).setCell (p := ⟨D, 2, none⟩) (by show w.heap.size ≤ D; omega) (.string (str AK))))
                generalize w12.setCell ⟨D, 2, none⟩ (.string (str AK)) = W13 at *
                clear d0 d1 d2 d3 df x0 x1 x2 x3 x4 y0 y1 y2 y3 y4 u0 u1 u2 u3 xf yf uf
                have x0 := HT6.out.p.c0
                have x1 := HT6.out.p.c1
                have x2 := HT6.out.p.c2
                have x3 := HT6.out.p.c3
                have x4 := HT6.out.p.c4
                have y0 := HT6.out.e.c0
                have y1 := HT6.out.e.c1
                have y2 := HT6.out.e.c2
                have y3 := HT6.out.e.c3
                have y4 := HT6.out.e.c4
                have u0 := HT6.out.f.c0
                have u1 := HT6.out.f.c1
                have u2 := HT6.out.f.c2
                have u3 := HT6.out.f.c3
                have xf := HT6.out.p.fr
                have yf := HT6.out.e.fr
                have uf := HT6.out.f.fr
                have d0 := HQ6.out.c0
                have d1 := HQ6.out.c1
                have d2 := HQ6.out.c2
                have d3 := HQ6.out.c3
                have df := HQ6.out.fr
                go_region
                go_wp2_with fail
                obtain ⟨hR, hQ, hE⟩ := (HT6.out).fin (.int .i64 z.ep) (.int .i64 z.ot) (.int .i64 z.fi) (.slice A2 z.out.length a2) (.int .i64 z.wa) (.string ⟨#[]⟩) (.bool false) (.string (str (AK))) (.bool an)
                have t0 := hR.drew.c0
                have t1 := hR.drew.c1
                have t2 := hR.drew.c2
                have t3 := hR.drew.c3
                have t4 := hR.drew.c4
                have q0 := hQ.drew.c0
                have q1 := hQ.drew.c1
                have q2 := hQ.drew.c2
                have q3 := hQ.drew.c3
                have hSS := HS6.out.below (below_quad (B := w.heap.size) (H := w.heap.size + 2) (below_five (B := w.heap.size) (H := w.heap.size + 1) (Below.refl _ _) (by omega) (.int .i64 z.ep) (.int .i64 z.ot) (.int .i64 z.fi) (.slice A2 z.out.length a2) (.int .i64 z.wa)) (by omega) (.string ⟨#[]⟩) (.bool false) (.string (str AK)) (.bool an)).drew
                have hfin := TakeEndS.mk2 (w := w) (A0 := A) (ep := z.ep) (ot := z.ot) (fi := z.fi) (wa := z.wa) (out := z.out) (pc := []) (has := false) (rp := AK) (an := an) (A := A2) (c := a2) hr.out hSS HN2.out HC2.out hE.drew (fun N => HSr2.out N)
                unfold quadSet fiveSet at t0 t1 t2 t3 t4 q0 q1 q2 q3 hfin
                exact bodyPost_ret (v := .tuple #[.agg #[.int .i64 z.ep, .int .i64 z.ot, .int .i64 z.fi, .slice A2 z.out.length a2, .int .i64 (z.wa)], .agg #[.string (str []), .bool false, .string (str (AK)), .bool an]]) (by simp [results, Try.results21, go_sem, str_none, t0, t1, t2, t3, t4, q0, q1, q2, q3]) rfl hfin
              case pos =>
                have hq4 : decide (z.wa < 1099511627776) = true := decide_eq_true h4
                have hw1 := HZ3.out.w1
                have HZ4 : Hid (LEnd.Ok3 { z with wa := z.wa + 1 }) := Lib.hid ⟨HZ3.out.e1, HZ3.out.e2, HZ3.out.o1, HZ3.out.o2, by show 1 ≤ z.wa + 1; omega, by show z.wa + 1 ≤ _; omega⟩
                have hr := Lib.hid (HR3.out ⟨h3, h4⟩)
                clear HR3 HR4
                have c4 := HCn6.out.c4
                have hwz : IntKind.i64.wrap (z.wa + 1) = z.wa + 1 := by rw [IntKind.wrap_i64]; omega
                have d0 := HQ6.out.c0
                have d1 := HQ6.out.c1
                have d2 := HQ6.out.c2
                have d3 := HQ6.out.c3
                have df := HQ6.out.fr
                have xf := HT6.out.p.fr
                go_upto_region 15 with fail
                have hDP : w.heap.size + 2 < D := hloD
                replace HT6 := Lib.hid (HT6.out.far (K := D) (j := 0) hloD (.string (str pc)))
                replace HQ6 := Lib.hid (HQ6.out.set0 (.string (str pc)))
                replace HS6 := Lib.hid (HS6.out.below ((Below.refl w.heap.size _).setCell (p := ⟨D, 0, none⟩) (by show w.heap.size ≤ D; omega) (.string (str pc))))
                replace HT6 := Lib.hid (HT6.out.far (K := D) (j := 1) hloD (.bool true))
                replace HQ6 := Lib.hid (HQ6.out.set1 (.bool true))
                replace HS6 := Lib.hid (HS6.out.below ((Below.refl w.heap.size _).setCell (p := ⟨D, 1, none⟩) (by show w.heap.size ≤ D; omega) (.bool true)))
                clear d0 d1 d2 d3 df c2 c4 x4 xf HTold
                generalize (W6.setCell ⟨D, 0, none⟩ (.string (str pc))).setCell ⟨D, 1, none⟩ (.bool true) = W7 at *
                have x4 := HT6.out.p.c4
                have xf := HT6.out.p.fr
                go_upto_region 16 with fail
                replace HT6 := Lib.hid (HT6.out.set4 (.int .i64 (z.wa + 1)))
                replace HQ6 := Lib.hid (HQ6.out.far (p := ⟨w.heap.size, 4, none⟩) (by show D ≠ w.heap.size; omega) (.int .i64 (z.wa + 1)))
                replace HS6 := Lib.hid (HS6.out.below ((Below.refl w.heap.size _).setCell (p := ⟨w.heap.size, 4, none⟩) (Nat.le_refl _) (.int .i64 (z.wa + 1))))
                clear x4 xf
                generalize W7.setCell ⟨w.heap.size, 4, none⟩ (.int .i64 (z.wa + 1)) = W8 at *
                have HTold := HT6
                have HAk := Lib.hid (fun W => acknowledge_any ({ z with wa := z.wa + 1 }) A2 a2 W HZ4.out)
                unfold LEnd.val at HAk
                simp only at HAk
                obtain ⟨AK, hAK⟩ : ∃ AK, ackB ({ z with wa := z.wa + 1 }) = AK := ⟨_, rfl⟩
                rw [hAK] at HAk hr
                clear hAK
                go_upto_region 16 with fail
                have x0 := HT6.out.p.c0
                have x1 := HT6.out.p.c1
                have x2 := HT6.out.p.c2
                have x3 := HT6.out.p.c3
                have x4 := HT6.out.p.c4
                have y0 := HT6.out.e.c0
                have y1 := HT6.out.e.c1
                have y2 := HT6.out.e.c2
                have y3 := HT6.out.e.c3
                have y4 := HT6.out.e.c4
                have u0 := HT6.out.f.c0
                have u1 := HT6.out.f.c1
                have u2 := HT6.out.f.c2
                have u3 := HT6.out.f.c3
                have xf := HT6.out.p.fr
                have yf := HT6.out.e.fr
                have uf := HT6.out.f.fr
                have d0 := HQ6.out.c0
                have d1 := HQ6.out.c1
                have d2 := HQ6.out.c2
                have d3 := HQ6.out.c3
                have df := HQ6.out.fr
                go_wp2_with fail
                refine (HAk.out _).mono ?_
                rintro e w12 ⟨rfl, hb12⟩
                replace HT6 := Lib.hid (HT6.out.later hb12)
                replace HQ6 := Lib.hid (HQ6.out.below hb12)
                replace HS6 := Lib.hid (HS6.out.below (hb12.mono (by have := HTold.out.bel.size; omega)))
                clear hb12 HTold d0 d1 d2 d3 df x0 x1 x2 x3 x4 y0 y1 y2 y3 y4 u0 u1 u2 u3 xf yf uf
                have x0 := HT6.out.p.c0
                have x1 := HT6.out.p.c1
                have x2 := HT6.out.p.c2
                have x3 := HT6.out.p.c3
                have x4 := HT6.out.p.c4
                have y0 := HT6.out.e.c0
                have y1 := HT6.out.e.c1
                have y2 := HT6.out.e.c2
                have y3 := HT6.out.e.c3
                have y4 := HT6.out.e.c4
                have u0 := HT6.out.f.c0
                have u1 := HT6.out.f.c1
                have u2 := HT6.out.f.c2
                have u3 := HT6.out.f.c3
                have xf := HT6.out.p.fr
                have yf := HT6.out.e.fr
                have uf := HT6.out.f.fr
                have d0 := HQ6.out.c0
                have d1 := HQ6.out.c1
                have d2 := HQ6.out.c2
                have d3 := HQ6.out.c3
                have df := HQ6.out.fr
                go_upto_region 17 with fail
                replace HT6 := Lib.hid (HT6.out.far (K := D) (j := 2) (by omega) (.string (str AK)))
                replace HQ6 := Lib.hid (HQ6.out.set2 (.string (str AK)))
                replace HS6 := Lib.hid (HS6.out.below ((Below.refl w.heap.size w12).setCell (p := ⟨D, 2, none⟩) (by show w.heap.size ≤ D; omega) (.string (str AK))))
                generalize w12.setCell ⟨D, 2, none⟩ (.string (str AK)) = W13 at *
                clear d0 d1 d2 d3 df x0 x1 x2 x3 x4 y0 y1 y2 y3 y4 u0 u1 u2 u3 xf yf uf
                have x0 := HT6.out.p.c0
                have x1 := HT6.out.p.c1
                have x2 := HT6.out.p.c2
                have x3 := HT6.out.p.c3
                have x4 := HT6.out.p.c4
                have y0 := HT6.out.e.c0
                have y1 := HT6.out.e.c1
                have y2 := HT6.out.e.c2
                have y3 := HT6.out.e.c3
                have y4 := HT6.out.e.c4
                have u0 := HT6.out.f.c0
                have u1 := HT6.out.f.c1
                have u2 := HT6.out.f.c2
                have u3 := HT6.out.f.c3
                have xf := HT6.out.p.fr
                have yf := HT6.out.e.fr
                have uf := HT6.out.f.fr
                have d0 := HQ6.out.c0
                have d1 := HQ6.out.c1
                have d2 := HQ6.out.c2
                have d3 := HQ6.out.c3
                have df := HQ6.out.fr
                go_region
                go_wp2_with fail
                obtain ⟨hR, hQ, hE⟩ := (HT6.out).fin (.int .i64 z.ep) (.int .i64 z.ot) (.int .i64 z.fi) (.slice A2 z.out.length a2) (.int .i64 (z.wa + 1)) (.string (str pc)) (.bool true) (.string (str (AK))) (.bool an)
                have t0 := hR.drew.c0
                have t1 := hR.drew.c1
                have t2 := hR.drew.c2
                have t3 := hR.drew.c3
                have t4 := hR.drew.c4
                have q0 := hQ.drew.c0
                have q1 := hQ.drew.c1
                have q2 := hQ.drew.c2
                have q3 := hQ.drew.c3
                have hSS := HS6.out.below (below_quad (B := w.heap.size) (H := w.heap.size + 2) (below_five (B := w.heap.size) (H := w.heap.size + 1) (Below.refl _ _) (by omega) (.int .i64 z.ep) (.int .i64 z.ot) (.int .i64 z.fi) (.slice A2 z.out.length a2) (.int .i64 (z.wa + 1))) (by omega) (.string (str pc)) (.bool true) (.string (str AK)) (.bool an)).drew
                have hfin := TakeEndS.mk2 (w := w) (A0 := A) (ep := z.ep) (ot := z.ot) (fi := z.fi) (wa := z.wa + 1) (out := z.out) (pc := pc) (has := true) (rp := AK) (an := an) (A := A2) (c := a2) hr.out hSS HN2.out HC2.out hE.drew (fun N => HSr2.out N)
                unfold quadSet fiveSet at t0 t1 t2 t3 t4 q0 q1 q2 q3 hfin
                exact bodyPost_ret (v := .tuple #[.agg #[.int .i64 z.ep, .int .i64 z.ot, .int .i64 z.fi, .slice A2 z.out.length a2, .int .i64 (z.wa + 1)], .agg #[.string (str pc), .bool true, .string (str (AK)), .bool an]]) (by simp [results, Try.results21, go_sem, t0, t1, t2, t3, t4, q0, q1, q2, q3]) rfl hfin
theorem LTake_any (x : LEnd) (A : Option Addr) (c : Nat) (s : List UInt8) (w : World) (h : Strs w w.heap.size A x.out) (hn : A = none → c = 0) (hc : x.out.length ≤ c) (hx : x.Ok) (hs : s.length ≤ 281474976710656) :
    Calls Try.prog 21 #[x.val A c, .string (str s)] w (TakeEnd (takeX x s) w) := (LTake_anyS x A c s w h hn hc hx hs).mono fun _ _ h => h.less
end Go.Proofs.Ytdhmkcomngbmaaa
