/- The contract of Put of the package link. -/
import Derived.Test.YtdhmkcomngbmaaaLinkD
import Derived.Test.YtdhmkcomngbmaaaLinkV
namespace Go.Proofs.Ytdhmkcomngbmaaa
open Go.RowKit

theorem own_far15 {w : World} {B : Nat} {e : TypeId} {size n : Nat} {v : Value} {xs : List Value} (h : w.ownsRow B e size v n xs) {b : Nat} (hb : b < B) (j : Nat) (u : Value) : (w.setCell ⟨b, j, none⟩ u).ownsRow B e size v n xs :=
  h.kept (row := some b) ⟨rfl, rfl, rfl, by simp [World.setCell], fun k _ hk => Below.heap_setCell _ _ _ _ (fun e => hk (by simp [e]))⟩ (by
    rcases h.2 with ⟨rfl, _⟩ | ⟨g, cap, cur, rfl, hg, _⟩
    · simp [Value.ownBlock]
    · right; simp [Value.ownBlock]; omega)
theorem own_five {w : World} {B : Nat} {e : TypeId} {size n : Nat} {v : Value} {xs : List Value} (h : w.ownsRow B e size v n xs) {b : Nat} (hb : b < B) (v0 v1 v2 v3 v4 : Value) : (fiveSet w b v0 v1 v2 v3 v4).ownsRow B e size v n xs :=
  own_far15 (own_far15 (own_far15 (own_far15 (own_far15 h hb 0 v0) hb 1 v1) hb 2 v2) hb 3 v3) hb 4 v4
theorem own_drew {w : World} {B : Nat} {e : TypeId} {size n : Nat} {v : Value} {xs : List Value} (h : w.ownsRow B e size v n xs) : w.drew.ownsRow B e size v n xs := own_kept h (Below.refl _ _).drew

/-- A row with one piece more. -/
theorem Concat_piece {WX : World} {A : Option Addr} {n c : Nat} {xs : List (List UInt8)} (P : List UInt8) (hn : xs.length = n) (h : Strs WX WX.heap.size A xs) (hx : n ≤ 10000) (hnil : A = none → c = 0) :
    Calls Try.prog 34 #[.slice (some ⟨WX.heap.size + 1, 0, none⟩) 2 2] ((WX.alloc (.cells #[.string (str P)] 9)).alloc (.cells #[.slice A n c, .slice (some ⟨WX.heap.size, 0, none⟩) 1 1] 22)) fun e w' =>
      ∃ v, e = .returned v ∧ w'.ownsRow (WX.heap.size + 2) 9 1 v (n + 1) ((xs ++ [P]).map txt) ∧ Below WX.heap.size WX w' := by
  subst hn
  have b1 := below_one WX (.cells #[.string (str P)] 9)
  have b2 := below_one (WX.alloc (.cells #[.string (str P)] 9)) (.cells #[.slice A xs.length c, .slice (some ⟨WX.heap.size, 0, none⟩) 1 1] 22)
  have hs1 : Strs (WX.alloc (.cells #[.string (str P)] 9)) (WX.alloc (.cells #[.string (str P)] 9)).heap.size (some ⟨WX.heap.size, 0, none⟩) [P] := .inr ⟨WX.heap.size, 0, rfl, by simp, fun j hj => by
    obtain rfl : j = 0 := by simp at hj; omega
    rw [Lib.cell_of_heap (heap_alloc_new WX _)]; rfl⟩
  have e1 : (WX.alloc (.cells #[.string (str P)] 9)).heap.size = WX.heap.size + 1 := by simp
  have hcell := fun j => Lib.cell_of_heap (heap_alloc_new (WX.alloc (.cells #[.string (str P)] 9)) (.cells #[.slice A xs.length c, .slice (some ⟨WX.heap.size, 0, none⟩) 1 1] 22)) j
  rw [e1] at hcell
  refine (ConcatS_two (c1 := c) (c2 := 1) (g := WX.heap.size + 1) ((h.next b1).next b2) (hs1.next b2) ⟨by omega, hnil⟩ ⟨by simp, fun h => (by cases h)⟩ (by simp) (by rw [hcell]; rfl) (by rw [hcell]; rfl)).mono ?_
  rintro e w' ⟨v, rfl, hown, hb⟩
  have e2 : ((WX.alloc (.cells #[.string (str P)] 9)).alloc (.cells #[.slice A xs.length c, .slice (some ⟨WX.heap.size, 0, none⟩) 1 1] 22)).heap.size = WX.heap.size + 2 := by simp
  rw [e2] at hown hb
  exact ⟨v, rfl, hown, (b1.trans (b2.mono (by simp))).trans (hb.mono (by omega))⟩

/-- What a call leaves that answers an end, a text, an error. -/
def EndErr (y : LEnd) (s : List UInt8) (er : Int) (w : World) (e : Ending) (w' : World) : Prop := ∃ v, e = .returned (.tuple #[v, .string (str s), .int .i64 er]) ∧ EndIs y w v w'
/-- .. with where the pieces lie: in a block of the call's own. -/
def EndErrS (y : LEnd) (s : List UInt8) (er : Int) (w : World) (e : Ending) (w' : World) : Prop := ∃ A c, e = .returned (.tuple #[y.val A c, .string (str s), .int .i64 er]) ∧ Strs w' w'.heap.size A y.out ∧ (A = none → c = 0) ∧ y.out.length ≤ c ∧ Below w.heap.size w w' ∧ ∀ a, A = some a → w.heap.size ≤ a.block ∧ a.block < w'.heap.size
theorem EndErrS.less {y : LEnd} {s : List UInt8} {er : Int} {w : World} {e : Ending} {w' : World} (h : EndErrS y s er w e w') : EndErr y s er w e w' := by
  obtain ⟨A, c, h1, h2, h3, h4, h5, _⟩ := h
  exact ⟨_, h1, A, c, rfl, h2, h3, h4, h5⟩
theorem own_base_at {w : World} {B : Nat} {e : TypeId} {size n : Nat} {A : Option Addr} {m c : Nat} {xs : List Value} (h : w.ownsRow B e size (.slice A m c) n xs) : ∀ a, A = some a → B ≤ a.block ∧ a.block < w.heap.size := by
  rcases h.2 with ⟨h, _⟩ | ⟨g, cap, cur, h, hg, hg2, _⟩
  · injection h with h1; intro a ha; rw [h1] at ha; cases ha
  · injection h with h1; intro a ha; rw [h1] at ha; injection ha with ha; rw [← ha]; exact ⟨hg, heap_lt hg2⟩
theorem EndErr.none_ {er : Int} {w w' : World} (hb : Below w.heap.size w w') : EndErr LEnd.none_ [] er w (.returned (.tuple #[.agg #[.int .i64 0, .int .i64 0, .int .i64 0, .slice none 0 0, .int .i64 0], .string ⟨#[]⟩, .int .i64 er])) w' :=
  ⟨_, rfl, EndIs.none_ (x := LEnd.none_) rfl hb⟩
theorem own_strs2 {w : World} {base : Nat} {e : TypeId} {v : Value} {n : Nat} {xs : List (List UInt8)} (h : w.ownsRow base e 1 v n (xs.map txt)) :
    ∃ A c, v = .slice A n c ∧ xs.length = n ∧ Strs w w.heap.size A xs ∧ (A = none → c = 0) ∧ n ≤ c := by
  obtain ⟨A, c, rfl, hl, hs⟩ := own_strs h
  refine ⟨A, c, rfl, hl, hs, ?_, ?_⟩
  · rintro rfl
    rcases h.2 with ⟨h, _⟩ | ⟨g, cap, cur, h, _⟩
    · injection h
    · injection h with h1; cases h1
  · rcases h.2 with ⟨h, h0⟩ | ⟨g, cap, cur, h, _, _, h4, _⟩
    · injection h with _ h2 h3; omega
    · injection h with _ _ h; omega
theorem own_strs2' {w : World} {base : Nat} {e : TypeId} {v : Value} {n : Nat} {cs : List Value} (h : w.ownsRow base e 1 v n cs) (h0 : 0 < n) : ∃ A c, v = .slice A n c := by
  rcases h.2 with ⟨_, h1⟩ | ⟨g, cap, cur, h1, _⟩
  · omega
  · exact ⟨_, _, h1⟩
theorem putX_val (x : LEnd) (p : List UInt8) (A : Option Addr) (c : Nat) : (putX x p).val A c = .agg #[.int .i64 x.ep, .int .i64 x.ot, .int .i64 x.fi, .slice A (x.out.length + 1) c, .int .i64 x.wa] := by
  unfold LEnd.val putX; simp

set_option maxHeartbeats 2000000 in
set_option maxRecDepth 100000 in
theorem LPut_wrong (x : LEnd) (A : Option Addr) (c : Nat) (p : List UInt8) (w : World) (h : Strs w w.heap.size A x.out) (hl : x.out.length ≤ 9223372036854775807) (hx : okB x = false) :
    Calls Try.prog 12 #[x.val A c, .string (str p)] w (EndErr LEnd.none_ [] 1 w) := by
  obtain ⟨V, hV⟩ : ∃ V, V = (w.alloc (.cells #[.int .i64 x.ep, .int .i64 x.ot, .int .i64 x.fi, .slice A x.out.length c, .int .i64 x.wa] 24)).alloc (.cells #[.int .i64 0, .int .i64 0, .int .i64 0, .slice none 0 0, .int .i64 0] 24) := ⟨_, rfl⟩
  have HBV : Hid (Below w.heap.size w V) := Lib.hid (by rw [hV]; exact below_news _ _ _)
  have HF0 : Hid (Five V w.heap.size (.int .i64 x.ep) (.int .i64 x.ot) (.int .i64 x.fi) (.slice A x.out.length c) (.int .i64 x.wa) 24) := Lib.hid (by rw [hV]; exact (boxes5 w _ _ _ _ _ _ _ _ _ _ _ _ (Below.refl _ _)).1)
  have HF1 : Hid (Five V (w.heap.size + 1) (.int .i64 0) (.int .i64 0) (.int .i64 0) (.slice none 0 0) (.int .i64 0) 24) := Lib.hid (by rw [hV]; exact (boxes5 w _ _ _ _ _ _ _ _ _ _ _ _ (Below.refl _ _)).2.1)
  have HV := Lib.hid hV
  have HRt := Lib.hid (fun z : LatW V => LRight_any x A c z.wd ((h.next HBV.out).next z.bel) hl)
  have hsV : w.heap.size + 2 ≤ V.heap.size := by rw [hV]; simp
  clear hV
  have hne : w.heap.size + 1 ≠ w.heap.size := by omega
  have hne2 : w.heap.size ≠ w.heap.size + 1 := by omega
  have HOk := Lib.hid hx
  clear h hl hx
  unfold LEnd.val at HRt ⊢
  go_enter Try.func12, Try.ntmps12
  go_upto_region 1 with fail
  rw [← HV.out]
  obtain ⟨z0, hz0⟩ := LatW.start V
  rw [← hz0]
  clear hz0
  have x0 := fun z : LatW V => (HF0.out.lat z).c0
  have x1 := fun z : LatW V => (HF0.out.lat z).c1
  have x2 := fun z : LatW V => (HF0.out.lat z).c2
  have x3 := fun z : LatW V => (HF0.out.lat z).c3
  have x4 := fun z : LatW V => (HF0.out.lat z).c4
  have y0 := fun z : LatW V => (HF1.out.lat z).c0
  have y1 := fun z : LatW V => (HF1.out.lat z).c1
  have y2 := fun z : LatW V => (HF1.out.lat z).c2
  have y3 := fun z : LatW V => (HF1.out.lat z).c3
  have y4 := fun z : LatW V => (HF1.out.lat z).c4
  have xf := fun z : LatW V => (HF0.out.lat z).fr
  have yf := fun z : LatW V => (HF1.out.lat z).fr
  go_wp2_with (go_at_call 14; refine (HRt.out z0).mono ?_; rw [HOk.out]; rintro e w9 ⟨rfl, hb9⟩; obtain ⟨z1, hz1⟩ := LatW.later z0 hb9; subst hz1; clear hb9)
  have HR := (HF1.out.lat z1).set (.int .i64 0) (.int .i64 0) (.int .i64 0) (.slice none 0 0) (.int .i64 0)
  have HE := below_five (lat_end HBV.out z1) (H := w.heap.size + 1) (by omega) (.int .i64 0) (.int .i64 0) (.int .i64 0) (.slice none 0 0) (.int .i64 0)
  have t0 := HR.c0
  have t1 := HR.c1
  have t2 := HR.c2
  have t3 := HR.c3
  have t4 := HR.c4
  unfold fiveSet at t0 t1 t2 t3 t4 HE
  exact bodyPost_ret (v := .tuple #[.agg #[.int .i64 0, .int .i64 0, .int .i64 0, .slice none 0 0, .int .i64 0], .string ⟨#[]⟩, .int .i64 1]) (by simp [results, Try.results12, go_sem, t0, t1, t2, t3, t4]) rfl (EndErr.none_ HE)

set_option maxHeartbeats 4000000 in
set_option maxRecDepth 100000 in
theorem LPut_no (x : LEnd) (A : Option Addr) (c : Nat) (p : List UInt8) (w : World) (h : Strs w w.heap.size A x.out) (hx : x.Ok) (he : putE15 x p ≠ 0) :
    Calls Try.prog 12 #[x.val A c, .string (str p)] w (EndErr LEnd.none_ [] (putE15 x p) w) := by
  have hl : x.out.length ≤ 9223372036854775807 := by have := hx.len; omega
  obtain ⟨V, hV⟩ : ∃ V, V = (w.alloc (.cells #[.int .i64 x.ep, .int .i64 x.ot, .int .i64 x.fi, .slice A x.out.length c, .int .i64 x.wa] 24)).alloc (.cells #[.int .i64 0, .int .i64 0, .int .i64 0, .slice none 0 0, .int .i64 0] 24) := ⟨_, rfl⟩
  have HBV : Hid (Below w.heap.size w V) := Lib.hid (by rw [hV]; exact below_news _ _ _)
  have HF0 : Hid (Five V w.heap.size (.int .i64 x.ep) (.int .i64 x.ot) (.int .i64 x.fi) (.slice A x.out.length c) (.int .i64 x.wa) 24) := Lib.hid (by rw [hV]; exact (boxes5 w _ _ _ _ _ _ _ _ _ _ _ _ (Below.refl _ _)).1)
  have HF1 : Hid (Five V (w.heap.size + 1) (.int .i64 0) (.int .i64 0) (.int .i64 0) (.slice none 0 0) (.int .i64 0) 24) := Lib.hid (by rw [hV]; exact (boxes5 w _ _ _ _ _ _ _ _ _ _ _ _ (Below.refl _ _)).2.1)
  have HV := Lib.hid hV
  have HRt := Lib.hid (fun z : LatW V => LRight_any x A c z.wd ((h.next HBV.out).next z.bel) hl)
  have hsV : w.heap.size + 2 ≤ V.heap.size := by rw [hV]; simp
  clear hV
  have hne : w.heap.size + 1 ≠ w.heap.size := by omega
  have hne2 : w.heap.size ≠ w.heap.size + 1 := by omega
  have HOk := Lib.hid ((okB_iff x).2 hx)
  have HNx := Lib.hid (fun W => next_any x A c W (by have := hx.f2; omega) (by have := hx.f1; omega) (by have := hx.len; omega))
  have hlen := hx.len
  have hf1 := hx.f1
  unfold LEnd.val at HRt HNx ⊢
  clear h hl
  by_cases g1 : 512 < p.length
  · have HLg : Hid (fitB p = false) := Lib.hid (by simp [fitB, g1])
    rw [show putE15 x p = 5 from by unfold putE15; rw [if_pos g1]]
    clear hx he g1
    go_enter Try.func12, Try.ntmps12
    go_upto_region 1 with fail
    rw [← HV.out]
    obtain ⟨z0, hz0⟩ := LatW.start V
    rw [← hz0]
    clear hz0
    have x0 := fun z : LatW V => (HF0.out.lat z).c0
    have x1 := fun z : LatW V => (HF0.out.lat z).c1
    have x2 := fun z : LatW V => (HF0.out.lat z).c2
    have x3 := fun z : LatW V => (HF0.out.lat z).c3
    have x4 := fun z : LatW V => (HF0.out.lat z).c4
    have y0 := fun z : LatW V => (HF1.out.lat z).c0
    have y1 := fun z : LatW V => (HF1.out.lat z).c1
    have y2 := fun z : LatW V => (HF1.out.lat z).c2
    have y3 := fun z : LatW V => (HF1.out.lat z).c3
    have y4 := fun z : LatW V => (HF1.out.lat z).c4
    have xf := fun z : LatW V => (HF0.out.lat z).fr
    have yf := fun z : LatW V => (HF1.out.lat z).fr
    go_wp2_with (first | (go_at_call 14; refine (HRt.out z0).mono ?_; rw [HOk.out]; rintro e w9 ⟨rfl, hb9⟩; obtain ⟨z1, hz1⟩ := LatW.later z0 hb9; subst hz1; clear hb9) | (go_at_call 32; refine (isLong_any _ _).mono ?_; rw [HLg.out]; rintro e w9 ⟨rfl, hw9⟩; subst hw9))
    have HR := (HF1.out.lat z1).set (.int .i64 0) (.int .i64 0) (.int .i64 0) (.slice none 0 0) (.int .i64 0)
    have HE := below_five (lat_end HBV.out z1) (H := w.heap.size + 1) (by omega) (.int .i64 0) (.int .i64 0) (.int .i64 0) (.slice none 0 0) (.int .i64 0)
    have t0 := HR.c0
    have t1 := HR.c1
    have t2 := HR.c2
    have t3 := HR.c3
    have t4 := HR.c4
    unfold fiveSet at t0 t1 t2 t3 t4 HE
    exact bodyPost_ret (v := .tuple #[.agg #[.int .i64 0, .int .i64 0, .int .i64 0, .slice none 0 0, .int .i64 0], .string ⟨#[]⟩, .int .i64 5]) (by simp [results, Try.results12, go_sem, t0, t1, t2, t3, t4]) rfl (EndErr.none_ HE)
  · have HLg : Hid (fitB p = true) := Lib.hid (by simp [fitB]; omega)
    have g2 : 63 < x.out.length ∨ 1099511627776 ≤ x.fi - 1 + x.out.length := by
      unfold putE15 at he
      rw [if_neg g1] at he
      split at he
      · assumption
      · exact absurd rfl he
    rw [show putE15 x p = 6 from by unfold putE15; rw [if_neg g1, if_pos g2]]
    clear he g1
    by_cases g3 : x.out.length = 64
    · have hq : ((x.out.length : Int) == 64) = true := by rw [beq_iff_eq]; omega
      clear hx g3 g2 hlen
      go_enter Try.func12, Try.ntmps12
      go_upto_region 1 with fail
      rw [← HV.out]
      obtain ⟨z0, hz0⟩ := LatW.start V
      rw [← hz0]
      clear hz0
      have x0 := fun z : LatW V => (HF0.out.lat z).c0
      have x1 := fun z : LatW V => (HF0.out.lat z).c1
      have x2 := fun z : LatW V => (HF0.out.lat z).c2
      have x3 := fun z : LatW V => (HF0.out.lat z).c3
      have x4 := fun z : LatW V => (HF0.out.lat z).c4
      have y0 := fun z : LatW V => (HF1.out.lat z).c0
      have y1 := fun z : LatW V => (HF1.out.lat z).c1
      have y2 := fun z : LatW V => (HF1.out.lat z).c2
      have y3 := fun z : LatW V => (HF1.out.lat z).c3
      have y4 := fun z : LatW V => (HF1.out.lat z).c4
      have xf := fun z : LatW V => (HF0.out.lat z).fr
      have yf := fun z : LatW V => (HF1.out.lat z).fr
      go_wp2_with (first | (go_at_call 14; refine (HRt.out z0).mono ?_; rw [HOk.out]; rintro e w9 ⟨rfl, hb9⟩; obtain ⟨z1, hz1⟩ := LatW.later z0 hb9; subst hz1; clear hb9) | (go_at_call 32; refine (isLong_any _ _).mono ?_; rw [HLg.out]; rintro e w9 ⟨rfl, hw9⟩; subst hw9) | (go_at_call 33; refine (HNx.out _).mono ?_; rintro e w9 ⟨rfl, hb9⟩; obtain ⟨z2, hz2⟩ := LatW.later z1 hb9; subst hz2; clear hb9))
      have HR := (HF1.out.lat z2).set (.int .i64 0) (.int .i64 0) (.int .i64 0) (.slice none 0 0) (.int .i64 0)
      have HE := below_five (lat_end HBV.out z2) (H := w.heap.size + 1) (by omega) (.int .i64 0) (.int .i64 0) (.int .i64 0) (.slice none 0 0) (.int .i64 0)
      have t0 := HR.c0
      have t1 := HR.c1
      have t2 := HR.c2
      have t3 := HR.c3
      have t4 := HR.c4
      unfold fiveSet at t0 t1 t2 t3 t4 HE
      exact bodyPost_ret (v := .tuple #[.agg #[.int .i64 0, .int .i64 0, .int .i64 0, .slice none 0 0, .int .i64 0], .string ⟨#[]⟩, .int .i64 6]) (by simp [results, Try.results12, go_sem, t0, t1, t2, t3, t4]) rfl (EndErr.none_ HE)
    · have hq : ((x.out.length : Int) == 64) = false := by rw [beq_eq_false_iff_ne]; omega
      have hgt : (1099511627776 : Int) < x.fi + (x.out.length : Int) := by omega
      clear hx
      go_enter Try.func12, Try.ntmps12
      go_upto_region 1 with fail
      rw [← HV.out]
      obtain ⟨z0, hz0⟩ := LatW.start V
      rw [← hz0]
      clear hz0
      have x0 := fun z : LatW V => (HF0.out.lat z).c0
      have x1 := fun z : LatW V => (HF0.out.lat z).c1
      have x2 := fun z : LatW V => (HF0.out.lat z).c2
      have x3 := fun z : LatW V => (HF0.out.lat z).c3
      have x4 := fun z : LatW V => (HF0.out.lat z).c4
      have y0 := fun z : LatW V => (HF1.out.lat z).c0
      have y1 := fun z : LatW V => (HF1.out.lat z).c1
      have y2 := fun z : LatW V => (HF1.out.lat z).c2
      have y3 := fun z : LatW V => (HF1.out.lat z).c3
      have y4 := fun z : LatW V => (HF1.out.lat z).c4
      have xf := fun z : LatW V => (HF0.out.lat z).fr
      have yf := fun z : LatW V => (HF1.out.lat z).fr
      go_wp2_with (first | (go_at_call 14; refine (HRt.out z0).mono ?_; rw [HOk.out]; rintro e w9 ⟨rfl, hb9⟩; obtain ⟨z1, hz1⟩ := LatW.later z0 hb9; subst hz1; clear hb9) | (go_at_call 32; refine (isLong_any _ _).mono ?_; rw [HLg.out]; rintro e w9 ⟨rfl, hw9⟩; subst hw9) | (go_at_call 33; refine (HNx.out _).mono ?_; rintro e w9 ⟨rfl, hb9⟩; obtain ⟨z2, hz2⟩ := LatW.later z1 hb9; subst hz2; clear hb9))
      have HR := (HF1.out.lat z2).set (.int .i64 0) (.int .i64 0) (.int .i64 0) (.slice none 0 0) (.int .i64 0)
      have HE := below_five (lat_end HBV.out z2) (H := w.heap.size + 1) (by omega) (.int .i64 0) (.int .i64 0) (.int .i64 0) (.slice none 0 0) (.int .i64 0)
      have t0 := HR.c0
      have t1 := HR.c1
      have t2 := HR.c2
      have t3 := HR.c3
      have t4 := HR.c4
      unfold fiveSet at t0 t1 t2 t3 t4 HE
      exact bodyPost_ret (v := .tuple #[.agg #[.int .i64 0, .int .i64 0, .int .i64 0, .slice none 0 0, .int .i64 0], .string ⟨#[]⟩, .int .i64 6]) (by simp [results, Try.results12, go_sem, t0, t1, t2, t3, t4]) rfl (EndErr.none_ HE)

set_option maxHeartbeats 4000000 in
set_option maxRecDepth 100000 in
theorem LPut_yesS (x : LEnd) (A : Option Addr) (c : Nat) (p : List UInt8) (w : World) (h : Strs w w.heap.size A x.out) (hn : A = none → c = 0) (hx : x.Ok) (he : putE15 x p = 0) :
    Calls Try.prog 12 #[x.val A c, .string (str p)] w (EndErrS (putX x p) (putS x p) 0 w) := by
  have hl : x.out.length ≤ 9223372036854775807 := by have := hx.len; omega
  obtain ⟨V, hV⟩ : ∃ V, V = (w.alloc (.cells #[.int .i64 x.ep, .int .i64 x.ot, .int .i64 x.fi, .slice A x.out.length c, .int .i64 x.wa] 24)).alloc (.cells #[.int .i64 0, .int .i64 0, .int .i64 0, .slice none 0 0, .int .i64 0] 24) := ⟨_, rfl⟩
  have HBV : Hid (Below w.heap.size w V) := Lib.hid (by rw [hV]; exact below_news _ _ _)
  have HF0 : Hid (Five V w.heap.size (.int .i64 x.ep) (.int .i64 x.ot) (.int .i64 x.fi) (.slice A x.out.length c) (.int .i64 x.wa) 24) := Lib.hid (by rw [hV]; exact (boxes5 w _ _ _ _ _ _ _ _ _ _ _ _ (Below.refl _ _)).1)
  have HF1 : Hid (Five V (w.heap.size + 1) (.int .i64 0) (.int .i64 0) (.int .i64 0) (.slice none 0 0) (.int .i64 0) 24) := Lib.hid (by rw [hV]; exact (boxes5 w _ _ _ _ _ _ _ _ _ _ _ _ (Below.refl _ _)).2.1)
  have HV := Lib.hid hV
  have HRt := Lib.hid (fun z : LatW V => LRight_any x A c z.wd ((h.next HBV.out).next z.bel) hl)
  have hsV : w.heap.size + 2 ≤ V.heap.size := by rw [hV]; simp
  clear hV
  have hne : w.heap.size + 1 ≠ w.heap.size := by omega
  have hne2 : w.heap.size ≠ w.heap.size + 1 := by omega
  have HOk := Lib.hid ((okB_iff x).2 hx)
  have HNx := Lib.hid (fun W => next_any x A c W (by have := hx.f2; omega) (by have := hx.f1; omega) (by have := hx.len; omega))
  have hlen := hx.len
  have hf1 := hx.f1
  have hf2 := hx.f2
  have hg : ¬ 512 < p.length ∧ ¬ (63 < x.out.length ∨ 1099511627776 ≤ x.fi - 1 + x.out.length) := by
    unfold putE15 at he
    split at he
    · omega
    · split at he
      · omega
      · exact ⟨by assumption, by assumption⟩
  obtain ⟨g1, g2⟩ := hg
  have HLg : Hid (fitB p = true) := Lib.hid (by simp [fitB]; omega)
  have hq : ((x.out.length : Int) == 64) = false := by rw [beq_eq_false_iff_ne]; omega
  have HCt := Lib.hid (fun z : LatW V => Concat_piece (c := c) p rfl ((h.next HBV.out).next z.bel) (by omega) hn)
  have hok : (putX x p).Ok := (put_stays hx he).1
  have HSe := Lib.hid (fun A' c' W => lseal_any (putX x p) A' c' 1 (x.fi + x.out.length) p W hok.ok3 (.inl rfl) (by omega) (by omega) (by omega))
  have HEn : Hid (∀ (s : List UInt8) (W : World) (v : Value) (A' : Option Addr) (c' B' : Nat), putS x p = s → v = .slice A' (x.out.length + 1) c' → W.ownsRow B' 9 1 v (x.out.length + 1) ((x.out ++ [p]).map txt) → w.heap.size ≤ B' → Below w.heap.size w W → EndErrS (putX x p) (putS x p) 0 w (.returned (.tuple #[.agg #[.int .i64 x.ep, .int .i64 x.ot, .int .i64 x.fi, v, .int .i64 x.wa], .string (str s), .int .i64 0])) W) := Lib.hid (fun s W v A' c' B' hs hv ho hB hb => by
    obtain ⟨A2, c2, hv2, hl2, hs2, hn2, hc2⟩ := own_strs2 ho
    subst hs hv2
    refine ⟨A2, c2, by rw [putX_val], hs2, hn2, ?_, hb, fun a ha => ⟨Nat.le_trans hB (own_base_at ho a ha).1, (own_base_at ho a ha).2⟩⟩
    show (x.out ++ [p]).length ≤ c2
    rw [hl2]; exact hc2)
  have HS4 : Hid (x.out.length < 4 → putS x p = pktB (putX x p) 1 (x.fi + x.out.length) p) := Lib.hid (fun h4 => by unfold putS; rw [if_pos h4]; rfl)
  have HS5 : Hid (¬ x.out.length < 4 → putS x p = []) := Lib.hid (fun h4 => by unfold putS; rw [if_neg h4])
  simp only [putX_val] at HSe
  unfold LEnd.val at HRt HNx ⊢
  clear h hl hx he g1 hok
  generalize pktB (putX x p) 1 (x.fi + x.out.length) p = PK at *
  generalize (x.out ++ [p]).map txt = CS at *
  generalize putX x p = Y at *
  generalize putS x p = PS at *
  go_enter Try.func12, Try.ntmps12
  go_upto_region 1 with fail
  rw [← HV.out]
  obtain ⟨z0, hz0⟩ := LatW.start V
  rw [← hz0]
  clear hz0
  have x0 := fun z : LatW V => (HF0.out.lat z).c0
  have x1 := fun z : LatW V => (HF0.out.lat z).c1
  have x2 := fun z : LatW V => (HF0.out.lat z).c2
  have x3 := fun z : LatW V => (HF0.out.lat z).c3
  have x4 := fun z : LatW V => (HF0.out.lat z).c4
  have y0 := fun z : LatW V => (HF1.out.lat z).c0
  have y1 := fun z : LatW V => (HF1.out.lat z).c1
  have y2 := fun z : LatW V => (HF1.out.lat z).c2
  have y3 := fun z : LatW V => (HF1.out.lat z).c3
  have y4 := fun z : LatW V => (HF1.out.lat z).c4
  have xf := fun z : LatW V => (HF0.out.lat z).fr
  have yf := fun z : LatW V => (HF1.out.lat z).fr
  go_wp2_with (first | (go_at_call 14; refine (HRt.out z0).mono ?_; rw [HOk.out]; rintro e w9 ⟨rfl, hb9⟩; obtain ⟨z1, hz1⟩ := LatW.later z0 hb9; subst hz1; clear hb9) | (go_at_call 32; refine (isLong_any _ _).mono ?_; rw [HLg.out]; rintro e w9 ⟨rfl, hw9⟩; subst hw9) | (go_at_call 33; refine (HNx.out _).mono ?_; rintro e w9 ⟨rfl, hb9⟩; obtain ⟨z2, hz2⟩ := LatW.later z1 hb9; subst hz2; clear hb9))
  refine (HCt.out z2).mono ?_
  rintro e w9 ⟨v3, rfl, ho3, hb3⟩
  have hsz : w.heap.size + 2 ≤ z2.wd.heap.size + 2 := by have := z2.bel.size; omega
  obtain ⟨z3, hz3⟩ := LatW.later z2 hb3
  subst hz3
  obtain ⟨A3, c3, hv3⟩ := own_strs2' ho3 (by omega)
  subst hv3
  clear hb3 HCt HRt HNx HOk HLg hq g2
  generalize z2.wd.heap.size + 2 = B3 at *
  have HO := Lib.hid (own_far15 ho3 (b := w.heap.size) (by omega) 3 (.slice A3 (x.out.length + 1) c3))
  have HG0 := Lib.hid ((HF0.out.lat z3).set3 (.slice A3 (x.out.length + 1) c3))
  have HG1 := Lib.hid ((HF1.out.lat z3).far (p := ⟨w.heap.size, 3, none⟩) hne (.slice A3 (x.out.length + 1) c3))
  have HB3 := Lib.hid ((lat_end HBV.out z3).setCell (p := ⟨w.heap.size, 3, none⟩) (Nat.le_refl _) (.slice A3 (x.out.length + 1) c3))
  obtain ⟨W3, hW3⟩ : ∃ W3, z3.wd.setCell ⟨w.heap.size, 3, none⟩ (.slice A3 (x.out.length + 1) c3) = W3 := ⟨_, rfl⟩
  rw [hW3] at HO HG0 HG1 HB3
  have HW3 := Lib.hid hW3
  clear hW3 ho3 HF0 HF1
  by_cases h4 : x.out.length < 4
  · have hps := HS4.out h4
    subst hps
    clear HS4 HS5
    go_upto_region 9 with fail
    rw [HW3.out]
    clear x0 x1 x2 x3 x4 y0 y1 y2 y3 y4 xf yf HV
    have x3 := HG0.out.c3
    go_upto_region 11 with fail
    have y0 := fun z : LatW W3 => (HG1.out.lat z).c0
    have y1 := fun z : LatW W3 => (HG1.out.lat z).c1
    have y2 := fun z : LatW W3 => (HG1.out.lat z).c2
    have y3 := fun z : LatW W3 => (HG1.out.lat z).c3
    have y4 := fun z : LatW W3 => (HG1.out.lat z).c4
    have yf := fun z : LatW W3 => (HG1.out.lat z).fr
    have hd0 := HG0.out.drew.all
    have HL := Lib.hid (fun z : LatW W3 => (HG0.out.lat z).all)
    clear x3
    go_region_held3 (fun w' => w'.cell? ⟨w.heap.size, 0, none⟩ = some (.int .i64 x.ep) ∧ w'.cell? ⟨w.heap.size, 1, none⟩ = some (.int .i64 x.ot) ∧ w'.cell? ⟨w.heap.size, 2, none⟩ = some (.int .i64 x.fi) ∧ w'.cell? ⟨w.heap.size, 3, none⟩ = some (.slice A3 (x.out.length + 1) c3) ∧ w'.cell? ⟨w.heap.size, 4, none⟩ = some (.int .i64 x.wa)) (first | with_reducible exact HL.out z4 | with_reducible exact hd0 | with_reducible exact (HG0.out.lat z4).far5 hne2 _ _ _ _ _) (first | (go_at_call 35; refine (HSe.out _ _ _).mono ?_; rintro e w8 ⟨rfl, hb8⟩; obtain ⟨z4, hz4⟩ := LatW.later (LatW.first W3) hb8; subst hz4; clear hb8))
    all_goals
      go_wp2_with fail
      have HR := (HG1.out.lat z4).set (.int .i64 x.ep) (.int .i64 x.ot) (.int .i64 x.fi) (.slice A3 (x.out.length + 1) c3) (.int .i64 x.wa)
      have HE := below_five (lat_end HB3.out z4) (H := w.heap.size + 1) (by omega) (.int .i64 x.ep) (.int .i64 x.ot) (.int .i64 x.fi) (.slice A3 (x.out.length + 1) c3) (.int .i64 x.wa)
      have HOE := own_five (own_kept HO.out z4.bel) (b := w.heap.size + 1) (by omega) (.int .i64 x.ep) (.int .i64 x.ot) (.int .i64 x.fi) (.slice A3 (x.out.length + 1) c3) (.int .i64 x.wa)
      have t0 := HR.c0
      have t1 := HR.c1
      have t2 := HR.c2
      have t3 := HR.c3
      have t4 := HR.c4
      unfold fiveSet at t0 t1 t2 t3 t4 HE HOE
      exact bodyPost_ret (v := .tuple #[.agg #[.int .i64 x.ep, .int .i64 x.ot, .int .i64 x.fi, .slice A3 (x.out.length + 1) c3, .int .i64 x.wa], .string (str PS), .int .i64 0]) (by simp [results, Try.results12, go_sem, t0, t1, t2, t3, t4]) rfl (HEn.out _ _ _ _ _ _ rfl rfl HOE (by omega) HE)
  · have hps := HS5.out h4
    subst hps
    clear HS4 HS5
    go_upto_region 9 with fail
    rw [HW3.out]
    clear x0 x1 x2 x3 x4 y0 y1 y2 y3 y4 xf yf HV
    have x0 := HG0.out.c0
    have x1 := HG0.out.c1
    have x2 := HG0.out.c2
    have x3 := HG0.out.c3
    have x4 := HG0.out.c4
    have y0 := HG1.out.c0
    have y1 := HG1.out.c1
    have y2 := HG1.out.c2
    have y3 := HG1.out.c3
    have y4 := HG1.out.c4
    have yf := HG1.out.fr
    go_wp2_with fail
    have HR := HG1.out.set (.int .i64 x.ep) (.int .i64 x.ot) (.int .i64 x.fi) (.slice A3 (x.out.length + 1) c3) (.int .i64 x.wa)
    have HE := below_five HB3.out (H := w.heap.size + 1) (by omega) (.int .i64 x.ep) (.int .i64 x.ot) (.int .i64 x.fi) (.slice A3 (x.out.length + 1) c3) (.int .i64 x.wa)
    have HOE := own_five HO.out (b := w.heap.size + 1) (by omega) (.int .i64 x.ep) (.int .i64 x.ot) (.int .i64 x.fi) (.slice A3 (x.out.length + 1) c3) (.int .i64 x.wa)
    have t0 := HR.c0
    have t1 := HR.c1
    have t2 := HR.c2
    have t3 := HR.c3
    have t4 := HR.c4
    unfold fiveSet at t0 t1 t2 t3 t4 HE HOE
    exact bodyPost_ret (v := .tuple #[.agg #[.int .i64 x.ep, .int .i64 x.ot, .int .i64 x.fi, .slice A3 (x.out.length + 1) c3, .int .i64 x.wa], .string ⟨#[]⟩, .int .i64 0]) (by simp [results, Try.results12, go_sem, t0, t1, t2, t3, t4]) rfl (HEn.out _ _ _ _ _ _ rfl rfl HOE (by omega) HE)
theorem LPut_yes (x : LEnd) (A : Option Addr) (c : Nat) (p : List UInt8) (w : World) (h : Strs w w.heap.size A x.out) (hn : A = none → c = 0) (hx : x.Ok) (he : putE15 x p = 0) :
    Calls Try.prog 12 #[x.val A c, .string (str p)] w (EndErr (putX x p) (putS x p) 0 w) := (LPut_yesS x A c p w h hn hx he).mono fun _ _ h => h.less
end Go.Proofs.Ytdhmkcomngbmaaa
