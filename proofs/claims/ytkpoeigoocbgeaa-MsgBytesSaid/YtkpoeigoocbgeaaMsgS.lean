/- What the walk of the document's Parse needs: a message's box that is turned, and what stays beside it. -/
import Derived.Test.YtkpoeigoocbgeaaMsgR
import Derived.Test.YtkpoeigoocbgeaaMsgI
import Derived.Laws.CopyOwn
namespace Go.Proofs.Ytkpoeigoocbgeaa
open Go.RowKit

def mgZ : Mg := ⟨0, 0, [], 0, 0, 0, false, [], 0, [], [], 0, 0, []⟩
def mmZ : MgM := ⟨none, 0, none, 0, none, 0, none, 0, none, 0⟩
def zMg : Array Value := mgZ.cells mmZ
theorem mg_one17 (m : Mg) (x : MgM) : (m.cells x).all (·.oneCell') = true := by simp [Mg.cells, Value.oneCell']
theorem Try.infoI17 : (Try.prog.info? 3).map (fun i => (i.zero, i.size, i.bytes)) = some (some (.int .i64 0), 1, 8) := by kernel_rfl
theorem zMg_one : zMg.all (·.oneCell') = true := by kernel_rfl
theorem zMg_info : (Try.prog.info? 52).map (·.size) = some zMg.size := by kernel_rfl
theorem msg_desc17 : Try.prog.underlying 52 = some (.struct ((match Try.prog.underlying 52 with | some (.struct fs) => fs | _ => #[]))) := by kernel_rfl
theorem results_cell17 {P : Program} {fn : Func} {p u : Tmp} {ty : TypeId} (h : fn.results = #[.cell p ty, .tmp u]) (tmps : Array Value) (w : World) (g : Nat) (t : TypeId) (cs : Array Value) (fr : Nat × Nat) (d : TypeDesc)
    (hp : tmps.getD p undef = .pointer (some ⟨g, 0, none⟩)) (hg : w.heap[g]? = some (.cells cs t fr))
    (hu : P.underlying ty = some d) (hd : (match d with | .struct _ | .array _ _ => true | _ => false) = true) (hi : (P.info? ty).map (·.size) = some cs.size) :
    (results fn tmps).run P w = .ok (.tuple #[.agg cs, tmps.getD u undef]) w := by
  have hp' : tmps[p]?.getD undef = .pointer (some ⟨g, 0, none⟩) := by simpa using hp
  simp [results, h, hp', asAddr, run_loadVar_row w g t ty cs fr d hg hu hd hi, Result.andThen]
/-- What the document's Parse answers. -/
def ParEnd (s : List UInt8) (w : World) (e : Ending) (w' : World) : Prop :=
  (∃ m x, Told s m ∧ e = .returned (.tuple #[m.val x, .bool true]) ∧ MgAt w' m x ∧ Below w.heap.size w w') ∨
  ((∀ m, ¬ Told s m) ∧ e = .returned (.tuple #[.agg zMg, .bool false]) ∧ Below w.heap.size w w')

/-- Everything but one block stays. -/
structure ButH (H : Nat) (w w' : World) : Prop where
  size : w.heap.size ≤ w'.heap.size
  block : ∀ k, k < w.heap.size → k ≠ H → w'.heap[k]? = w.heap[k]?
theorem ButH.refl (H : Nat) (w : World) : ButH H w w := ⟨Nat.le_refl _, fun _ _ _ => rfl⟩
theorem ButH.trans {H : Nat} {w w1 w2 : World} (h : ButH H w w1) (h2 : ButH H w1 w2) : ButH H w w2 := ⟨Nat.le_trans h.size h2.size, fun k hk hn => (h2.block k (Nat.lt_of_lt_of_le hk h.size) hn).trans (h.block k hk hn)⟩
theorem ButH.trans' {H : Nat} {w w1 w2 : World} (h : ButH H w w1) (hs : w1.heap.size ≤ w2.heap.size) (hb : ∀ k, k < w.heap.size → k ≠ H → w2.heap[k]? = w1.heap[k]?) : ButH H w w2 := ⟨Nat.le_trans h.size hs, fun k hk hn => (hb k hk hn).trans (h.block k hk hn)⟩
theorem ButH.below {H : Nat} {w w1 w2 : World} (h : ButH H w w1) (h2 : Below w1.heap.size w1 w2) : ButH H w w2 := h.trans ⟨h2.size, fun k hk _ => h2.block k hk⟩
theorem ButH.set {H : Nat} {w w1 : World} (h : ButH H w w1) (j : Nat) (v : Value) : ButH H w (w1.setCell ⟨H, j, none⟩ v) :=
  h.trans ⟨by simp, fun k _ hn => Below.heap_setCell _ _ _ _ hn⟩
theorem zero_ne {W : World} {H b o : Nat} {n : Int} {t : TypeId} (hz : W.heap[H]? = some (.cells zMg t (0, 0))) (h : W.cell? ⟨b, o, none⟩ = some (.int .i64 n)) (hn : n ≠ 0) : b ≠ H := by
  rintro rfl
  rw [Lib.cell_of_heap hz o] at h
  have hall : zMg.toList.all (fun v => match v with | .int _ n => n == 0 | _ => true) = true := by rfl
  rw [List.all_eq_true] at hall
  have hm : Value.int .i64 n ∈ zMg.toList := by
    rw [← Array.getElem?_toList] at h
    exact List.mem_of_getElem? h
  have := hall _ hm
  simp at this
  exact hn this
theorem cell_kept {H : Nat} {w w' : World} (h : ButH H w w') {b o : Nat} (hb : b < w.heap.size) (hn : b ≠ H) : w'.cell? ⟨b, o, none⟩ = w.cell? ⟨b, o, none⟩ := by
  simp only [World.cell?, h.block b hb hn]
theorem brs_kept {H : Nat} {W W' : World} {A : Option Addr} {l : List Br} {t : TypeId} (h : BrsAt W W.heap.size A l) (hz : W.heap[H]? = some (.cells zMg t (0, 0))) (ok : lined l = true) (hk : ButH H W W') : BrsAt W' W'.heap.size A l := by
  rcases h with h | ⟨b, off, rfl, hlt, hc⟩
  · exact .inl h
  · by_cases hl : l = []
    · exact .inl hl
    · have h0 : 0 < l.length := List.length_pos_iff.2 hl
      have hne : b ≠ H := by
        refine zero_ne hz (hc 0 h0).1 ?_
        unfold lined at ok
        rw [Bool.or_eq_true, List.isEmpty_iff] at ok
        rcases ok with ok | ok
        · exact absurd ok hl
        · obtain ⟨x, r, rfl, hx⟩ := lineOk_cons ok
          simp only [List.getElem_cons_zero]
          have := (lineOk_iff _).1 ok
          obtain ⟨_, _, h3⟩ := this
          have := (lineFrom_cons h3).1
          omega
      exact .inr ⟨b, off, rfl, Nat.lt_of_lt_of_le hlt hk.size, fun i hi => ⟨(cell_kept hk hlt hne).trans (hc i hi).1, (cell_kept hk hlt hne).trans (hc i hi).2⟩⟩
theorem bts_kept {H : Nat} {W W' : World} {A : Option Addr} {m : List Bt} {t : TypeId} (h : BtsAt W W.heap.size A m) (hz : W.heap[H]? = some (.cells zMg t (0, 0))) (ok : bitsOk m = true) (hk : ButH H W W') : BtsAt W' W'.heap.size A m := by
  rcases h with h | ⟨b, off, rfl, hlt, hc⟩
  · exact .inl h
  · by_cases hl : m = []
    · exact .inl hl
    · have h0 : 0 < m.length := List.length_pos_iff.2 hl
      have hne : b ≠ H := zero_ne hz (hc 0 h0).1 (by have := bitsFrom_le ok m[0] (List.getElem_mem h0); omega)
      exact .inr ⟨b, off, rfl, Nat.lt_of_lt_of_le hlt hk.size, fun i hi => ⟨(cell_kept hk hlt hne).trans (hc i hi).1, (cell_kept hk hlt hne).trans (hc i hi).2⟩⟩
theorem wrs_kept {H : Nat} {W W' : World} {A : Option Addr} {ws : List Wr} {t : TypeId} (h : WrsAt W W.heap.size A ws) (hz : W.heap[H]? = some (.cells zMg t (0, 0))) (ok : ∀ x ∈ ws, mayW x = true) (hk : ButH H W W') : WrsAt W' W'.heap.size A ws := by
  rcases h with h | ⟨b, off, rfl, hlt, hc⟩
  · exact .inl h
  · by_cases hl : ws = []
    · exact .inl hl
    · have h0 : 0 < ws.length := List.length_pos_iff.2 hl
      have hne : b ≠ H := zero_ne hz (hc 0 h0).1 (by have := (mayW_iff _).1 (ok ws[0] (List.getElem_mem h0)); omega)
      exact .inr ⟨b, off, rfl, Nat.lt_of_lt_of_le hlt hk.size, fun i hi => (hc i hi).imp (fun h => (cell_kept hk hlt hne).trans h) (fun h => h.imp (fun h => (cell_kept hk hlt hne).trans h) (fun h => (cell_kept hk hlt hne).trans h))⟩
/-- A row of the call's own in another block stays. -/
theorem own_kept17 {H : Nat} {W W' : World} {base size n : Nat} {e : TypeId} {v : Value} {xs : List Value} (h : W.ownsRow base e size v n xs) (hH : H < base) (hk : ButH H W W') : W'.ownsRow base e size v n xs := by
  rcases h with ⟨h1, h2 | ⟨g, cap, cur, h2, hg, hheap, h3⟩⟩
  · exact ⟨h1, .inl h2⟩
  · refine ⟨h1, .inr ⟨g, cap, cur, h2, hg, ?_, h3⟩⟩
    have hlt : g < W.heap.size := by
      rcases Nat.lt_or_ge g W.heap.size with h' | h'
      · exact h'
      · simp [Array.getElem?_eq_none h'] at hheap
    rw [hk.block g hlt (by omega)]
    exact hheap

theorem box_ten17 {w : World} {H : Nat} {v : Value} {t : TypeId} (h : w.heap[H]? = some (.cells (zMg.setIfInBounds 10 v) t (0, 0))) : w.cell? ⟨H, 10, none⟩ = some v := by rw [Lib.cell_of_heap h]; rfl
theorem cell_one17 (w : World) (x : Value) (t : TypeId) : ∀ j u, [x][j]? = some u → (w.alloc (.cells #[x] t)).cell? ((⟨w.heap.size, 0, none⟩ : Addr).add j) = some u := by
  intro j u hj
  exact World.news_of_block (cs := #[x]) (t := t) (fr := (0, 0)) (heap_new w _) j u (by simpa using hj)
theorem below_drew_alloc17 (w : World) (o : Obj) : Below w.heap.size w (w.drew.alloc o) := (Below.refl _ _).drew.alloc (Nat.le_refl _) o
/-- A row of the call's own grows: all but the box stays, and the box too. -/
theorem grown_but17 {H : Nat} {W W1 W2 W3 : World} {row : Option Nat} (h : ButH H W W1) (h1 : Below W1.heap.size W1 W2) (h2 : W2.grownBy W3 row) (hr : ∀ r, row = some r → W.heap.size ≤ r) : ButH H W W3 := by
  refine (h.below h1).trans' h2.size (fun k hk _ => h2.block k (Nat.lt_of_lt_of_le hk (h.below h1).size) (fun e => ?_))
  have := hr k e.symm
  omega
theorem grown_box17 {H : Nat} {W W1 W2 W3 : World} {row : Option Nat} {o : Obj} (hx : W1.heap[H]? = some o) (hH : H + 1 ≤ W.heap.size) (h : ButH H W W1) (h1 : Below W1.heap.size W1 W2) (h2 : W2.grownBy W3 row) (hr : ∀ r, row = some r → W.heap.size ≤ r) : W3.heap[H]? = some o := by
  have hlt : H < W1.heap.size := Nat.lt_of_lt_of_le hH h.size
  rw [h2.block H (Nat.lt_of_lt_of_le hlt h1.size) (fun e => by have := hr H e.symm; omega), h1.block H hlt]
  exact hx

/-! ### What is tried of bytes -/
theorem lnN_lt (r : List UInt8) : lnN r < 256 := dec_take_lt256 _ 1
theorem lnL_length (r : List UInt8) : (lnL r).length = lnN r := brsOf_length _ _
theorem parM_ok {l : List UInt8} (h : parE l = 0) : bitsOk (parM l) = true ∧ (∀ b ∈ parM l, 0 ≤ b.mask) := by
  unfold parM
  rw [if_pos h]
  refine ⟨?_, fun b hb => ?_⟩
  · unfold parE at h
    split at h
    · omega
    · split at h
      · assumption
      · omega
  · obtain ⟨i, hi, rfl⟩ := List.getElem_of_mem hb
    have hi2 : i < parN l := by rw [parseN_length] at hi; exact hi
    have := parseN_at (r := l.drop 1) hi2
    rw [List.getElem?_eq_getElem hi] at this
    simp only [Option.some.injEq] at this
    rw [this]
    unfold eltOf
    dsimp only
    omega
theorem parR_le (l : List UInt8) : (parR l).length ≤ l.length := by
  unfold parR
  split
  · rw [List.length_drop]; omega
  · simp
theorem cand_not {s : List UInt8} (h : ∀ ws, ¬ CandOk s ws) : ∀ m, ¬ Told s m := fun _ hm => h _ (told_cand hm).1
/-- A candidate that passes is the message. -/
theorem cand_yes {s : List UInt8} {ws : List Wr} (h : MgOk (cand s ws)) (hb : mgB (cand s ws) = s) : Told s (cand s ws) := ⟨h, hb⟩
theorem cand_no {s : List UInt8} {ws : List Wr} (hw : CandOk s ws) (h : ¬ (MgOk (cand s ws) ∧ mgB (cand s ws) = s)) : ∀ m, ¬ Told s m := fun _ hm => by
  obtain ⟨h1, h2⟩ := told_cand hm
  have e := h1.ws
  rw [hw.ws] at e
  simp only [Option.some.injEq, Prod.mk.injEq, and_true] at e
  rw [← e] at h2
  exact h (by rw [h2]; exact hm)
end Go.Proofs.Ytkpoeigoocbgeaa
