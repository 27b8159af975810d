/- Volumes that a call owns ('OwnV'); the contract of clone. -/
import Derived.Test.YtpmllckfijfehaaVolE
namespace Go.Proofs.Ytpmllckfijfehaa
open Go.RowKit

/-- The volumes vs lie in rows of the call's own, from block base on: the row of the volumes is v, the rows of their blocks are us. -/
structure OwnV (w : World) (base : Nat) (v : Value) (vs : List Vl) (us : List Value) : Prop where
  len : us.length = vs.length
  row : w.ownsRow base 70 2 v vs.length (volCells vs us)
  each : ∀ i (h1 : i < vs.length) (h2 : i < us.length), w.ownsRow base 9 1 us[i] vs[i].2.length (vs[i].2.map Value.string)
  gap : ∀ i (h2 : i < us.length) k, us[i].ownBlock = some k → v.ownBlock ≠ some k
  apart : ∀ i j (hi : i < us.length) (hj : j < us.length) k, i ≠ j → us[i].ownBlock = some k → us[j].ownBlock ≠ some k

theorem own_texts {w : World} {base : Nat} {u : Value} {bs : List ByteArray} (h : w.ownsRow base 9 1 u bs.length (bs.map Value.string)) : IsTexts w w.heap.size u bs := by
  obtain ⟨A, c, rfl, _, hl⟩ := own_lies h
  exact ⟨A, c, rfl, hl⟩
theorem own_base {w : World} {base base' : Nat} {t : TypeId} {size : Nat} {v : Value} {n : Nat} {xs : List Value} (h : w.ownsRow base t size v n xs) (hb : base' ≤ base) : w.ownsRow base' t size v n xs := by
  refine ⟨h.1, h.2.imp id ?_⟩
  rintro ⟨g, cap, cur, h1, h2, h3⟩
  exact ⟨g, cap, cur, h1, by omega, h3⟩
theorem OwnV.vols {w : World} {base : Nat} {v : Value} {vs : List Vl} {us : List Value} (h : OwnV w base v vs us) : ∃ A c, v = .slice A vs.length c ∧ VolsAt w w.heap.size A vs := by
  obtain ⟨A, c, rfl, _, hl⟩ := own_lies h.row
  exact ⟨A, c, rfl, VolsAt.of_rows h.len hl (fun i h1 h2 => own_texts (h.each i h1 h2))⟩

/-- What the loop of clone keeps. -/
structure CloneSt (w wr : World) (v : Value) (vs : List Vl) (us : List Value) (k : Nat) : Prop where
  len : us.length = vs.length
  row : wr.ownsRow w.heap.size 70 2 v vs.length (volCells vs us)
  done : ∀ i (h1 : i < vs.length) (h2 : i < us.length), i < k → wr.ownsRow w.heap.size 9 1 us[i] vs[i].2.length (vs[i].2.map Value.string)
  todo : ∀ i (h1 : i < vs.length) (h2 : i < us.length), k ≤ i → IsTexts wr w.heap.size us[i] vs[i].2
  gap : ∀ i (h2 : i < us.length) b, i < k → us[i].ownBlock = some b → v.ownBlock ≠ some b
  apart : ∀ i j (hi : i < us.length) (hj : j < us.length) b, i < k → j < k → i ≠ j → us[i].ownBlock = some b → us[j].ownBlock ≠ some b
  bel : Below w.heap.size w wr

theorem CloneSt.own {w wr : World} {v : Value} {vs : List Vl} {us : List Value} {k : Nat} (h : CloneSt w wr v vs us k) (hk : k = vs.length) : OwnV wr w.heap.size v vs us :=
  ⟨h.len, h.row, fun i h1 h2 => h.done i h1 h2 (by omega), fun i h2 b => h.gap i h2 b (by have := h.len; omega), fun i j hi hj b => h.apart i j hi hj b (by have := h.len; omega) (by have := h.len; omega)⟩

/-- One volume's blocks are copied, and the copy laid down. -/
theorem CloneSt.step {w wr w2 : World} {g cap : Nat} {vs : List Vl} {us : List Value} {k : Nat} {u : Value} (h : CloneSt w wr (.slice (some ⟨g, 0, none⟩) vs.length cap) vs us k) (hk : k < vs.length)
    (ho : w2.ownsRow wr.heap.size 9 1 u vs[k].2.length (vs[k].2.map Value.string)) (hb : Below wr.heap.size wr w2) :
    CloneSt w (w2.setCell ⟨g, k * 2 + 1, none⟩ u) (.slice (some ⟨g, 0, none⟩) vs.length cap) vs (us.set k u) (k + 1) := by
  have hg := h.row.lt g rfl
  have hz := h.bel.size
  have hro : w2.ownsRow w.heap.size 70 2 (.slice (some ⟨g, 0, none⟩) vs.length cap) vs.length (volCells vs us) := own_kept h.row hb
  have hub : ∀ b, u.ownBlock = some b → wr.heap.size ≤ b := fun b hb' => (ho.lt b hb').1
  have hst := hro.stored (k * 2 + 1) u
  rw [volCells_set h.len] at hst
  have hgr := hst.2
  have hbel : Below w.heap.size w (w2.setCell ⟨g, k * 2 + 1, none⟩ u) := (h.bel.trans (hb.mono hz)).setCell (by exact hg.1) _
  have hbel2 : Below w.heap.size wr (w2.setCell ⟨g, k * 2 + 1, none⟩ u) := (hb.mono hz).setCell (by exact hg.1) _
  have hold : ∀ i (h2 : i < us.length) b, i < k → us[i].ownBlock = some b → b < wr.heap.size := fun i h2 b hi hb' => ((h.done i (by have := h.len; omega) h2 hi).lt b hb').2
  refine ⟨by simp [h.len], hst.1, fun i h1 h2 hi => ?_, fun i h1 h2 hi => ?_, fun i h2 b hi => ?_, fun i j hi hj b hik hjk hij => ?_, hbel⟩
  · by_cases e : k = i
    · subst e
      rw [List.getElem_set_self]
      exact (own_base ho hz).kept hgr (Or.inr (fun e => by have := hub g e; omega))
    · rw [List.getElem_set_ne e]
      have h2' : i < us.length := by simpa using h2
      have h3 := own_kept (h.done i h1 h2' (by omega)) hb
      refine h3.kept hgr (Or.inr (fun e => ?_))
      exact h.gap i h2' g (by omega) e rfl
  · have h2' : i < us.length := by simpa using h2
    rw [List.getElem_set_ne (by omega)]
    exact (h.todo i h1 h2' (by omega)).below hbel2
  · by_cases e : k = i
    · subst e
      rw [List.getElem_set_self]
      intro h3 h4
      simp only [Value.ownBlock, Option.some.injEq] at h4
      have := hub b h3; omega
    · rw [List.getElem_set_ne e]
      exact h.gap i (by simpa using h2) b (by omega)
  · have hi' : i < us.length := by simpa using hi
    have hj' : j < us.length := by simpa using hj
    by_cases e : k = i
    · subst e
      rw [List.getElem_set_self, List.getElem_set_ne hij]
      intro h3 h4
      have := hub b h3
      have := hold j hj' b (by omega) h4
      omega
    · rw [List.getElem_set_ne e]
      by_cases e2 : k = j
      · subst e2
        rw [List.getElem_set_self]
        intro h3 h4
        have := hub b h4
        have := hold i hi' b (by omega) h3
        omega
      · rw [List.getElem_set_ne e2]
        exact h.apart i j hi' hj' b (by omega) (by omega) hij

def CloneEnd (vs : List Vl) (w : World) (e : Ending) (w' : World) : Prop := ∃ v us, e = .returned v ∧ OwnV w' w.heap.size v vs us ∧ Below w.heap.size w w'

set_option maxHeartbeats 1600000 in
theorem clone_any {w : World} {A : Option Addr} {c : Nat} {vs : List Vl} (h : VolsAt w w.heap.size A vs) (hn : vs.length ≤ 1000) (hbs : ∀ v ∈ vs, v.2.length ≤ 1000) :
    Calls Try.prog 46 #[.slice A vs.length c] w (CloneEnd vs w) := by
  obtain ⟨us, hul, hrow, htx⟩ := h.rows
  have HB := Lib.hid hbs
  have hone : ∀ u ∈ us, u.oneCell' = true := fun u hu => by
    obtain ⟨i, hi, rfl⟩ := List.getElem_of_mem hu
    exact (htx i (by omega) hi).one
  have HC : Hid (∀ c, Calls Try.prog 58 #[.slice A vs.length c] w (OwnEnd 70 2 vs.length (volCells vs us) w)) := Lib.hid (fun c => CloneV_any hrow (volCells_length hul) hn (volCells_one hone))
  have H0 : Hid (∀ v w1, w1.ownsRow w.heap.size 70 2 v vs.length (volCells vs us) → Below w.heap.size w w1 → CloneSt w w1 v vs us 0) := Lib.hid (fun v w1 ho hb =>
    ⟨hul, ho, fun i _ _ h => by omega, fun i h1 h2 _ => (htx i h1 h2).below hb, fun i _ _ h => by omega, fun i j _ _ _ h => by omega, hb⟩)
  clear h hrow htx hone hbs
  go_enter Try.func46, Try.ntmps46
  go_wp2_with (go_at_call 58; refine (HC.out _).mono ?_; rintro e w1 ⟨v, rfl, ho, hb⟩; have HS := Lib.hid (H0.out v w1 ho hb); obtain ⟨A1, c1, hv, hxx⟩ := own_lies ho; clear ho hb hxx; subst hv)
  clear HC H0
  obtain ⟨n, hn'⟩ : ∃ n, vs.length = n := ⟨_, rfl⟩
  have HN := Lib.hid hn'
  rw [hn'] at hn HS ⊢
  clear hn' hul
  go_loopw [9] (fun i wr => ∃ k : Nat, k ≤ n ∧ i = .int .i64 k ∧ ∃ us, Hid (CloneSt w wr (.slice A1 n c1) vs us k)) (fun i _ => n - (intOf i).toNat)
  case atStart => exact ⟨0, Nat.zero_le _, rfl, us, HS⟩
  case round =>
    clear HS us
    obtain ⟨k, hk, rfl, us, HS⟩ := hrel
    by_cases hlt : k < n
    · have hkl : k < vs.length := by rw [HN.out]; exact hlt
      have hS := HS.out
      rw [← HN.out] at hS
      obtain ⟨g, cap, hv, hg1, hg2⟩ := hS.row.form (by omega)
      simp only [Value.slice.injEq] at hv
      obtain ⟨rfl, _, rfl⟩ := hv
      have hku : k < us.length := by rw [hS.len]; exact hkl
      obtain ⟨a, ca, hua, hla⟩ := hS.todo k hkl hku (Nat.le_refl _)
      have hcell : ∀ w2, Below wr.heap.size wr w2 → w2.cell? ⟨g, k * 2 + 1, none⟩ = some (.slice a vs[k].2.length ca) ∧ w2.frozen? ⟨g, k * 2 + 1, none⟩ = false := fun w2 hb => by
        have h2 := own_kept hS.row hb
        rw [h2.cellAt _ (by omega), h2.frozenAt, volCells_snd hS.len hkl, List.getElem?_eq_getElem hku, hua]
        exact ⟨rfl, rfl⟩
      have HCell := Lib.hid hcell
      obtain ⟨hc1, _⟩ := hcell wr (Below.refl _ _)
      have hlw : Lies wr wr.heap.size a (vs[k].2.map Value.string) := hla.more hS.bel.size
      have hm := HB.out _ (List.getElem_mem hkl)
      have HST : Hid (∀ u w2, w2.ownsRow wr.heap.size 9 1 u vs[k].2.length (vs[k].2.map Value.string) → Below wr.heap.size wr w2 → CloneSt w (w2.setCell ⟨g, k * 2 + 1, none⟩ u) (.slice (some ⟨g, 0, none⟩) n c1) vs (us.set k u) (k + 1)) := Lib.hid (fun u w2 h1 h2 => by
        have := hS.step hkl h1 h2
        rw [HN.out] at this
        exact this)
      have HCl : Hid (∀ c, Calls Try.prog 59 #[.slice a vs[k].2.length c] wr (OwnEnd 9 1 vs[k].2.length (vs[k].2.map Value.string) wr)) := Lib.hid (fun c => CloneS_any hlw (by simp) hm (by intro u hu; obtain ⟨s, _, rfl⟩ := List.mem_map.1 hu; rfl))
      obtain ⟨bs, hbs⟩ : ∃ bs, vs[k].2 = bs := ⟨_, rfl⟩
      rw [hbs] at HCell hc1 HST HCl
      clear hbs hS hua hla hcell hlw hm hku hkl hg1 HS
      obtain ⟨m, hm⟩ : ∃ m, bs.length = m := ⟨_, rfl⟩
      rw [hm] at HCell hc1 HST HCl
      clear hm
      go_wp2_with (go_at_call 59; refine (HCl.out _).mono ?_; rintro e w2 ⟨u, rfl, ho, hb⟩; have HS2 := Lib.hid (HST.out u w2 ho hb); obtain ⟨hc2, hf2⟩ := HCell.out w2 hb; obtain ⟨A2, c2, hu, hxx⟩ := own_lies ho; clear ho hb hxx; subst hu)
      go_roundw
      case rel => exact ⟨k + 1, by omega, by go_num, _, HS2⟩
      case measure => simp [intOf]; omega
    · have HE : Hid (CloneEnd vs w (.returned (.slice A1 n c1)) wr) := Lib.hid ⟨_, us, rfl, HS.out.own (by rw [HN.out]; omega), HS.out.bel⟩
      go_wp2
      go_ret
      exact HE.out
end Go.Proofs.Ytpmllckfijfehaa
