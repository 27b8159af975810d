/- Contracts of Arm, Read and New of counterfoilref05, over all disks. The document's disk while a call of counterfoilref05 works on it: two blocks, three rows of the call's own ('St3'); what each store and append leaves of it. -/
import Derived.Test.YtlelfakememckaaGreatDoorRefD
import Derived.StillTailTactics
import Derived.Deep.RegionLaw
namespace Go.Proofs.YtlelfakememckaaGreatDoor
open Go.RowKit

theorem RefPad_still (s : List UInt8) (h : s.length ≤ 32) (w : World) : Calls Tryz.prog 28 #[.string (str s)] w fun e w' => e = .returned (.string (str (padB s))) ∧ w' = w :=
  (RefPad_any s h w).mono (fun _ _ h => ⟨h.1, h.2.symm⟩)

theorem RefArm_any (n m : Nat) (fA : Option Addr) (fc : Nat) (aA : Option Addr) (ac : Nat) (wA : Option Addr) (wc : Nat) (L : Int) (g : Bool) (k : Int) (w : World) :
    Calls Tryz.prog 16 #[.agg #[.slice fA n fc, .slice aA m ac, .slice wA m wc, .int .i64 L, .bool g], .int .i64 k] w fun e w' => e = .returned (.agg #[.slice fA n fc, .slice aA m ac, .slice wA m wc, .int .i64 (if k < 0 then -1 else k), .bool g]) ∧ Below w.heap.size w w' := by
  by_cases h : k < 0
  · rw [if_pos h]
    go_enter Tryz.func16, Tryz.ntmps16
    go_wp2
    exact bodyPost_ret (v := .agg #[.slice fA n fc, .slice aA m ac, .slice wA m wc, .int .i64 (-1), .bool g]) (by simp [results, Tryz.results16, go_sem]) rfl ⟨rfl, ((Below.refl _ _).alloc (Nat.le_refl _) _).alloc (by simp) _⟩
  · rw [if_neg h]
    have h2 : decide (k < 0) = false := by simpa using h
    go_enter Tryz.func16, Tryz.ntmps16
    go_wp2
    exact bodyPost_ret (v := .agg #[.slice fA n fc, .slice aA m ac, .slice wA m wc, .int .i64 k, .bool g]) (by simp [results, Tryz.results16, go_sem]) rfl ⟨rfl, ((Below.refl _ _).alloc (Nat.le_refl _) _).alloc (by simp) _⟩

/-- A cell of a slice that lies below, behind an alloc. -/
theorem Lies.cellA {w : World} {A : Option Addr} {cs : List Value} (h : Lies w w.heap.size A cs) (o : Obj) {k : Nat} (hk : k < cs.length) :
    ∃ b off, A = some ⟨b, off, none⟩ ∧ (w.alloc o).cell? ⟨b, off + k, none⟩ = some cs[k] := by
  obtain ⟨b, off, hA, hb, hc⟩ := h.at_ (fun e => by subst e; simp at hk)
  exact ⟨b, off, hA, by rw [((Below.refl w.heap.size w).alloc (Nat.le_refl _) o).cell (p := ⟨b, off + k, none⟩) hb]; exact hc k hk⟩

set_option maxHeartbeats 1600000 in
theorem RefRead_any {w : World} {d : DSt} (ho : d.Ok) (ht : d.Tru) {fA aA wA : Option Addr} {fc ac wc : Nat} (h : RefAt w w.heap.size d.firm d.loose fA aA ac wA wc) (hl : d.loose.length ≤ 1000001) (i L : Int) :
    Calls Tryz.prog 26 #[.agg #[.slice fA d.firm.length fc, .slice aA d.loose.length ac, .slice wA d.loose.length wc, .int .i64 L, .bool d.off], .int .i64 i] w fun e w' => e = .returned (.tuple #[.string (str (d.readB i)), .int .i64 (d.readE i)]) ∧ Below w.heap.size w w' := by
  have hpos : 0 < d.firm.length := by rw [ho.len]; exact ho.pos
  have hle : d.firm.length ≤ 4096 := by rw [ho.len]; exact ho.le
  have hne : ((d.firm.length : Int) == 0) = false := by rw [beq_eq_false_iff_ne]; omega
  cases hoff : d.off with
  | true =>
    have e1 : d.readE i = 7 := by unfold DSt.readE; rw [if_pos hoff]
    have e2 : d.readB i = [] := by unfold DSt.readB; rw [e1]; rfl
    rw [e1, e2]
    clear hoff e1 e2 ht
    go_enter Tryz.func26, Tryz.ntmps26
    go_wp2
    go_ret2
    exact ⟨rfl, (Below.refl _ _).alloc (Nat.le_refl _) _⟩
  | false =>
    by_cases hi : 0 ≤ i ∧ i < d.firm.length
    · obtain ⟨k, rfl⟩ := Int.eq_ofNat_of_zero_le hi.1
      have hk : k < d.firm.length := by omega
      have e1 : d.readE (k : Int) = 0 := by unfold DSt.readE; rw [if_neg (by rw [hoff]; simp), if_pos ((d.has_iff _).2 (by rw [← ho.len]; omega))]
      have e2 : d.readB (k : Int) = (applyAll d.firm d.loose).getD k [] := by unfold DSt.readB; rw [e1, if_pos rfl, ht, Int.toNat_natCast]
      rw [e1, e2]
      clear hoff e1 e2 ht hi
      have HR := Lib.hid h
      have h0 : decide ((k : Int) < 0) = false := by rw [decide_eq_false_iff_not]; omega
      have h1 : decide ((d.firm.length : Int) ≤ k) = false := by rw [decide_eq_false_iff_not]; omega
      have HI := Lib.hid (fun j hj => applyAll_take_getD d.firm d.loose j k hj hk)
      have HAll : Hid (d.loose.take d.loose.length = d.loose) := Lib.hid List.take_length
      have HF : Hid ((applyAll d.firm (d.loose.take 0)).getD k [] = d.firm[k]) := Lib.hid (by
        rw [List.take_zero, applyAll_nil, List.getD_eq_getElem?_getD, List.getElem?_eq_getElem hk]; rfl)
      obtain ⟨b, off, hfA, hfc⟩ := h.firm.cellA (.cells #[.slice fA d.firm.length fc, .slice aA d.loose.length ac, .slice wA d.loose.length wc, .int .i64 L, .bool false] 30) (k := k) (by simpa using hk)
      rw [List.getElem_map] at hfc
      change _ = some (Value.string (str d.firm[k])) at hfc
      rw [← HF.out] at hfc
      clear HF
      subst hfA
      generalize d.firm = F at *
      generalize d.loose = l at *
      obtain ⟨n, hn⟩ : ∃ n, F.length = n := ⟨_, rfl⟩
      obtain ⟨m, hm⟩ : ∃ m, l.length = m := ⟨_, rfl⟩
      have HN := Lib.hid hn
      have HM := Lib.hid hm
      rw [hn] at hpos hle hne h1 hfc hk ⊢
      rw [hm] at hl hfc HAll ⊢
      clear h hn hm ho
      go_enter Tryz.func26, Tryz.ntmps26
      go_wp2
      go_loopw [6, 7] (fun s j wr => (∃ q : Nat, q ≤ m ∧ j = .int .i64 q ∧ s = .string (str ((applyAll F (l.take q)).getD k []))) ∧ wr = w.alloc (.cells #[.slice (some ⟨b, off, none⟩) n fc, .slice aA m ac, .slice wA m wc, .int .i64 L, .bool false] 30)) (fun _ j _ => m - (intOf j).toNat)
      case atStart => exact ⟨⟨0, by omega, rfl, rfl⟩, rfl⟩
      case round =>
        obtain ⟨⟨q, hq, rfl, rfl⟩, rfl⟩ := hrel
        by_cases hlt : q < m
        · have hql : q < l.length := by rw [HM.out]; exact hlt
          have hstep := HI.out q hql
          obtain ⟨b1, o1, hA1, hc1⟩ := HR.out.at_.cellA (.cells #[.slice (some ⟨b, off, none⟩) n fc, .slice aA m ac, .slice wA m wc, .int .i64 L, .bool false] 30) (k := q) (by simpa using hql)
          obtain ⟨b2, o2, hA2, hc2⟩ := HR.out.what.cellA (.cells #[.slice (some ⟨b, off, none⟩) n fc, .slice aA m ac, .slice wA m wc, .int .i64 L, .bool false] 30) (k := q) (by simpa using hql)
          rw [List.getElem_map] at hc1 hc2
          change _ = some (Value.int .i64 (l[q].1 : Int)) at hc1
          change _ = some (Value.string (str l[q].2)) at hc2
          subst hA1
          subst hA2
          obtain ⟨T, hT⟩ : ∃ T, (applyAll F (l.take q)).getD k [] = T := ⟨_, rfl⟩
          obtain ⟨p1, hp1⟩ : ∃ p1, l[q].1 = p1 := ⟨_, rfl⟩
          obtain ⟨p2, hp2⟩ : ∃ p2, l[q].2 = p2 := ⟨_, rfl⟩
          rw [hp1] at hc1
          rw [hp2] at hc2
          rw [hT, hp1, hp2] at hstep
          rw [hT]
          have HStep := Lib.hid hstep
          clear hstep hT hp1 hp2 hql
          by_cases he : p1 = k
          · have he' : ((p1 : Int) == (k : Int)) = true := by rw [he]; simp
            have HP : Hid (p2 = (applyAll F (l.take (q + 1))).getD k []) := Lib.hid (by rw [HStep.out, if_pos he])
            clear he HStep
            go_wp2
            go_roundw
            case rel => exact ⟨⟨q + 1, by omega, by go_num, by rw [HP.out]⟩, trivial⟩
            case measure => simp [intOf]; omega
          · have he' : ((p1 : Int) == (k : Int)) = false := by rw [beq_eq_false_iff_ne]; omega
            have HP : Hid (T = (applyAll F (l.take (q + 1))).getD k []) := Lib.hid (by rw [HStep.out, if_neg he])
            clear he HStep
            go_wp2
            go_roundw
            case rel => exact ⟨⟨q + 1, by omega, by go_num, by rw [HP.out]⟩, trivial⟩
            case measure => simp [intOf]; omega
        · have HQ : Hid (q = m) := Lib.hid (by omega)
          rw [HQ.out, HAll.out]
          have hlt2 : decide ((m : Int) < m) = false := by simp
          clear hfc HR HI HQ hlt hq
          go_wp2
          go_ret2
          exact ⟨rfl, (Below.refl _ _).alloc (Nat.le_refl _) _⟩
    · have e1 : d.readE i = 1 := by
        unfold DSt.readE
        rw [if_neg (by rw [hoff]; simp), if_neg (fun hh => hi (by have := (d.has_iff _).1 hh; rw [ho.len]; exact this))]
      have e2 : d.readB i = [] := by unfold DSt.readB; rw [e1]; rfl
      rw [e1, e2]
      clear e1 e2 hoff
      by_cases h0 : i < 0
      · clear hi
        go_enter Tryz.func26, Tryz.ntmps26
        go_wp2
        go_ret2
        exact ⟨rfl, (Below.refl _ _).alloc (Nat.le_refl _) _⟩
      · have h0' : decide (i < 0) = false := by simpa using h0
        have h1 : (d.firm.length : Int) ≤ i := by omega
        clear hi
        go_enter Tryz.func26, Tryz.ntmps26
        go_wp2
        go_ret2
        exact ⟨rfl, (Below.refl _ _).alloc (Nat.le_refl _) _⟩

/-! ### New -/

theorem RefNew_no (n : Int) (w : World) (h : n < 1 ∨ 4096 < n) : Calls Tryz.prog 6 #[.int .i64 n] w fun e w' => e = .returned (.agg #[.slice none 0 0, .slice none 0 0, .slice none 0 0, .int .i64 (-1), .bool false]) ∧ Below w.heap.size w w' := by
  by_cases h1 : n < 1
  · clear h
    go_enter Tryz.func6, Tryz.ntmps6
    go_wp2
    exact bodyPost_ret (v := .agg #[.slice none 0 0, .slice none 0 0, .slice none 0 0, .int .i64 (-1), .bool false]) (by simp [results, Tryz.results6, go_sem]) rfl ⟨rfl, ((Below.refl _ _).alloc (Nat.le_refl _) _).alloc (by simp) _⟩
  · have h2 : decide (n < 1) = false := by simpa using h1
    have h3 : 4096 < n := by omega
    clear h
    go_enter Tryz.func6, Tryz.ntmps6
    go_wp2
    exact bodyPost_ret (v := .agg #[.slice none 0 0, .slice none 0 0, .slice none 0 0, .int .i64 (-1), .bool false]) (by simp [results, Tryz.results6, go_sem]) rfl ⟨rfl, ((Below.refl _ _).alloc (Nat.le_refl _) _).alloc (by simp) _⟩

def zeroL (k : Nat) : List (List UInt8) := List.replicate k (List.replicate 32 0)
theorem zeroL_snoc (k : Nat) : (zeroL k).map secV ++ [.string (str (padB []))] = (zeroL (k + 1)).map secV := by
  unfold zeroL; rw [List.replicate_succ' (n := k), List.map_append]; rfl
theorem zeroL_length (k : Nat) : (zeroL k).length = k := by simp [zeroL]

structure NewAt (w wr : World) (k : Nat) (fA : Option Addr) (fc : Nat) : Prop where
  d : Five wr (w.heap.size + 1) (.slice fA k fc) (.slice none 0 0) (.slice none 0 0) (.int .i64 (-1)) (.bool false)
  r : Five wr w.heap.size (.slice none 0 0) (.slice none 0 0) (.slice none 0 0) (.int .i64 0) (.bool false)
  own : wr.ownsRow (w.heap.size + 2) 9 1 (.slice fA k fc) k ((zeroL k).map secV)
  bel : Below w.heap.size w wr
  size : w.heap.size + 2 ≤ wr.heap.size

theorem NewAt.first (w : World) : NewAt w ((w.alloc (.cells #[.slice none 0 0, .slice none 0 0, .slice none 0 0, .int .i64 0, .bool false] 30)).alloc (.cells #[.slice none 0 0, .slice none 0 0, .slice none 0 0, .int .i64 (-1), .bool false] 30)) 0 none 0 :=
  ⟨by have := Five.new (w.alloc (.cells #[.slice none 0 0, .slice none 0 0, .slice none 0 0, .int .i64 0, .bool false] 30)) (.slice none 0 0) (.slice none 0 0) (.slice none 0 0) (.int .i64 (-1)) (.bool false); simpa using this, (Five.new _ _ _ _ _ _).alloc _, World.ownsRow_nil _ _ _ _, ((Below.refl _ _).alloc (Nat.le_refl _) _).alloc (by simp) _, by simp⟩

set_option maxHeartbeats 1600000 in
set_option maxRecDepth 100000 in
theorem RefNew_ok (n : Nat) (w : World) (h1 : 1 ≤ n) (h2 : n ≤ 4096) : Calls Tryz.prog 6 #[.int .i64 n] w fun e w' => ∃ fA fc, e = .returned (.agg #[.slice fA n fc, .slice none 0 0, .slice none 0 0, .int .i64 (-1), .bool false]) ∧ RefAt w' w'.heap.size (zeroL n) [] fA none 0 none 0 ∧ Below w.heap.size w w' ∧ (∀ b off, fA = some ⟨b, off, none⟩ → w.heap.size ≤ b) := by
  obtain ⟨i0, hi0, hz0, hz1, hz2⟩ := info_parts Tryz.infoStr5
  have h3 : decide ((n : Int) < 1) = false := by rw [decide_eq_false_iff_not]; omega
  have h4 : decide (4096 < (n : Int)) = false := by rw [decide_eq_false_iff_not]; omega
  have HN0 := Lib.hid (NewAt.first w)
  go_enter Tryz.func6, Tryz.ntmps6
  go_wp2
  go_loopw [4] (fun i wr => ∃ k : Nat, k ≤ n ∧ i = .int .i64 k ∧ ∃ fA fc, Hid (NewAt w wr k fA fc)) (fun i _ => n - (intOf i).toNat)
  case atStart => exact ⟨0, by omega, rfl, none, 0, HN0⟩
  case round =>
    clear HN0
    obtain ⟨k, hk, rfl, fA, fc, HA⟩ := hrel
    obtain ⟨c0, c1, c2, c3, c4, hf⟩ := HA.out.d.cells
    by_cases hlt : k < n
    · go_wp2_with fail
      have hsz := HA.out.size
      have ne0 : (wr.alloc (.cells #[.string (str (padB []))] 9)).cell? ⟨w.heap.size + 1, 0, none⟩ = some (.slice fA k fc) := (HA.out.d.alloc _).cells.1
      have hownd : (wr.alloc (.cells #[.string (str (padB []))] 9)).drew.ownsRow (w.heap.size + 2) 9 1 (.slice fA k fc) k ((zeroL k).map secV) := (HA.out.own.alloc _).drew
      have hnewd : ∀ j u, ([.string (str (padB []))] : List Value)[j]? = some u → (wr.alloc (.cells #[.string (str (padB []))] 9)).drew.cell? ((⟨wr.heap.size, 0, none⟩ : Addr).add j) = some u := World.news_of_block (cs := #[.string (str (padB []))]) (t := 9) (fr := (0, 0)) (heap_alloc_new wr _)
      have hszd : (wr.alloc (.cells #[.string (str (padB []))] 9)).drew.heap.size = wr.heap.size + 1 := by show (wr.alloc _).heap.size = _; simp
      have HFin : Hid (∀ g cap w3, World.ownsRow w3 (w.heap.size + 2) 9 1 (.slice (some ⟨g, 0, none⟩) (k + 1) cap) (k + 1) ((zeroL k).map secV ++ [.string (str (padB []))]) → (wr.alloc (.cells #[.string (str (padB []))] 9)).drew.grownBy w3 (Value.slice fA k fc).ownBlock →
          Five w3 (w.heap.size + 1) (.slice fA k fc) (.slice none 0 0) (.slice none 0 0) (.int .i64 (-1)) (.bool false) ∧ NewAt w (w3.setCell ⟨w.heap.size + 1, 0, none⟩ (.slice (some ⟨g, 0, none⟩) (k + 1) cap)) (k + 1) (some ⟨g, 0, none⟩) cap) := by
        refine Lib.hid (fun g cap w3 h1 h2 => ?_)
        have hA := HA.out
        have hlow : ∀ q, (Value.slice fA k fc).ownBlock = some q → w.heap.size + 2 ≤ q := fun q hq => (own_lt hA.own q hq).1
        have h5 : Five w3 (w.heap.size + 1) (.slice fA k fc) (.slice none 0 0) (.slice none 0 0) (.int .i64 (-1)) (.bool false) := (h2.block _ (by rw [hszd]; omega) (fun e => by have := hlow _ e.symm; omega)).trans (hA.d.alloc _)
        have h6 : Five w3 w.heap.size (.slice none 0 0) (.slice none 0 0) (.slice none 0 0) (.int .i64 0) (.bool false) := (h2.block _ (by rw [hszd]; omega) (fun e => by have := hlow _ e.symm; omega)).trans (hA.r.alloc _)
        have hb3 : Below w.heap.size w w3 := (hA.bel.alloc (by omega) _).drew.grown h2 (by rw [hszd]; omega) (fun q hq => by have := hlow q hq; omega)
        rw [zeroL_snoc] at h1
        have hs3 := h2.size
        rw [hszd] at hs3
        exact ⟨h5, ⟨h5.set0 _, h6.far (by simp) _, own_set h1 (fun e => by have h9 : _ ≤ w.heap.size + 1 := (own_lt h1 _ e).1; omega) _, hb3.setCell (by simp) _, by simp; omega⟩⟩
      go_region_law (first
        | (refine step_append_lies _ (by rfl) _ _ _ (by rfl) (w.heap.size + 2) 9 i0 (.string ByteArray.empty) 1 16 Tryz.underlying27 hi0 hz0 hz1 hz2 rfl (by omega) (.slice fA k fc) k _ (by rfl) hownd ⟨wr.heap.size, 0, none⟩ 1 1 [.string (str (padB []))] (by rfl) (by rfl) hnewd (by simp [Value.oneCell']) (by omega) (by unfold maxLen; omega) (by omega) (by rw [hszd]; omega) (wr.heap.size + 1) hszd ?_; intro g cap w3 hown3 hgrow hat hlt3; have h53 := (HFin.out g cap w3 hown3 hgrow).1.cells; obtain ⟨m0, m1, m2, m3, m4, mf⟩ := h53)
        | (go_simp; go_at_call 28; refine (RefPad_still [] (by decide) _).mono ?_; rintro e w' ⟨rfl, rfl⟩; dsimp only))
      all_goals
        have HS9 := Lib.hid (HFin.out g cap w3 hown3 hgrow).2
        clear hown3 hgrow hat hlt3 m0 m1 m2 m3 m4 mf hownd hnewd hszd c0 c1 c2 c3 c4 hf ne0
        go_wp2
        go_roundw
        case rel => exact ⟨k + 1, by omega, by go_num, _, _, HS9⟩
        case measure => simp [intOf]; omega
    · obtain rfl : k = n := by omega
      obtain ⟨r0, r1, r2, r3, r4, rf⟩ := HA.out.r.cells
      have hlt2 : decide ((k : Int) < k) = false := by simp
      clear hlt hk
      go_wp2
      exact bodyPost_ret (v := .agg #[.slice fA k fc, .slice none 0 0, .slice none 0 0, .int .i64 (-1), .bool false]) (by simp [results, Tryz.results6, go_sem, r0, r1, r2, r3, r4]) rfl (by
        have hA := HA.out
        have hl : Lies wr wr.heap.size fA ((zeroL k).map secV) := own_lies_ hA.own
        have hn : ∀ p : Addr, p.block = w.heap.size → ∀ (W : World) (u : Value), W.ownsRow (w.heap.size + 2) 9 1 (.slice fA k fc) k ((zeroL k).map secV) → (W.setCell p u).ownsRow (w.heap.size + 2) 9 1 (.slice fA k fc) k ((zeroL k).map secV) := fun p hp W u h => own_set h (fun e => by have h9 := (own_lt h _ e).1; omega) u
        have h5 := hn ⟨w.heap.size, 4, none⟩ rfl _ (.bool false) (hn ⟨w.heap.size, 3, none⟩ rfl _ (.int .i64 (-1)) (hn ⟨w.heap.size, 2, none⟩ rfl _ (.slice none 0 0) (hn ⟨w.heap.size, 1, none⟩ rfl _ (.slice none 0 0) (hn ⟨w.heap.size, 0, none⟩ rfl _ (.slice fA k fc) hA.own))))
        exact ⟨fA, fc, rfl, ⟨own_lies_ h5, .inl rfl, .inl rfl, fun _ => ⟨rfl, rfl, rfl, rfl⟩⟩, ((((hA.bel.setCell (by simp) _).setCell (by simp) _).setCell (by simp) _).setCell (by simp) _).setCell (by simp) _, fun b off e => by subst e; have := (own_lt hA.own b rfl).1; omega⟩)
end Go.Proofs.YtlelfakememckaaGreatDoor

namespace Go.Proofs.YtlelfakememckaaGreatDoor
open Go.RowKit

/-- The blocks and rows of a call under way: d at block H, the result at H + 1 (H: where the memory ended when the call began). -/
structure St3 (w wr : World) (fA : Option Addr) (n fc : Nat) (fs : List Value) (aA : Option Addr) (m ac : Nat) (ats : List Value) (wA : Option Addr) (k wc : Nat) (ws : List Value) (L : Int) (g : Bool) : Prop where
  d : Five wr w.heap.size (.slice fA n fc) (.slice aA m ac) (.slice wA k wc) (.int .i64 L) (.bool g)
  r : Five wr (w.heap.size + 1) (.slice none 0 0) (.slice none 0 0) (.slice none 0 0) (.int .i64 0) (.bool false)
  of : wr.ownsRow (w.heap.size + 2) 9 1 (.slice fA n fc) n fs
  oa : wr.ownsRow (w.heap.size + 2) 3 1 (.slice aA m ac) m ats
  ow : wr.ownsRow (w.heap.size + 2) 9 1 (.slice wA k wc) k ws
  fa : ∀ q, (Value.slice fA n fc).ownBlock = some q → (Value.slice aA m ac).ownBlock ≠ some q
  fw : ∀ q, (Value.slice fA n fc).ownBlock = some q → (Value.slice wA k wc).ownBlock ≠ some q
  aw : ∀ q, (Value.slice aA m ac).ownBlock = some q → (Value.slice wA k wc).ownBlock ≠ some q
  bel : Below w.heap.size w wr
  size : w.heap.size + 2 ≤ wr.heap.size

variable {w wr : World} {fA : Option Addr} {n fc : Nat} {fs : List Value} {aA : Option Addr} {m ac : Nat} {ats : List Value} {wA : Option Addr} {k wc : Nat} {ws : List Value} {L : Int} {g : Bool}

theorem St3.below (h : St3 w wr fA n fc fs aA m ac ats wA k wc ws L g) {w' : World} (hb : Below wr.heap.size wr w') : St3 w w' fA n fc fs aA m ac ats wA k wc ws L g :=
  ⟨h.d.below hb (heap_lt h.d), h.r.below hb (heap_lt h.r), own_kept h.of hb, own_kept h.oa hb, own_kept h.ow hb, h.fa, h.fw, h.aw, h.bel.trans (hb.mono h.bel.size), Nat.le_trans h.size hb.size⟩
theorem St3.drew (h : St3 w wr fA n fc fs aA m ac ats wA k wc ws L g) : St3 w wr.drew fA n fc fs aA m ac ats wA k wc ws L g := h.below (Below.refl _ _).drew

/-- A store to block H or H + 1 leaves the rows. -/
theorem own_low {base q : Nat} {W : World} {e : TypeId} {n : Nat} {v : Value} {xs : List Value} (h : W.ownsRow (base + 2) e 1 v n xs) (j : Nat) (u : Value) (hq : q < base + 2) : (W.setCell ⟨q, j, none⟩ u).ownsRow (base + 2) e 1 v n xs :=
  own_set h (p := ⟨q, j, none⟩) (fun e => by have h9 : base + 2 ≤ q := (own_lt h _ e).1; omega) u

theorem St3.store5 (h : St3 w wr fA n fc fs aA m ac ats wA k wc ws L g) (L' : Int) (g' : Bool) :
    St3 w (((((wr.setCell ⟨w.heap.size, 0, none⟩ (.slice fA n fc)).setCell ⟨w.heap.size, 1, none⟩ (.slice aA m ac)).setCell ⟨w.heap.size, 2, none⟩ (.slice wA k wc)).setCell ⟨w.heap.size, 3, none⟩ (.int .i64 L')).setCell ⟨w.heap.size, 4, none⟩ (.bool g')) fA n fc fs aA m ac ats wA k wc ws L' g' := by
  have hq : w.heap.size < w.heap.size + 2 := by omega
  have hz := h.size
  refine ⟨((((h.d.set0 _).set1 _).set2 _).set3 _).set4 _, ((((h.r.far (by simp) _).far (by simp) _).far (by simp) _).far (by simp) _).far (by simp) _, ?_, ?_, ?_, h.fa, h.fw, h.aw, ((((h.bel.setCell (by simp) _).setCell (by simp) _).setCell (by simp) _).setCell (by simp) _).setCell (by simp) _, by simp; omega⟩
  · exact own_low (own_low (own_low (own_low (own_low h.of 0 _ hq) 1 _ hq) 2 _ hq) 3 _ hq) 4 _ hq
  · exact own_low (own_low (own_low (own_low (own_low h.oa 0 _ hq) 1 _ hq) 2 _ hq) 3 _ hq) 4 _ hq
  · exact own_low (own_low (own_low (own_low (own_low h.ow 0 _ hq) 1 _ hq) 2 _ hq) 3 _ hq) 4 _ hq

/-- Behind Copy: its result is laid into d's block. -/
theorem st3_copy {F : List (List UInt8)} {l : List (Nat × List UInt8)} {W0 w1 : World} {x0 x1 x2 x3 x4 : Value} (hd : Five W0 w.heap.size x0 x1 x2 x3 x4) (hr : Five W0 (w.heap.size + 1) (.slice none 0 0) (.slice none 0 0) (.slice none 0 0) (.int .i64 0) (.bool false))
    (hb0 : Below w.heap.size w W0) (hz : w.heap.size + 2 = W0.heap.size) {fA aA wA : Option Addr} {fc ac wc : Nat} (ho : RefOwn w1 W0.heap.size F l fA fc aA ac wA wc) (hb : Below W0.heap.size W0 w1) (L : Int) (g : Bool) :
    St3 w (((((w1.setCell ⟨w.heap.size, 0, none⟩ (.slice fA F.length fc)).setCell ⟨w.heap.size, 1, none⟩ (.slice aA l.length ac)).setCell ⟨w.heap.size, 2, none⟩ (.slice wA l.length wc)).setCell ⟨w.heap.size, 3, none⟩ (.int .i64 L)).setCell ⟨w.heap.size, 4, none⟩ (.bool g)) fA F.length fc (F.map secV) aA l.length ac (l.map atV) wA l.length wc (l.map whatV) L g := by
  rw [← hz] at ho hb
  have hq : w.heap.size < w.heap.size + 2 := by omega
  have hs := hb.size
  refine ⟨(((((hd.below hb (by omega)).set0 _).set1 _).set2 _).set3 _).set4 _, (((((hr.below hb (by omega)).far (by simp) _).far (by simp) _).far (by simp) _).far (by simp) _).far (by simp) _, ?_, ?_, ?_, ho.fa, ho.fw, ho.aw, (((((hb0.trans (hb.mono (by omega))).setCell (by simp) _).setCell (by simp) _).setCell (by simp) _).setCell (by simp) _).setCell (by simp) _, by simp; omega⟩
  · exact own_low (own_low (own_low (own_low (own_low ho.firm 0 _ hq) 1 _ hq) 2 _ hq) 3 _ hq) 4 _ hq
  · exact own_low (own_low (own_low (own_low (own_low ho.at_ 0 _ hq) 1 _ hq) 2 _ hq) 3 _ hq) 4 _ hq
  · exact own_low (own_low (own_low (own_low (own_low ho.what 0 _ hq) 1 _ hq) 2 _ hq) 3 _ hq) 4 _ hq

/-- Behind an append to At, ahead of and behind the store. -/
theorem St3.appA (h : St3 w wr fA n fc fs aA m ac ats wA k wc ws L g) {b cap : Nat} {x : Value} {w3 : World} {o : Obj} (ho : w3.ownsRow (w.heap.size + 2) 3 1 (.slice (some ⟨b, 0, none⟩) (m + 1) cap) (m + 1) (ats ++ [x])) (hg : (wr.alloc o).grownBy w3 (Value.slice aA m ac).ownBlock) (hat : (Value.slice aA m ac).ownBlock = some b ∨ b = wr.heap.size + 1) :
    Five w3 w.heap.size (.slice fA n fc) (.slice aA m ac) (.slice wA k wc) (.int .i64 L) (.bool g) ∧ Five w3 (w.heap.size + 1) (.slice none 0 0) (.slice none 0 0) (.slice none 0 0) (.int .i64 0) (.bool false) ∧ St3 w (w3.setCell ⟨w.heap.size, 1, none⟩ (.slice (some ⟨b, 0, none⟩) (m + 1) cap)) fA n fc fs (some ⟨b, 0, none⟩) (m + 1) cap (ats ++ [x]) wA k wc ws L g := by
  have hlow : ∀ q, (Value.slice aA m ac).ownBlock = some q → w.heap.size + 2 ≤ q := fun q hq => (own_lt h.oa q hq).1
  have hz := h.size
  have hsz : (wr.alloc o).heap.size = wr.heap.size + 1 := by simp
  have hs3 := hg.size
  rw [hsz] at hs3
  have hq : w.heap.size < w.heap.size + 2 := by omega
  have kept : ∀ {e : TypeId} {v : Value} {c : Nat} {xs : List Value}, wr.ownsRow (w.heap.size + 2) e 1 v c xs → (∀ q, v.ownBlock = some q → (Value.slice aA m ac).ownBlock ≠ some q) → w3.ownsRow (w.heap.size + 2) e 1 v c xs := fun hv hn =>
    (hv.alloc o).kept hg (by
      rename_i v _ _
      cases hvb : v.ownBlock with
      | none => exact .inl rfl
      | some q => exact .inr (fun e => hn q hvb e.symm))
  have h5 : Five w3 w.heap.size (.slice fA n fc) (.slice aA m ac) (.slice wA k wc) (.int .i64 L) (.bool g) := (hg.block _ (by rw [hsz]; omega) (fun e => by have := hlow _ e.symm; omega)).trans (h.d.alloc _)
  have h6 : Five w3 (w.heap.size + 1) (.slice none 0 0) (.slice none 0 0) (.slice none 0 0) (.int .i64 0) (.bool false) := (hg.block _ (by rw [hsz]; omega) (fun e => by have := hlow _ e.symm; omega)).trans (h.r.alloc _)
  have hb3 : Below w.heap.size w w3 := (h.bel.alloc (by omega) _).grown hg (by rw [hsz]; omega) (fun q hq => by have := hlow q hq; omega)
  have hbn : ∀ q, (Value.slice (some ⟨b, 0, none⟩) (m + 1) cap).ownBlock = some q → (Value.slice aA m ac).ownBlock = some q ∨ wr.heap.size < q := by
    intro q hq
    have e : b = q := by simpa [Value.ownBlock] using hq
    subst e
    rcases hat with hh | hh
    · exact .inl hh
    · exact .inr (by omega)
  refine ⟨h5, h6, ⟨h5.set1 _, h6.far (by simp) _, own_low (kept h.of h.fa) 1 _ hq, own_low ho 1 _ hq, own_low (kept h.ow (fun q h1 h2 => h.aw q h2 h1)) 1 _ hq, fun q h1 h2 => ?_, h.fw, fun q h1 h2 => ?_, hb3.setCell (by simp) _, by simp; omega⟩⟩
  · rcases hbn q h2 with hh | hh
    · exact h.fa q h1 hh
    · have := (own_lt h.of q h1).2; omega
  · rcases hbn q h1 with hh | hh
    · exact h.aw q hh h2
    · have := (own_lt h.ow q h2).2; omega

/-- Likewise to What. -/
theorem St3.appW (h : St3 w wr fA n fc fs aA m ac ats wA k wc ws L g) {b cap : Nat} {x : Value} {w3 : World} {o : Obj} (ho : w3.ownsRow (w.heap.size + 2) 9 1 (.slice (some ⟨b, 0, none⟩) (k + 1) cap) (k + 1) (ws ++ [x])) (hg : (wr.alloc o).drew.grownBy w3 (Value.slice wA k wc).ownBlock) (hat : (Value.slice wA k wc).ownBlock = some b ∨ b = wr.heap.size + 1) :
    Five w3 w.heap.size (.slice fA n fc) (.slice aA m ac) (.slice wA k wc) (.int .i64 L) (.bool g) ∧ Five w3 (w.heap.size + 1) (.slice none 0 0) (.slice none 0 0) (.slice none 0 0) (.int .i64 0) (.bool false) ∧ St3 w (w3.setCell ⟨w.heap.size, 2, none⟩ (.slice (some ⟨b, 0, none⟩) (k + 1) cap)) fA n fc fs aA m ac ats (some ⟨b, 0, none⟩) (k + 1) cap (ws ++ [x]) L g := by
  have hlow : ∀ q, (Value.slice wA k wc).ownBlock = some q → w.heap.size + 2 ≤ q := fun q hq => (own_lt h.ow q hq).1
  have hz := h.size
  have hsz : (wr.alloc o).drew.heap.size = wr.heap.size + 1 := by show (wr.alloc o).heap.size = _; simp
  have hs3 := hg.size
  rw [hsz] at hs3
  have hq : w.heap.size < w.heap.size + 2 := by omega
  have kept : ∀ {e : TypeId} {v : Value} {c : Nat} {xs : List Value}, wr.ownsRow (w.heap.size + 2) e 1 v c xs → (∀ q, v.ownBlock = some q → (Value.slice wA k wc).ownBlock ≠ some q) → w3.ownsRow (w.heap.size + 2) e 1 v c xs := fun hv hn =>
    (hv.alloc o).drew.kept hg (by
      rename_i v _ _
      cases hvb : v.ownBlock with
      | none => exact .inl rfl
      | some q => exact .inr (fun e => hn q hvb e.symm))
  have h5 : Five w3 w.heap.size (.slice fA n fc) (.slice aA m ac) (.slice wA k wc) (.int .i64 L) (.bool g) := (hg.block _ (by rw [hsz]; omega) (fun e => by have := hlow _ e.symm; omega)).trans (h.d.alloc _)
  have h6 : Five w3 (w.heap.size + 1) (.slice none 0 0) (.slice none 0 0) (.slice none 0 0) (.int .i64 0) (.bool false) := (hg.block _ (by rw [hsz]; omega) (fun e => by have := hlow _ e.symm; omega)).trans (h.r.alloc _)
  have hb3 : Below w.heap.size w w3 := (h.bel.alloc (by omega) _).drew.grown hg (by rw [hsz]; omega) (fun q hq => by have := hlow q hq; omega)
  have hbn : ∀ q, (Value.slice (some ⟨b, 0, none⟩) (k + 1) cap).ownBlock = some q → (Value.slice wA k wc).ownBlock = some q ∨ wr.heap.size < q := by
    intro q hq
    have e : b = q := by simpa [Value.ownBlock] using hq
    subst e
    rcases hat with hh | hh
    · exact .inl hh
    · exact .inr (by omega)
  refine ⟨h5, h6, ⟨h5.set2 _, h6.far (by simp) _, own_low (kept h.of h.fw) 2 _ hq, own_low (kept h.oa h.aw) 2 _ hq, own_low ho 2 _ hq, h.fa, fun q h1 h2 => ?_, fun q h1 h2 => ?_, hb3.setCell (by simp) _, by simp; omega⟩⟩
  · rcases hbn q h2 with hh | hh
    · exact h.fw q h1 hh
    · have := (own_lt h.of q h1).2; omega
  · rcases hbn q h2 with hh | hh
    · exact h.aw q h1 hh
    · have := (own_lt h.oa q h1).2; omega

/-- The slices lie in blocks from B on, or where others did. -/
def RefFresh (B : Nat) (fA0 aA0 wA0 fA aA wA : Option Addr) : Prop :=
  ∀ b off, (fA = some ⟨b, off, none⟩ ∨ aA = some ⟨b, off, none⟩ ∨ wA = some ⟨b, off, none⟩) → B ≤ b ∨ (fA0 = some ⟨b, off, none⟩ ∨ aA0 = some ⟨b, off, none⟩ ∨ wA0 = some ⟨b, off, none⟩)
theorem own_new {w : World} {base : Nat} {e : TypeId} {n c : Nat} {A : Option Addr} {cs : List Value} (h : w.ownsRow base e 1 (.slice A n c) n cs) : ∀ b off, A = some ⟨b, off, none⟩ → base ≤ b := by
  intro b off hA
  subst hA
  rcases h.2 with ⟨h0, _⟩ | ⟨g, cap, cur, h0, hb, _⟩
  · cases h0
  · simp only [Value.slice.injEq, Option.some.injEq, Addr.mk.injEq] at h0
    omega
theorem St3.fresh {w wr : World} {fA : Option Addr} {n fc : Nat} {fs : List Value} {aA : Option Addr} {m ac : Nat} {ats : List Value} {wA : Option Addr} {k wc : Nat} {ws : List Value} {L : Int} {g : Bool} (h : St3 w wr fA n fc fs aA m ac ats wA k wc ws L g) (fA0 aA0 wA0 : Option Addr) : RefFresh w.heap.size fA0 aA0 wA0 fA aA wA := by
  rintro b off (e | e | e)
  · exact .inl (by have := own_new h.of b off e; omega)
  · exact .inl (by have := own_new h.oa b off e; omega)
  · exact .inl (by have := own_new h.ow b off e; omega)

/-- Behind the stores to the result's block. -/
theorem St3.last {F : List (List UInt8)} {l : List (Nat × List UInt8)} (h : St3 w wr fA F.length fc (F.map secV) aA l.length ac (l.map atV) wA l.length wc (l.map whatV) L g) (hn : l = [] → aA = none ∧ ac = 0 ∧ wA = none ∧ wc = 0) (u0 u1 u2 u3 u4 : Value) {w' : World}
    (hw : w' = ((((wr.setCell ⟨w.heap.size + 1, 0, none⟩ u0).setCell ⟨w.heap.size + 1, 1, none⟩ u1).setCell ⟨w.heap.size + 1, 2, none⟩ u2).setCell ⟨w.heap.size + 1, 3, none⟩ u3).setCell ⟨w.heap.size + 1, 4, none⟩ u4) : RefAt w' w'.heap.size F l fA aA ac wA wc ∧ Below w.heap.size w w' := by
  subst hw
  have hq : w.heap.size + 1 < w.heap.size + 2 := by omega
  have h1 := own_low (own_low (own_low (own_low (own_low h.of 0 u0 hq) 1 u1 hq) 2 u2 hq) 3 u3 hq) 4 u4 hq
  have h2 := own_low (own_low (own_low (own_low (own_low h.oa 0 u0 hq) 1 u1 hq) 2 u2 hq) 3 u3 hq) 4 u4 hq
  have h3 := own_low (own_low (own_low (own_low (own_low h.ow 0 u0 hq) 1 u1 hq) 2 u2 hq) 3 u3 hq) 4 u4 hq
  exact ⟨⟨own_lies_ h1, own_lies_ h2, own_lies_ h3, hn⟩, ((((h.bel.setCell (by simp) _).setCell (by simp) _).setCell (by simp) _).setCell (by simp) _).setCell (by simp) _⟩
end Go.Proofs.YtlelfakememckaaGreatDoor
