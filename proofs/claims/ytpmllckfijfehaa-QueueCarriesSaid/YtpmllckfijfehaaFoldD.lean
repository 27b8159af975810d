/- Folded writes: contracts of slices.Clone at writes and of Fold. -/
import Derived.Test.YtpmllckfijfehaaFoldQ
namespace Go.Proofs.Ytpmllckfijfehaa
open Go.Shelf Go.RowKit Go.Lib Go.Sort

set_option maxHeartbeats 800000 in
theorem CloneW_any {w : World} {A : Option Addr} {n c : Nat} {cs : List Value} (h : Lies w w.heap.size A cs) (hl : cs.length = n * 3) (hn : n ≤ 4000) (h1 : ∀ u ∈ cs, u.oneCell' = true) :
    Calls Try.prog 54 #[.slice A n c] w (OwnEnd 61 3 n cs w) := by
  obtain ⟨i0, hi0, hz0, hz1, hz2⟩ := info_parts Try.infoWr
  have hnil := run_eql_slice_nil (P := Try.prog) w 23 61 A n c Try.underlying23
  have HL := Lib.hid h
  have HLen := Lib.hid hl
  cases A with
  | none =>
    have h0 : cs = [] := by
      rcases h with h | ⟨b, off, hA, _⟩
      · exact h
      · cases hA
    have h00 : n = 0 := by rw [h0] at hl; simp at hl; omega
    have HE : Hid (OwnEnd 61 3 n cs w (.returned (.slice none 0 0)) w) := Lib.hid ⟨_, rfl, by rw [h0, h00]; exact World.ownsRow_nil _ _ _ _, Below.refl _ _⟩
    clear h hl h0 h00 hi0 hz0 hz1 hz2
    go_enter Try.func54, Try.ntmps54
    go_wp2
    go_ret
    exact HE.out
  | some x =>
    have HC : Hid (∀ j u, cs[j]? = some u → (w.alloc (.cells #[] 61)).cell? (x.add j) = some u) := Lib.hid (fun j u hj => by
      rcases h with h | ⟨b, off, hA, hb, hc⟩
      · rw [h] at hj; simp at hj
      · cases hA
        obtain ⟨hj1, hj2⟩ := List.getElem?_eq_some_iff.1 hj
        rw [WideShapes.add_plain, ((Below.refl w.heap.size w).alloc (Nat.le_refl _) _).cell (p := ⟨b, off + j, none⟩) hb, hc j hj1, hj2])
    clear h hl
    go_enter Try.func54, Try.ntmps54
    go_wp2_with (at_builtin; refine wpList_append_own _ rfl (.tmp 5) (.tmp 6) 23 rfl w.heap.size 61 i0 (.agg #[.int .i64 0, .int .i64 0, .string ByteArray.empty]) 3 32 Try.underlying23 hi0 hz0 hz1 hz2 rfl (by decide) (.slice (some ⟨w.heap.size, 0, none⟩) 0 0) 0 [] rfl (World.ownsRow_made w #[] 0 (Nat.le_refl _) (Nat.zero_le _) rfl) x n c cs rfl HLen.out HC.out h1 ?c4 ?c5 ?c6 ?_)
    case c4 => unfold maxLen; omega
    case c5 => omega
    case c6 => simp
    intro v' w2 hown hg _
    have HE : Hid (OwnEnd 61 3 n cs w (.returned v') w2) := by
      refine Lib.hid ⟨_, rfl, by simpa using hown, ?_⟩
      refine ((Below.refl w.heap.size w).alloc (Nat.le_refl _) _).grown hg (by simp) (fun k hk => ?_)
      simp only [Value.ownBlock, Option.some.injEq] at hk
      omega
    clear hown hg
    go_wp2
    go_ret
    exact HE.out


set_option maxRecDepth 100000 in
theorem ins_nil (w : World) : Calls Try.prog 69 #[.slice none 0 0, .int .i64 0, .int .i64 0, .func (.func 52) #[] #[]] w fun e w' => e = .returned (.tuple #[]) ∧ w' = w := by
  go_enter Try.func69, Try.ntmps69
  go_wp2
  refine wp_loop_rounds 1 ?_
  rw [rounds_succ]
  go_wp2
  go_end0
  exact ⟨rfl, rfl⟩
set_option maxRecDepth 100000 in
theorem stable_nil (w : World) : Calls Try.prog 65 #[.slice none 0 0, .int .i64 0, .func (.func 52) #[] #[]] w fun e w' => e = .returned (.tuple #[]) ∧ w' = w := by
  have hI := ins_nil
  go_enter Try.func65, Try.ntmps65
  go_wp2
  refine wp_loop_rounds 1 ?_
  rw [rounds_succ]
  go_wp2_with (go_at_call 69; refine (hI _).mono ?_; rintro e w' ⟨rfl, rfl⟩)
  refine wp_loop_rounds 1 ?_
  rw [rounds_succ]
  go_wp2
  go_end0
  exact ⟨rfl, rfl⟩
set_option maxRecDepth 100000 in
theorem SortStable_nil (w : World) : Calls Try.prog 55 #[.slice none 0 0, .func (.func 52) #[] #[]] w fun e w' => e = .returned (.tuple #[]) ∧ w' = w := by
  have hI := stable_nil
  go_enter Try.func55, Try.ntmps55
  go_wp2_with (go_at_call 65; refine (hI _).mono ?_; rintro e w' ⟨rfl, rfl⟩)
  go_end0
  exact ⟨rfl, rfl⟩

/-- A row of the call's own is put in order; what a fold takes of it is what a fold takes of it as it was. -/
theorem SortStable_own {w : World} {base : Nat} {v : Value} {ws : List Wr} (h : w.ownsRow base 61 3 v ws.length (wrCells ws)) (hn : ws.length ≤ 4000) (hbase : base ≤ w.heap.size) :
    Calls Try.prog 55 #[v, .func (.func 52) #[] #[]] w fun e w' => e = .returned (.tuple #[]) ∧ ∃ A c us, v = .slice A ws.length c ∧ us.length = ws.length ∧ lasts us = foldW ws ∧ WrsAt w' w'.heap.size A us ∧ Below base w w' := by
  have h0 := h
  rcases h.2 with ⟨rfl, hn0⟩ | ⟨g, cap, cur, rfl, hb, hg, _, _, _, _⟩
  · have hws : ws = [] := List.eq_nil_of_length_eq_zero hn0
    subst hws
    refine (SortStable_nil w).mono ?_
    rintro e w' ⟨rfl, rfl⟩
    exact ⟨rfl, none, 0, [], rfl, rfl, rfl, .inl rfl, Below.refl _ _⟩
  · have hH := holds_of_own h0
    have hlt : g < w.heap.size := (h0.lt g rfl).2
    have R : RowK encW 3 w g 0 ws.toArray := ⟨encW_len, encW_one, hH, hlt⟩
    have := SortStable_row (cap := cap) R (by simpa using hn)
    rw [List.size_toArray] at this
    refine this.mono ?_
    rintro e w' ⟨rfl, d', hs, hst, hso, hS⟩
    have hs2 : d'.size = ws.toArray.size := by simpa using hs
    refine ⟨rfl, some ⟨g, 0, none⟩, cap, d'.toList, rfl, by simpa using hs, ?_, wrs_of_holds (hS.holds hlt hH hs2) (hS.lt hlt), swk_below hS hb hbase⟩
    refine lasts_fold (pairwise_of (by rw [hs]; exact hso)) (fun v b => ?_)
    have := stb_last hs2 (by rw [List.size_toArray]; exact hst) v b
    rw [this]

/-- What a call that hands back writes leaves. -/
def WrsEnd (us : List Wr) (w : World) (e : Ending) (w' : World) : Prop :=
  ∃ A c, e = .returned (.slice A us.length c) ∧ WrsAt w' w'.heap.size A us ∧ (A = none → c = 0) ∧ Below w.heap.size w w'
theorem cell_three_new (w : World) (a b c : Value) (t : TypeId) : ∀ j u, [a, b, c][j]? = some u → (w.alloc (.cells #[a, b, c] t)).cell? (Addr.add ⟨w.heap.size, 0, none⟩ j) = some u := fun j u hj => by
  rw [WideShapes.add_plain, Nat.zero_add, Lib.cell_of_heap (heap_alloc_new _ _)]
  simpa using hj
theorem own_end {w0 w : World} {base : Nat} {v : Value} {us : List Wr} {t : TypeId} (h : w.ownsRow base t 3 v us.length (wrCells us)) (hb : Below w0.heap.size w0 w) : WrsEnd us w0 (.returned v) w := by
  obtain ⟨A, c, rfl, _, hl⟩ := own_lies h
  refine ⟨A, c, rfl, WrsAt.of_lies hl, fun e => ?_, hb⟩
  subst e
  rcases h.2 with ⟨e, _⟩ | ⟨g, cap, cur, e, _⟩
  · simp only [Value.slice.injEq] at e; exact e.2.2
  · simp only [Value.slice.injEq] at e; exact absurd e.1 (by simp)

set_option maxHeartbeats 4000000 in
set_option maxRecDepth 100000 in
theorem Fold_any {w : World} {A : Option Addr} {c : Nat} {ws : List Wr} (h : WrsAt w w.heap.size A ws) (hn : ws.length ≤ 4000) :
    Calls Try.prog 43 #[.slice A ws.length c] w (WrsEnd (foldW ws) w) := by
  have HClo : Hid (∀ c, Calls Try.prog 54 #[.slice A ws.length c] w (OwnEnd 61 3 ws.length (wrCells ws) w)) := Lib.hid (fun c => CloneW_any h.lies (wrCells_length _) hn (wrCells_one _))
  have HSrt : Hid (∀ v w1, w1.ownsRow w.heap.size 61 3 v ws.length (wrCells ws) → Below w.heap.size w w1 → Calls Try.prog 55 #[v, .func (.func 52) #[] #[]] w1 fun e w' => e = .returned (.tuple #[]) ∧ ∃ A c us, v = .slice A ws.length c ∧ us.length = ws.length ∧ lasts us = foldW ws ∧ WrsAt w' w'.heap.size A us ∧ Below w.heap.size w w') := Lib.hid (fun v w1 h1 h2 => by
    refine (SortStable_own h1 hn h2.size).mono ?_
    rintro e w' ⟨rfl, A, c, us, e1, e2, e3, e4, e5⟩
    exact ⟨rfl, A, c, us, e1, e2, e3, e4, h2.trans e5⟩)
  obtain ⟨i0, hi0, hz0, hz1, hz2⟩ := info_parts Try.infoWr
  have mixed : Try.prog.follows .mixedOrders = true := by kernel_rfl
  obtain ⟨F, hF⟩ : ∃ F, foldW ws = F := ⟨_, rfl⟩
  rw [hF] at HSrt ⊢
  clear h hF
  obtain ⟨n, hnn⟩ : ∃ n, ws.length = n := ⟨_, rfl⟩
  rw [hnn] at HClo HSrt hn ⊢
  clear hnn
  go_enter Try.func43, Try.ntmps43
  go_wp2_with fail
  refine (HClo.out _).mono ?_
  rintro e w1 ⟨v1, rfl, ho1, hb1⟩
  have HS1 := Lib.hid (HSrt.out v1 w1 ho1 hb1)
  clear ho1 hb1
  go_wp2_with fail
  refine HS1.out.mono ?_
  rintro e w3 ⟨rfl, A3, c3, us, rfl, hus, hla, hat, hb3⟩
  have HLa := Lib.hid hla
  have HAt := Lib.hid hat
  have HB3 := Lib.hid hb3
  have HUs := Lib.hid hus
  clear hla hat hb3 hus HS1 HSrt HClo
  go_wp2_with fail
  go_loopg [4, 13] n (fun kx s4 s13 wr => ∃ (k m : Nat) (acc : List Wr), s13 = .int .i64 k ∧ k ≤ n ∧ n - k ≤ kx ∧ acc.length = m ∧ m ≤ k ∧ Hid (wr.ownsRow w3.heap.size 61 3 s4 m (wrCells acc)) ∧ Hid (acc ++ lasts (us.drop k) = F) ∧ Hid (Below w3.heap.size w3 wr))
  case atStart => exact ⟨0, 0, [], rfl, Nat.zero_le _, by omega, rfl, Nat.le_refl _, Lib.hid (World.ownsRow_nil _ _ _ _), HLa, Lib.hid (Below.refl _ _)⟩
  case round =>
    obtain ⟨k, m, acc, rfl, hk, hkx, hm, hmk, HO, HR, HB⟩ := hrel
    obtain ⟨A4, c4, h4, hxx⟩ := own_lies HO.out
    clear hxx
    subst h4
    by_cases hlt : k < n
    · have hltz : (k : Int) < (n : Int) := by omega
      have hku : k < us.length := by rw [HUs.out]; exact hlt
      obtain ⟨b, off, hA, hbl, x1, x2, x3⟩ := HAt.out.at_ HB.out hku
      have HR2 := Lib.hid ((congrArg (acc ++ ·) (lasts_drop hku)).symm.trans HR.out)
      have hwz : w3.heap.size ≤ wr.heap.size := HB.out.size
      have hbw : b < wr.heap.size := by omega
      subst hA
      obtain ⟨x, hx⟩ : ∃ x, us[k] = x := ⟨_, rfl⟩
      rw [hx] at x1 x2 x3 HR2
      clear hx HR
      obtain ⟨vol, block, data⟩ := x
      simp only at x1 x2 x3
      have HBn : Hid (∀ q os, Below wr.heap.size wr (grow ((wr.alloc (.cells #[.int .i64 vol, .int .i64 block, .string data] 61)).drewN q) os)) := Lib.hid (fun q os => ((Below.refl wr.heap.size wr).alloc (Nat.le_refl _) _).trans ⟨rfl, rfl, rfl, by rw [size_grow]; exact Nat.le_add_right _ _, fun i hi => by
        show ((wr.alloc (.cells #[.int .i64 vol, .int .i64 block, .string data] 61)).heap ++ os)[i]? = _
        rw [Array.getElem?_append_left (by simp; omega)]⟩)
      have HCn : Hid (∀ q os, (grow ((wr.alloc (.cells #[.int .i64 vol, .int .i64 block, .string data] 61)).drewN q) os).cell? ⟨wr.heap.size, 0, none⟩ = some (.int .i64 vol) ∧ (grow ((wr.alloc (.cells #[.int .i64 vol, .int .i64 block, .string data] 61)).drewN q) os).cell? ⟨wr.heap.size, 1, none⟩ = some (.int .i64 block) ∧ (grow ((wr.alloc (.cells #[.int .i64 vol, .int .i64 block, .string data] 61)).drewN q) os).cell? ⟨wr.heap.size, 2, none⟩ = some (.string data)) := Lib.hid (fun q os => ⟨cell_grown (by simp) (by rw [Lib.cell_of_heap (heap_alloc_new _ _)]; rfl) q os, cell_grown (by simp) (by rw [Lib.cell_of_heap (heap_alloc_new _ _)]; rfl) q os, cell_grown (by simp) (by rw [Lib.cell_of_heap (heap_alloc_new _ _)]; rfl) q os⟩)
      by_cases hla : k + 1 = n
      · have hlaz : ((k : Int) + 1 == (n : Int)) = true := by rw [beq_iff_eq]; omega
        have HK : Hid (acc ++ (⟨vol, block, data⟩ :: lasts (us.drop (k + 1))) = F) := Lib.hid (by
          have h1 := HR2.out
          have h2 : lastHere ⟨vol, block, data⟩ (us.drop (k + 1)) = true := by rw [List.drop_of_length_le (by rw [HUs.out]; omega)]; rfl
          rw [if_pos h2] at h1
          exact h1)
        clear HR2
        go_wp2_with fail
        go_big_region_o
        have HB5 : Hid (Below wr.heap.size wr (wr.alloc (.cells #[.int .i64 vol, .int .i64 block, .string data] 61)).drew) := Lib.hid ((Below.refl wr.heap.size wr).alloc (Nat.le_refl _) _).drew
        have HC5 : Hid ((wr.alloc (.cells #[.int .i64 vol, .int .i64 block, .string data] 61)).drew.cell? ⟨wr.heap.size, 0, none⟩ = some (.int .i64 vol) ∧ (wr.alloc (.cells #[.int .i64 vol, .int .i64 block, .string data] 61)).drew.cell? ⟨wr.heap.size, 1, none⟩ = some (.int .i64 block) ∧ (wr.alloc (.cells #[.int .i64 vol, .int .i64 block, .string data] 61)).drew.cell? ⟨wr.heap.size, 2, none⟩ = some (.string data)) := Lib.hid (by
          have := HCn.out 1 #[]
          rw [grow_empty] at this
          exact this)
        clear HBn HCn x1 x2 x3
        generalize (wr.alloc (.cells #[.int .i64 vol, .int .i64 block, .string data] 61)).drew = w5 at HB5 HC5 ⊢
        have HO5 : Hid (w5.ownsRow w3.heap.size 61 3 (.slice A4 m c4) m (wrCells acc)) := Lib.hid (own_kept HO.out HB5.out)
        have hy0 : w5.cell? ⟨wr.heap.size, 0, none⟩ = some (.int .i64 vol) := HC5.out.1
        have hy1 : w5.cell? ⟨wr.heap.size, 1, none⟩ = some (.int .i64 block) := HC5.out.2.1
        have hy2 : w5.cell? ⟨wr.heap.size, 2, none⟩ = some (.string data) := HC5.out.2.2
        have HZ5 : Hid (w3.heap.size ≤ w5.heap.size) := Lib.hid (by have h1 := HB.out.size; have h2 := HB5.out.size; omega)
        clear HC5
        go_wp2_with (at_builtin; refine wpList_append_own _ rfl (.tmp 33) (.tmp 35) 23 rfl w3.heap.size 61 i0 (.agg #[.int .i64 0, .int .i64 0, .string ByteArray.empty]) 3 32 Try.underlying23 hi0 hz0 hz1 hz2 rfl (by decide) (.slice A4 m c4) m (wrCells acc) rfl (HO5.out.alloc _) ⟨w5.heap.size, 0, none⟩ 1 1 [.int .i64 vol, .int .i64 block, .string data] rfl rfl (cell_three_new _ _ _ _ _) (by intro u hu; simp at hu; rcases hu with rfl | rfl | rfl <;> rfl) ?c4 ?c5 ?c6 ?_)
        case c4 => unfold maxLen; omega
        case c5 => omega
        case c6 => have := HZ5.out; simp; omega
        intro v6 w6 hown hg _
        have HO6 : Hid (w6.ownsRow w3.heap.size 61 3 v6 (m + 1) (wrCells (acc ++ [⟨vol, block, data⟩]))) := Lib.hid (by rw [wrCells_append]; exact hown)
        have HB6 : Hid (Below w3.heap.size w3 w6) := Lib.hid (by
          have h1 : Below w3.heap.size w3 w5 := HB.out.trans (HB5.out.mono HB.out.size)
          exact (h1.alloc h1.size _).grown hg (by have := h1.size; simp; omega) (fun q hq => (HO.out.lt q hq).1))
        clear hown hg hy0 hy1 hy2 HO5
        go_wp2_with fail
        go_roundg (n - (k + 1))
        case measure => omega
        case rel => exact ⟨k + 1, m + 1, acc ++ [⟨vol, block, data⟩], by go_num, by omega, Nat.le_refl _, by rw [List.length_append, hm]; rfl, by omega, HO6, Lib.hid (by rw [List.append_assoc]; exact HK.out), HB6⟩
      · have hlaz : ((k : Int) + 1 == (n : Int)) = false := by rw [beq_eq_false_iff_ne]; omega
        have hk1 : k + 1 < us.length := by rw [HUs.out]; omega
        obtain ⟨b', off', hA', _, y1, y2, y3⟩ := HAt.out.at_ HB.out hk1
        cases hA'
        have HR3 : Hid (acc ++ (if cmpW ⟨vol, block, data⟩ us[k + 1] ≠ 0 then ⟨vol, block, data⟩ :: lasts (us.drop (k + 1)) else lasts (us.drop (k + 1))) = F) := Lib.hid (by
          have h1 := HR2.out
          rw [List.drop_eq_getElem_cons hk1] at h1 ⊢
          simpa [lastHere] using h1)
        obtain ⟨y, hy⟩ : ∃ y, us[k + 1] = y := ⟨_, rfl⟩
        rw [hy] at y1 y2 y3 HR3
        clear hy HR2
        obtain ⟨yv, yb, yd⟩ := y
        simp only at y1 y2 y3
        have hcg := fun q os => compare_any ⟨vol, block, data⟩ ⟨yv, yb, yd⟩ (grow ((wr.alloc (.cells #[.int .i64 vol, .int .i64 block, .string data] 61)).drewN q) os)
        simp only at hcg
        have z0 : ∀ q os, (grow ((wr.alloc (.cells #[.int .i64 vol, .int .i64 block, .string data] 61)).drewN q) os).cell? ⟨wr.heap.size, 0, none⟩ = some (.int .i64 vol) := fun q os => (HCn.out q os).1
        have z1 : ∀ q os, (grow ((wr.alloc (.cells #[.int .i64 vol, .int .i64 block, .string data] 61)).drewN q) os).cell? ⟨wr.heap.size, 1, none⟩ = some (.int .i64 block) := fun q os => (HCn.out q os).2.1
        have z2 : ∀ q os, (grow ((wr.alloc (.cells #[.int .i64 vol, .int .i64 block, .string data] 61)).drewN q) os).cell? ⟨wr.heap.size, 2, none⟩ = some (.string data) := fun q os => (HCn.out q os).2.2
        have q0 : ∀ q os, (grow ((wr.alloc (.cells #[.int .i64 vol, .int .i64 block, .string data] 61)).drewN q) os).cell? ⟨b, off + (k + 1) * 3, none⟩ = some (.int .i64 yv) := fun q os => ((HBn.out q os).cell (p := ⟨b, off + (k + 1) * 3, none⟩) hbw).trans y1
        have q1 : ∀ q os, (grow ((wr.alloc (.cells #[.int .i64 vol, .int .i64 block, .string data] 61)).drewN q) os).cell? ⟨b, off + (k + 1) * 3 + 1, none⟩ = some (.int .i64 yb) := fun q os => ((HBn.out q os).cell (p := ⟨b, off + (k + 1) * 3 + 1, none⟩) hbw).trans y2
        have q2 : ∀ q os, (grow ((wr.alloc (.cells #[.int .i64 vol, .int .i64 block, .string data] 61)).drewN q) os).cell? ⟨b, off + (k + 1) * 3 + 2, none⟩ = some (.string yd) := fun q os => ((HBn.out q os).cell (p := ⟨b, off + (k + 1) * 3 + 2, none⟩) hbw).trans y3
        have e0 : ((k : Int) + 1).toNat = k + 1 := by omega
        have p0 : (0 : Int) ≤ (k : Int) + 1 := by omega
        have b0 : (k : Int) + 1 < (n : Int) := by omega
        have r0 : IntKind.i64.wrap ((k : Int) + 1) = (k : Int) + 1 := by rw [IntKind.wrap_i64]; omega
        clear y1 y2 y3
        by_cases hc : cmpW ⟨vol, block, data⟩ ⟨yv, yb, yd⟩ = 0
        · have HK : Hid (acc ++ lasts (us.drop (k + 1)) = F) := Lib.hid (by have h1 := HR3.out; rw [if_neg (by simpa using hc)] at h1; exact h1)
          rw [hc] at hcg
          clear hc HR3
          go_wp2_with fail
          go_quiet_grown (first | (go_at_call 52; refine Calls.grown_of (hcg _ _)))
          clear z0 z1 z2 q0 q1 q2 e0 p0 b0 r0 hcg
          have HB5 : Hid (Below wr.heap.size wr (grow ((wr.alloc (.cells #[.int .i64 vol, .int .i64 block, .string data] 61)).drewN nq) osq)) := Lib.hid (HBn.out nq osq)
          have HC5 := Lib.hid (HCn.out nq osq)
          clear HBn HCn x1 x2 x3
          generalize grow ((wr.alloc (.cells #[.int .i64 vol, .int .i64 block, .string data] 61)).drewN nq) osq = w5 at HB5 HC5 ⊢
          clear nq osq
          have HO5 : Hid (w5.ownsRow w3.heap.size 61 3 (.slice A4 m c4) m (wrCells acc)) := Lib.hid (own_kept HO.out HB5.out)
          have HB6 : Hid (Below w3.heap.size w3 w5) := Lib.hid (HB.out.trans (HB5.out.mono HB.out.size))
          go_wp2_with fail
          go_roundg (n - (k + 1))
          case measure => omega
          case rel => exact ⟨k + 1, m, acc, by go_num, by omega, Nat.le_refl _, hm, by omega, HO5, HK, HB6⟩
        · have HK : Hid (acc ++ (⟨vol, block, data⟩ :: lasts (us.drop (k + 1))) = F) := Lib.hid (by have h1 := HR3.out; rw [if_pos (by simpa using hc)] at h1; exact h1)
          have hc' : (cmpW ⟨vol, block, data⟩ ⟨yv, yb, yd⟩ != 0) = true := by rw [bne_iff_ne]; exact hc
          obtain ⟨r, hr⟩ : ∃ r, cmpW ⟨vol, block, data⟩ ⟨yv, yb, yd⟩ = r := ⟨_, rfl⟩
          rw [hr] at hcg hc'
          clear hc HR3 hr
          go_wp2_with fail
          go_quiet_grown (first | (go_at_call 52; refine Calls.grown_of (hcg _ _)))
          clear z0 z1 z2 q0 q1 q2 e0 p0 b0 r0 hcg
          have HB5 : Hid (Below wr.heap.size wr (grow ((wr.alloc (.cells #[.int .i64 vol, .int .i64 block, .string data] 61)).drewN nq) osq)) := Lib.hid (HBn.out nq osq)
          have HC5 := Lib.hid (HCn.out nq osq)
          clear HBn HCn x1 x2 x3
          generalize grow ((wr.alloc (.cells #[.int .i64 vol, .int .i64 block, .string data] 61)).drewN nq) osq = w5 at HB5 HC5 ⊢
          clear nq osq
          have HO5 : Hid (w5.ownsRow w3.heap.size 61 3 (.slice A4 m c4) m (wrCells acc)) := Lib.hid (own_kept HO.out HB5.out)
          have hy0 : w5.cell? ⟨wr.heap.size, 0, none⟩ = some (.int .i64 vol) := HC5.out.1
          have hy1 : w5.cell? ⟨wr.heap.size, 1, none⟩ = some (.int .i64 block) := HC5.out.2.1
          have hy2 : w5.cell? ⟨wr.heap.size, 2, none⟩ = some (.string data) := HC5.out.2.2
          have HZ5 : Hid (w3.heap.size ≤ w5.heap.size) := Lib.hid (by have h1 := HB.out.size; have h2 := HB5.out.size; omega)
          clear HC5
          go_wp2_with (at_builtin; refine wpList_append_own _ rfl (.tmp 33) (.tmp 35) 23 rfl w3.heap.size 61 i0 (.agg #[.int .i64 0, .int .i64 0, .string ByteArray.empty]) 3 32 Try.underlying23 hi0 hz0 hz1 hz2 rfl (by decide) (.slice A4 m c4) m (wrCells acc) rfl (HO5.out.alloc _) ⟨w5.heap.size, 0, none⟩ 1 1 [.int .i64 vol, .int .i64 block, .string data] rfl rfl (cell_three_new _ _ _ _ _) (by intro u hu; simp at hu; rcases hu with rfl | rfl | rfl <;> rfl) ?c4 ?c5 ?c6 ?_)
          case c4 => unfold maxLen; omega
          case c5 => omega
          case c6 => have := HZ5.out; simp; omega
          intro v6 w6 hown hg _
          have HO6 : Hid (w6.ownsRow w3.heap.size 61 3 v6 (m + 1) (wrCells (acc ++ [⟨vol, block, data⟩]))) := Lib.hid (by rw [wrCells_append]; exact hown)
          have HB6 : Hid (Below w3.heap.size w3 w6) := Lib.hid (by
            have h1 : Below w3.heap.size w3 w5 := HB.out.trans (HB5.out.mono HB.out.size)
            exact (h1.alloc h1.size _).grown hg (by have := h1.size; simp; omega) (fun q hq => (HO.out.lt q hq).1))
          clear hown hg hy0 hy1 hy2 HO5
          go_wp2_with fail
          go_roundg (n - (k + 1))
          case measure => omega
          case rel => exact ⟨k + 1, m + 1, acc ++ [⟨vol, block, data⟩], by go_num, by omega, Nat.le_refl _, by rw [List.length_append, hm]; rfl, by omega, HO6, Lib.hid (by rw [List.append_assoc]; exact HK.out), HB6⟩
    · have hltz : ¬ (k : Int) < (n : Int) := by omega
      have HE : Hid (acc = F) := Lib.hid (by have := HR.out; rw [List.drop_of_length_le (by rw [HUs.out]; omega)] at this; simpa [lasts] using this)
      go_wp2_with fail
      go_ret
      have hO := HO.out
      rw [← hm] at hO
      have := own_end hO (HB3.out.trans (HB.out.mono HB3.out.size))
      rw [hm, HE.out] at this
      exact this
end Go.Proofs.Ytpmllckfijfehaa
