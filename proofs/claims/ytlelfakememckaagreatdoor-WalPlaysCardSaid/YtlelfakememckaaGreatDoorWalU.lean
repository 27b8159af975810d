/- Contract of replaceState. -/
import Derived.Test.YtlelfakememckaaGreatDoorWalR
import Derived.Test.YtlelfakememckaaGreatDoorPlain
import Derived.BigRegion
namespace Go.Proofs.YtlelfakememckaaGreatDoor
open Go.RowKit

/-- Why a state is refused. -/
def ckBad (v : WalV) (l : List UInt8) : Int :=
  if v.down = true then 7 else if 32 * ((v.slot : Int) - 1) < (l.length : Int) then 5 else if v.gen = 1099511627776 ∨ 1099511627776 < v.num then 6 else 0
def ckE (v : WalV) (d : DSt) (l : List UInt8) : Int := if ckBad v l = 0 then (if d.storeE (bodyS v.slot v.gen.toNat l) (headS v v.slot v.gen.toNat l) = true then 0 else 7) else ckBad v l
def ckD (v : WalV) (d : DSt) (l : List UInt8) : DSt := if ckBad v l = 0 then d.storeD (bodyS v.slot v.gen.toNat l) (headS v v.slot v.gen.toNat l) else d
def ckN (v : WalV) : WalV := { v with gen := ((v.gen.toNat + 1 : Nat) : Int), used := 0 }
def ckV (v : WalV) (d : DSt) (l : List UInt8) : WalV := if ckE v d l = 0 then ckN v else v
theorem ck_bad {v : WalV} {d : DSt} {l : List UInt8} {k : Int} (h : ckBad v l = k) (hk : k ≠ 0) : ckE v d l = k ∧ ckD v d l = d ∧ ckV v d l = v := by
  have e : ckE v d l = k := by unfold ckE; rw [h, if_neg hk]
  exact ⟨e, by unfold ckD; rw [h, if_neg hk], by unfold ckV; rw [e, if_neg hk]⟩
theorem ck_go {v : WalV} {d : DSt} {l : List UInt8} (h : ckBad v l = 0) : ckD v d l = d.storeD (bodyS v.slot v.gen.toNat l) (headS v v.slot v.gen.toNat l) ∧
    (d.storeE (bodyS v.slot v.gen.toNat l) (headS v v.slot v.gen.toNat l) = true → ckE v d l = 0 ∧ ckV v d l = ckN v) ∧
    (d.storeE (bodyS v.slot v.gen.toNat l) (headS v v.slot v.gen.toNat l) = false → ckE v d l = 7 ∧ ckV v d l = v) := by
  refine ⟨by unfold ckD; rw [if_pos h], fun h2 => ?_, fun h2 => ?_⟩
  · have e : ckE v d l = 0 := by unfold ckE; rw [if_pos h, if_pos h2]
    exact ⟨e, by unfold ckV; rw [if_pos e]⟩
  · have e : ckE v d l = 7 := by unfold ckE; rw [if_pos h, h2]; rfl
    exact ⟨e, by unfold ckV; rw [e]; rfl⟩
theorem ckBad_zero {v : WalV} {l : List UInt8} (h : ckBad v l = 0) : v.down = false ∧ (l.length : Int) ≤ 32 * ((v.slot : Int) - 1) ∧ v.gen ≠ 1099511627776 ∧ v.num ≤ 1099511627776 := by
  unfold ckBad at h
  split at h
  · cases h
  · rename_i h1
    split at h
    · cases h
    · rename_i h2
      split at h
      · cases h
      · rename_i h3
        exact ⟨by simpa using h1, by omega, by omega, by omega⟩
def bodyU (f : Nat) (l : List UInt8) (i : Nat) : List (Nat × List UInt8) := (List.range i).map (fun j => (f + 1 + j, (cutsOf l).getD j []))
theorem bodyU_succ (f : Nat) (l : List UInt8) (i : Nat) : bodyU f l (i + 1) = bodyU f l i ++ [(f + 1 + i, (cutsOf l).getD i [])] := by
  unfold bodyU; rw [List.range_succ, List.map_append]; rfl

set_option maxHeartbeats 8000000 in
set_option maxRecDepth 100000 in
theorem replaceState_any {w : World} {F : Nat → Prop} {a : Nat} {v : WalV} {d : DSt} (h : LogAt w F a v d) (hF : ¬ F a) (l : List UInt8) (hl : l.length ≤ 100000) (hlo : d.loose.length ≤ 100000) :
    Calls Tryz.prog 45 #[.pointer (some ⟨a, 0, none⟩), .string (str l)] w (LogEnd w F a (ckV v d l) (ckD v d l) (.int .i64 (ckE v d l))) := by
  have HL0 := Lib.hid h
  have HF := Lib.hid hF
  have halt : a < w.heap.size := heap_lt h.wal
  have HLow : Hid (∀ k, F k → k < w.heap.size) := Lib.hid h.disk.low
  obtain ⟨c0, c1, c2, c3, c4, c5, c6, cf⟩ := h.wal.cells
  have hok := h.ok
  have hn1 := hok.n1
  have hs1 := hok.s1
  have hft := hok.fit
  have hnx := hok.next
  have hk1 := hok.k1
  have hk2 := hok.k2
  have hg1 := hok.g1
  have hg2 := hok.g2
  obtain ⟨n, hn⟩ : ∃ n, d.seen.length = n := ⟨_, rfl⟩
  have HN := Lib.hid hn
  rw [hn] at hn1 hft hnx
  have hsl := str_size l
  obtain ⟨R, hR⟩ : ∃ R, str l = R := ⟨_, rfl⟩
  have HR := Lib.hid hR
  rw [hR] at hsl ⊢
  obtain ⟨N, hN⟩ : ∃ N, l.length = N := ⟨_, rfl⟩
  have HNl := Lib.hid hN
  rw [hN] at hsl hl
  have hsz : (R.size : Int) = (N : Int) := by omega
  have hs4 : v.slot ≤ 4096 := by omega
  have HLs : Hid (∀ w', Calls Tryz.prog 72 #[.int .i64 v.slot] w' fun e w'' => e = .returned (.int .i64 (32 * ((v.slot : Int) - 1))) ∧ w' = w'') := Lib.hid (fun w' => longestState_any v.slot w' hs4)
  clear h hF hok hR hN hn
  cases hd : v.down with
  | true =>
    have HE := Lib.hid (ck_bad (v := v) (d := d) (l := l) (k := 7) (by unfold ckBad; rw [if_pos hd]) (by decide))
    rw [hd] at c6
    clear hd
    go_enter Tryz.func45, Tryz.ntmps45
    go_wp2_with fail
    go_ret
    rw [HE.out.1, HE.out.2.1, HE.out.2.2]
    exact LogEnd.same HL0.out HF.out (Below.refl _ _)
  | false =>
    rw [hd] at c6
    by_cases hlong : 32 * ((v.slot : Int) - 1) < (N : Int)
    · have HE := Lib.hid (ck_bad (v := v) (d := d) (l := l) (k := 5) (by unfold ckBad; rw [if_neg (by rw [hd]; simp), if_pos (by rw [HNl.out]; exact hlong)]) (by decide))
      clear hd
      go_enter Tryz.func45, Tryz.ntmps45
      go_wp2_with fail
      refine (HLs.out _).mono ?_
      rintro e w' ⟨rfl, rfl⟩
      go_wp2_with fail
      go_ret
      rw [HE.out.1, HE.out.2.1, HE.out.2.2]
      exact LogEnd.same HL0.out HF.out (Below.refl _ _)
    · have hlongz : decide (32 * ((v.slot : Int) - 1) < (N : Int)) = false := decide_eq_false hlong
      by_cases hgen : v.gen = 1099511627776
      · have hgz : (v.gen == 1099511627776) = true := by rw [beq_iff_eq]; exact hgen
        have HE := Lib.hid (ck_bad (v := v) (d := d) (l := l) (k := 6) (by unfold ckBad; rw [if_neg (by rw [hd]; simp), if_neg (by rw [HNl.out]; exact hlong), if_pos (Or.inl hgen)]) (by decide))
        clear hd hgen
        go_enter Tryz.func45, Tryz.ntmps45
        go_wp2_with fail
        refine (HLs.out _).mono ?_
        rintro e w' ⟨rfl, rfl⟩
        go_wp2_with fail
        go_ret
        rw [HE.out.1, HE.out.2.1, HE.out.2.2]
        exact LogEnd.same HL0.out HF.out (Below.refl _ _)
      · have hgz : (v.gen == 1099511627776) = false := by rw [beq_eq_false_iff_ne]; exact hgen
        by_cases hnum : 1099511627776 < v.num
        · have HE := Lib.hid (ck_bad (v := v) (d := d) (l := l) (k := 6) (by unfold ckBad; rw [if_neg (by rw [hd]; simp), if_neg (by rw [HNl.out]; exact hlong), if_pos (Or.inr hnum)]) (by decide))
          clear hd hgen
          go_enter Tryz.func45, Tryz.ntmps45
          go_wp2_with fail
          refine (HLs.out _).mono ?_
          rintro e w' ⟨rfl, rfl⟩
          go_wp2_with fail
          go_ret
          rw [HE.out.1, HE.out.2.1, HE.out.2.2]
          exact LogEnd.same HL0.out HF.out (Below.refl _ _)
        · have hnumz : decide (1099511627776 < v.num) = false := decide_eq_false hnum
          have hbad : ckBad v l = 0 := by
            unfold ckBad
            rw [if_neg (by rw [hd]; simp), if_neg (by rw [HNl.out]; exact hlong), if_neg (fun hh => hh.elim hgen hnum)]
          have HG := Lib.hid (ck_go (d := d) hbad)
          clear hbad
          have HCut : Hid (∀ w', Calls Tryz.prog 73 #[.string R] w' (StrsEnd (cutsOf l) w')) := Lib.hid (fun w' => by
            have := cut_any l w' (by rw [HNl.out]; omega)
            rw [HR.out] at this
            exact this)
          obtain ⟨c, hc⟩ : ∃ c, secs N = c := ⟨_, rfl⟩
          have hcle : c ≤ 100000 := by rw [← hc]; unfold secs; omega
          have HCn : Hid ((cutsOf l).length = c) := Lib.hid (by rw [cuts_count, HNl.out, hc])
          have HC := Lib.hid hc
          obtain ⟨g, hg⟩ := Int.eq_ofNat_of_zero_le hg1
          have HGe := Lib.hid hg
          have hgl : g < 1099511627776 := by omega
          obtain ⟨f, hf⟩ : ∃ f, (g + 1) % 2 * v.slot = f := ⟨_, rfl⟩
          have hf4 : f ≤ 4096 := by
            have : (g + 1) % 2 ≤ 1 := by omega
            have : (g + 1) % 2 * v.slot ≤ 1 * v.slot := Nat.mul_le_mul_right _ this
            omega
          have HFs : Hid (∀ w', Calls Tryz.prog 58 #[.agg #[.int .i64 ((g : Int) + 1), .int .i64 N, .int .i64 v.next, .int .i64 v.num], .int .i64 v.slot] w' fun e w'' => e = .returned (.int .i64 f) ∧ Below w'.heap.size w' w'') := Lib.hid (fun w' => by
            have := slotSector_any ((g : Int) + 1) N v.next v.num v.slot w' (by omega) hs4
            rw [show ((g : Int) + 1) % 2 * (v.slot : Int) = (f : Int) from by rw [← hf]; simp] at this
            exact this)
          have HBody : Hid (bodyU f l c = bodyS v.slot v.gen.toNat l) := Lib.hid (by unfold bodyU bodyS; rw [HNl.out, hc, hg, Int.toNat_natCast, hf])
          have HHead : Hid (headS v v.slot v.gen.toNat l = (f, slotHead ((g : Int) + 1) N v.next v.num)) := Lib.hid (by unfold headS; rw [HNl.out, hg, Int.toNat_natCast, hf]; rfl)
          have HBl : Hid (∀ i, (bodyU f l i).length = i) := Lib.hid (fun i => by unfold bodyU; simp)
          have HDn : Hid ((d.storeD (bodyS v.slot v.gen.toNat l) (headS v v.slot v.gen.toNat l)).seen.length = n) := Lib.hid (by rw [storeD_length, HN.out])
          have HOk := Lib.hid HL0.out.ok
          have HDk := Lib.hid HL0.out.disk
          have HCk : Hid (ckN v = { v with gen := (g : Int) + 1, used := 0 }) := Lib.hid (by unfold ckN; rw [hg, Int.toNat_natCast]; rfl)
          have HCells : Hid (∀ w1, Below w.heap.size w w1 → w1.cell? ⟨a, 0, none⟩ = some (.pointer (some ⟨v.disk, 0, none⟩)) ∧ w1.cell? ⟨a, 1, none⟩ = some (.int .i64 v.slot)) := Lib.hid (fun w1 hb => by
            obtain ⟨q0, q1, _⟩ := ((HL0.out.later hb).wal).cells
            exact ⟨q0, q1⟩)
          obtain ⟨i0, hi0', hz0, hz1, hz2⟩ := info_parts Tryz.infoWrite6
          rw [hg] at c2 hgz
          have hw8 : IntKind.i64.wrap ((g : Int) + 1) = (g : Int) + 1 := by rw [IntKind.wrap_i64]; omega
          obtain ⟨g1, hg1'⟩ : ∃ g1 : Int, (g : Int) + 1 = g1 := ⟨_, rfl⟩
          rw [hg1'] at HFs HHead HCk
          have HG1 := Lib.hid hg1'
          clear hd hgen hf hc hg hg1 hg2
          go_enter Tryz.func45, Tryz.ntmps45
          go_wp2_with fail
          refine (HLs.out _).mono ?_
          rintro e w' ⟨rfl, rfl⟩
          go_wp2_with fail
          clear hw8
          go_region
          have HV0 : Hid (Below w.heap.size w (w.alloc (.cells #[.int .i64 g1, .int .i64 N, .int .i64 v.next, .int .i64 v.num] 107)).drew) := Lib.hid ((Below.refl w.heap.size w).alloc (Nat.le_refl _) _).drew
          have HH0 : Hid ((w.alloc (.cells #[.int .i64 g1, .int .i64 N, .int .i64 v.next, .int .i64 v.num] 107)).drew.heap[w.heap.size]? = some (.cells #[.int .i64 g1, .int .i64 N, .int .i64 v.next, .int .i64 v.num] 107 (0, 0))) := Lib.hid (heap_alloc_new _ _)
          go_wp2_with fail
          generalize (w.alloc (.cells #[.int .i64 g1, .int .i64 N, .int .i64 v.next, .int .i64 v.num] 107)).drew = V0 at *
          obtain ⟨H, hH⟩ : ∃ H, w.heap.size = H := ⟨_, rfl⟩
          have HHw := Lib.hid hH
          have hHV0 : H < V0.heap.size := by rw [← hH]; exact heap_lt HH0.out
          have HHF : Hid (¬ F H) := Lib.hid (fun hf => by have := HLow.out H hf; omega)
          have haV0 : a < V0.heap.size := by omega
          have HHc : Hid (∀ w', Below V0.heap.size V0 w' → w'.cell? ⟨H, 0, none⟩ = some (.int .i64 g1) ∧ w'.cell? ⟨H, 1, none⟩ = some (.int .i64 N) ∧ w'.cell? ⟨H, 2, none⟩ = some (.int .i64 v.next) ∧ w'.cell? ⟨H, 3, none⟩ = some (.int .i64 v.num) ∧ w'.cell? ⟨a, 1, none⟩ = some (.int .i64 v.slot) ∧ w'.cell? ⟨a, 0, none⟩ = some (.pointer (some ⟨v.disk, 0, none⟩))) := Lib.hid (fun w' hb => by
            have hr := HH0.out
            rw [hH] at hr
            refine ⟨?_, ?_, ?_, ?_, (HCells.out w' (below_next HV0.out hb)).2, (HCells.out w' (below_next HV0.out hb)).1⟩
            · rw [hb.cell (p := ⟨H, 0, none⟩) hHV0, Lib.cell_of_heap hr]; rfl
            · rw [hb.cell (p := ⟨H, 1, none⟩) hHV0, Lib.cell_of_heap hr]; rfl
            · rw [hb.cell (p := ⟨H, 2, none⟩) hHV0, Lib.cell_of_heap hr]; rfl
            · rw [hb.cell (p := ⟨H, 3, none⟩) hHV0, Lib.cell_of_heap hr]; rfl)
          have y0 : ∀ p : LatW V0, p.wd.cell? ⟨H, 0, none⟩ = some (.int .i64 g1) := fun p => (HHc.out p.wd p.bel).1
          have y1 : ∀ p : LatW V0, p.wd.cell? ⟨H, 1, none⟩ = some (.int .i64 N) := fun p => (HHc.out p.wd p.bel).2.1
          have y2 : ∀ p : LatW V0, p.wd.cell? ⟨H, 2, none⟩ = some (.int .i64 v.next) := fun p => (HHc.out p.wd p.bel).2.2.1
          have y3 : ∀ p : LatW V0, p.wd.cell? ⟨H, 3, none⟩ = some (.int .i64 v.num) := fun p => (HHc.out p.wd p.bel).2.2.2.1
          have y4 : ∀ p : LatW V0, p.wd.cell? ⟨a, 1, none⟩ = some (.int .i64 v.slot) := fun p => (HHc.out p.wd p.bel).2.2.2.2.1
          rw [hH]
          clear hH c0 c1 c2 c3 c4 c5 c6 cf
          refine wp_region_later (by kernel_rfl) (by kernel_rfl) ?_
          repeat (quiet_step (first | (go_at_call 58; exact Calls.later_of (HFs.out _))))
          refine wpQuiet_nil ?_
          intro w9 hw9
          obtain ⟨p9, hw9'⟩ := hw9
          subst hw9'
          have HB1 : Hid (Below V0.heap.size V0 p9.wd) := Lib.hid p9.bel
          clear y0 y1 y2 y3 y4
          generalize p9.wd = w1 at HB1 ⊢
          go_wp2_with fail
          refine (HCut.out _).mono ?_
          rintro e w3 ⟨A3, c3', rfl, hl3, hb3⟩
          have HB3 : Hid (Below V0.heap.size V0 w3) := Lib.hid (below_next HB1.out hb3)
          have HA3 := Lib.hid hl3
          have hw3 : V0.heap.size ≤ w3.heap.size := HB3.out.size
          clear hb3 hl3
          rw [HCn.out]
          go_wp2_with fail
          go_loopg [7, 62] c (fun kx s7 s62 wr => ∃ i : Nat, s62 = .int .i64 i ∧ i ≤ c ∧ c - i ≤ kx ∧ Hid (wr.ownsRow w3.heap.size 131 2 s7 i (putCells (bodyU f l i))) ∧ Hid (Below w3.heap.size w3 wr))
          case atStart => exact ⟨0, rfl, Nat.zero_le _, by omega, Lib.hid (World.ownsRow_nil _ _ _ _), Lib.hid (Below.refl _ _)⟩
          case round =>
            obtain ⟨i, rfl, hi, hki, HO, HBi⟩ := hrel
            obtain ⟨A5, c5, h5, hxx⟩ := own_lies HO.out
            clear hxx
            subst h5
            have hwi : w3.heap.size ≤ wr.heap.size := HBi.out.size
            by_cases hlt : i < c
            · have hltz : (i : Int) < (c : Int) := by omega
              have hi0 : (0 : Int) ≤ (i : Int) := Int.natCast_nonneg _
              have hic : i < (cutsOf l).length := by rw [HCn.out]; exact hlt
              obtain ⟨b3, off3, hA3, hb3, hc3⟩ := HA3.out.at_ (by intro e; rw [List.map_eq_nil_iff] at e; rw [e] at hic; simp at hic)
              have x1 : wr.cell? ⟨b3, off3 + i, none⟩ = some (.string (str ((cutsOf l).getD i []))) := by
                rw [HBi.out.cell (p := ⟨b3, off3 + i, none⟩) hb3, hc3 i (by rw [List.length_map]; exact hic), List.getElem_map, List.getD_eq_getElem?_getD, List.getElem?_eq_getElem hic]
                rfl
              subst hA3
              have HSuc : Hid (putCells (bodyU f l (i + 1)) = putCells (bodyU f l i) ++ [.int .i64 ((f : Int) + 1 + (i : Int)), .string (str ((cutsOf l).getD i []))]) := Lib.hid (by rw [bodyU_succ, putCells_snoc]; simp [Int.natCast_add])
              obtain ⟨S, hS⟩ : ∃ S, (cutsOf l).getD i [] = S := ⟨_, rfl⟩
              rw [hS] at x1 HSuc
              clear hS hc3 hic
              go_wp2_with (at_builtin; refine wpList_append_own _ rfl (.tmp 67) (.tmp 74) 128 rfl w3.heap.size 131 i0 (.agg #[.int .i64 0, .string ByteArray.empty]) 2 24 Tryz.underlying128 hi0' hz0 hz1 hz2 rfl (by decide) (.slice A5 i c5) i (putCells (bodyU f l i)) rfl (HO.out.alloc _) ⟨wr.heap.size, 0, none⟩ 1 1 [.int .i64 ((f : Int) + 1 + (i : Int)), .string (str S)] rfl rfl ?c3 (by intro u hu; simp at hu; rcases hu with rfl | rfl <;> rfl) ?c4 ?c5 ?c6 ?_)
              case c3 =>
                intro j u hj
                rw [WideShapes.add_plain, Nat.zero_add, Lib.cell_of_heap (heap_alloc_new _ _)]
                simpa using hj
              case c4 => unfold maxLen; omega
              case c5 => omega
              case c6 => simp; omega
              intro v6 w6 hown hg _
              have HO6 : Hid (w6.ownsRow w3.heap.size 131 2 v6 (i + 1) (putCells (bodyU f l (i + 1)))) := Lib.hid (by rw [HSuc.out]; exact hown)
              have HB6 : Hid (Below w3.heap.size w3 w6) := Lib.hid ((HBi.out.alloc hwi _).grown hg (by simp; omega) (fun q hq => (HO.out.lt q hq).1))
              clear hown hg x1
              go_wp2_with fail
              go_roundg (c - (i + 1))
              case measure => omega
              case rel => exact ⟨i + 1, by go_num, by omega, Nat.le_refl _, HO6, HB6⟩
            · have hltz : ¬ (i : Int) < (c : Int) := by omega
              have hie : i = c := by omega
              subst hie
              obtain ⟨V, hV⟩ : ∃ V, V = wr := ⟨_, rfl⟩
              subst hV
              have HBV0 : Hid (Below V0.heap.size V0 V) := Lib.hid (HB3.out.trans (HBi.out.mono hw3))
              have HBV : Hid (Below w.heap.size w V) := Lib.hid (below_next HV0.out HBV0.out)
              have HO9 : Hid (V.ownsRow w3.heap.size 131 2 (.slice A5 i c5) i (putCells (bodyS v.slot v.gen.toNat l))) := Lib.hid (by rw [← HBody.out]; exact HO.out)
              obtain ⟨A9, c9, h9, _, hl9⟩ := own_lies HO9.out
              cases h9
              have HLV := Lib.hid hl9
              have hw3w : w.heap.size ≤ w3.heap.size := Nat.le_trans HV0.out.size hw3
              have HAF : Hid (∀ b off, A5 = some ⟨b, off, none⟩ → ¬ F b) := Lib.hid (fun b off e hf => by
                subst e
                have h1 := (HO9.out.lt b rfl).1
                have h2 := HLow.out b hf
                omega)
              have haV : a < V.heap.size := by have := HBV.out.size; omega
              have hHV : H < V.heap.size := by have := HBV0.out.size; omega
              have HK : Hid (∀ w', Below V.heap.size V w' → w'.cell? ⟨a, 0, none⟩ = some (.pointer (some ⟨v.disk, 0, none⟩)) ∧ w'.cell? ⟨H, 0, none⟩ = some (.int .i64 g1) ∧ w'.cell? ⟨H, 1, none⟩ = some (.int .i64 N) ∧ w'.cell? ⟨H, 2, none⟩ = some (.int .i64 v.next) ∧ w'.cell? ⟨H, 3, none⟩ = some (.int .i64 v.num)) := Lib.hid (fun w' hb => by
                obtain ⟨q0, q1, q2, q3, _, q5⟩ := HHc.out w' (below_next HBV0.out hb)
                exact ⟨q5, q0, q1, q2, q3⟩)
              obtain ⟨Hs, hHs⟩ : ∃ Hs, str (slotHead g1 N v.next v.num) = Hs := ⟨_, rfl⟩
              have HEn : Hid (∀ w', Below V.heap.size V w' → Calls Tryz.prog 75 #[.agg #[.int .i64 g1, .int .i64 N, .int .i64 v.next, .int .i64 v.num]] w' fun e w'' => e = .returned (.string Hs) ∧ Below V.heap.size V w'') := Lib.hid (fun w' hb => by
                have := slotEncode_any g1 N v.next v.num w' (by have := HG1.out; omega) (by omega) (by omega) (by omega)
                rw [hHs] at this
                exact this.mono (fun _ _ h => ⟨h.1, below_next hb h.2⟩))
              have HSt : Hid (∀ w', Below V.heap.size V w' → Calls Tryz.prog 74 #[.pointer (some ⟨v.disk, 0, none⟩), .slice A5 i c5, .agg #[.int .i64 f, .string Hs]] w' fun e w'' => e = .returned (.bool (d.storeE (bodyS v.slot v.gen.toNat l) (headS v v.slot v.gen.toNat l))) ∧ ∃ F', IsDisk w'' F' v.disk (d.storeD (bodyS v.slot v.gen.toNat l) (headS v v.slot v.gen.toNat l)) ∧ Moves F V w'' ∧ ∀ k, F' k → F k ∨ V.heap.size ≤ k) := Lib.hid (fun w' hb => by
                have hbw := below_next HBV.out hb
                have := store_any (cap := c5) (HDk.out.below hbw) (bodyS v.slot v.gen.toNat l) A5 i (by rw [← HBody.out, HBl.out]) (HLV.out.next hb) HAF.out (fun q hq => by
                  unfold bodyS at hq
                  obtain ⟨j, _, rfl⟩ := List.mem_map.1 hq
                  have := getD_cuts_short l j
                  simp only; omega) (by omega) f (slotHead g1 N v.next v.num) (by
                    obtain ⟨num, hnum'⟩ := Int.eq_ofNat_of_zero_le (show 0 ≤ v.num by omega)
                    have eg : g1 = ((g + 1 : Nat) : Int) := by rw [← HG1.out]; rfl
                    rw [hnum', eg, slotHead_len (by omega) (by omega) (by omega) (by omega)]; omega)
                rw [hHs] at this
                rw [HHead.out]
                refine this.mono ?_
                rintro e w'' ⟨he, hm, F', hd', hF'⟩
                refine ⟨he, F', hd', (Moves.of_below (F := F) hb).trans hm (fun k hk => Or.inl hk), fun k hk => ?_⟩
                rcases hF' k hk with h | h
                · exact Or.inl h
                · exact Or.inr (Nat.le_trans hb.size h))
              have HKs : Hid (∀ w'', (∃ F', IsDisk w'' F' v.disk (d.storeD (bodyS v.slot v.gen.toNat l) (headS v v.slot v.gen.toNat l)) ∧ Moves F V w'' ∧ ∀ k, F' k → F k ∨ V.heap.size ≤ k) → w''.cell? ⟨a, 0, none⟩ = some (.pointer (some ⟨v.disk, 0, none⟩)) ∧ w''.cell? ⟨H, 0, none⟩ = some (.int .i64 g1) ∧ w''.cell? ⟨H, 1, none⟩ = some (.int .i64 N) ∧ w''.cell? ⟨H, 2, none⟩ = some (.int .i64 v.next) ∧ w''.cell? ⟨H, 3, none⟩ = some (.int .i64 v.num)) := Lib.hid (by
                rintro w'' ⟨F', _, hm, _⟩
                obtain ⟨q0, q1, q2, q3, q4⟩ := HK.out V (Below.refl _ _)
                exact ⟨(World.cell?_of_block (a := ⟨a, 0, none⟩) (hm.block a haV HF.out)).trans q0, (World.cell?_of_block (a := ⟨H, 0, none⟩) (hm.block H hHV HHF.out)).trans q1, (World.cell?_of_block (a := ⟨H, 1, none⟩) (hm.block H hHV HHF.out)).trans q2, (World.cell?_of_block (a := ⟨H, 2, none⟩) (hm.block H hHV HHF.out)).trans q3, (World.cell?_of_block (a := ⟨H, 3, none⟩) (hm.block H hHV HHF.out)).trans q4⟩)
              have HEnd : Hid (∀ w'', (∃ F', IsDisk w'' F' v.disk (d.storeD (bodyS v.slot v.gen.toNat l) (headS v v.slot v.gen.toNat l)) ∧ Moves F V w'' ∧ ∀ k, F' k → F k ∨ V.heap.size ≤ k) → ∃ F', LogAt w'' F' a v (d.storeD (bodyS v.slot v.gen.toNat l) (headS v v.slot v.gen.toNat l)) ∧ ¬ F' a ∧ Moves (fun q => F q ∨ q = a) w w'' ∧ ∀ k, F' k → F k ∨ w.heap.size ≤ k) := Lib.hid (by
                rintro w'' ⟨F', hd', hm, hF'⟩
                have hwV : w.heap.size ≤ V.heap.size := HBV.out.size
                refine ⟨F', ⟨?_, hd', by rw [HDn.out, ← HN.out]; exact HOk.out⟩, ?_, ?_, fun k hk => ?_⟩
                · exact (hm.block a haV HF.out).trans ((HBV.out.block a halt).trans HL0.out.wal)
                · intro hf
                  rcases hF' a hf with h | h
                  · exact HF.out h
                  · omega
                · exact (Moves.of_below (F := fun q => F q ∨ q = a) HBV.out).trans hm (fun k hk => Or.inl (Or.inl hk))
                · rcases hF' k hk with h | h
                  · exact Or.inl h
                  · exact Or.inr (Nat.le_trans hwV h))
              have HB0 : Hid (Below V.heap.size V V.drew) := Lib.hid (Below.refl _ _).drew
              clear hHs HLV HAF HCn HCut HHF HHc HBody HBl HDk hl9 HO9 HO HBi hwi HBV0 HBV HB3 HB1 HA3 hw3 hw3w
              generalize d.storeD (bodyS v.slot v.gen.toNat l) (headS v v.slot v.gen.toNat l) = D' at *
              cases hE : d.storeE (bodyS v.slot v.gen.toNat l) (headS v v.slot v.gen.toNat l) with
              | false =>
                rw [hE] at HSt
                have HX := Lib.hid (HG.out.2.2 hE)
                have HX1 := Lib.hid HG.out.1
                clear hE HG
                go_wp2_with fail
                go_region_held3 (fun w' => w'.cell? ⟨a, 0, none⟩ = some (.pointer (some ⟨v.disk, 0, none⟩)) ∧ w'.cell? ⟨H, 0, none⟩ = some (.int .i64 g1) ∧ w'.cell? ⟨H, 1, none⟩ = some (.int .i64 N) ∧ w'.cell? ⟨H, 2, none⟩ = some (.int .i64 v.next) ∧ w'.cell? ⟨H, 3, none⟩ = some (.int .i64 v.num))
                  (first | exact HK.out _ HB0.out | exact HK.out _ HB2.out | exact HKs.out _ HS3.out)
                  (first
                    | (((with_reducible refine (HEn.out _ HB0.out).mono ?_); rintro e w2 ⟨rfl, hb2⟩; have HB2 := Lib.hid hb2; clear hb2))
                    | (((with_reducible refine (HSt.out _ HB2.out).mono ?_); rintro e w3 ⟨rfl, hs3⟩; have HS3 := Lib.hid hs3; clear hs3)))
                go_wp2_with fail
                go_ret
                rw [HX.out.1, HX.out.2, HX1.out]
                exact ⟨rfl, HEnd.out _ HS3.out⟩
              | true =>
                rw [hE] at HSt
                have HX := Lib.hid (HG.out.2.1 hE)
                have HX1 := Lib.hid HG.out.1
                clear hE HG
                go_wp2_with fail
                go_region_held3 (fun w' => w'.cell? ⟨a, 0, none⟩ = some (.pointer (some ⟨v.disk, 0, none⟩)) ∧ w'.cell? ⟨H, 0, none⟩ = some (.int .i64 g1) ∧ w'.cell? ⟨H, 1, none⟩ = some (.int .i64 N) ∧ w'.cell? ⟨H, 2, none⟩ = some (.int .i64 v.next) ∧ w'.cell? ⟨H, 3, none⟩ = some (.int .i64 v.num))
                  (first | exact HK.out _ HB0.out | exact HK.out _ HB2.out | exact HKs.out _ HS3.out)
                  (first
                    | (((with_reducible refine (HEn.out _ HB0.out).mono ?_); rintro e w2 ⟨rfl, hb2⟩; have HB2 := Lib.hid hb2; clear hb2))
                    | (((with_reducible refine (HSt.out _ HB2.out).mono ?_); rintro e w3 ⟨rfl, hs3⟩; have HS3 := Lib.hid hs3; clear hs3)))
                obtain ⟨F', hL9, hnF, hM9, hF9⟩ := HEnd.out _ HS3.out
                have HL9 := Lib.hid hL9
                have HnF := Lib.hid hnF
                have HM9 := Lib.hid hM9
                have HF9 := Lib.hid hF9
                obtain ⟨z0, z1, z2, z3, z4, z5, z6, zf⟩ := hL9.wal.cells
                rw [HGe.out] at z2
                clear hL9 hnF hM9 hF9 HK HKs HSt HEn HEnd HS3 HB2 HB0
                have HFin : Hid (∀ W, W = (w3.setCell ⟨a, 2, none⟩ (.int .i64 g1)).setCell ⟨a, 5, none⟩ (.int .i64 0) → ∃ F', LogAt W F' a (ckN v) D' ∧ ¬ F' a ∧ Moves (fun q => F q ∨ q = a) w W ∧ ∀ k, F' k → F k ∨ w.heap.size ≤ k) := Lib.hid (by
                  rintro W rfl
                  have m0 : Moves (fun q => q = a) w3 w3 := Moves.refl _ _
                  have m9 : Moves (fun q => q = a) w3 ((w3.setCell ⟨a, 2, none⟩ (.int .i64 g1)).setCell ⟨a, 5, none⟩ (.int .i64 0)) := (m0.setCell (p := ⟨a, 2, none⟩) rfl _).setCell (p := ⟨a, 5, none⟩) rfl _
                  have hW := row_set (row_set HL9.out.wal 2 (.int .i64 g1)) 5 (.int .i64 0)
                  refine ⟨F', HL9.out.moves HnF.out m9 (v' := ckN v) ?_ (by rw [HCk.out]) ?_, HnF.out, HM9.out.trans m9 (fun k hk => Or.inl (Or.inr hk)), HF9.out⟩
                  · rw [HCk.out]; exact hW
                  · rw [HCk.out, HDn.out]
                    have hok := HOk.out
                    rw [HN.out] at hok
                    have e1 := HG1.out
                    exact ⟨hok.n1, hok.s1, hok.fit, hok.next, (by have h7 := hok.used; show 0 < n - 2 * v.slot; omega), by show (0 : Int) ≤ g1; omega, by show g1 ≤ _; omega, hok.k1, hok.k2⟩)
                go_wp2_with fail
                go_ret
                rw [HX.out.1, HX.out.2, HX1.out]
                exact ⟨rfl, HFin.out _ rfl⟩
end Go.Proofs.YtlelfakememckaaGreatDoor
