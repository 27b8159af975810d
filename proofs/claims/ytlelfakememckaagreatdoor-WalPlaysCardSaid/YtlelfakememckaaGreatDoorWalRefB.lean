/- Contract of the document's bytes: the first n of the sectors at some places. Contract of a slot header's validIn. -/
import Derived.Test.YtlelfakememckaaGreatDoorRef
import Derived.Test.YtlelfakememckaaGreatDoorPlain
import Derived.Test.YtlelfakememckaaGreatDoorWalF
import Derived.Deep.RegionLaw
namespace Go.Proofs.YtlelfakememckaaGreatDoor
open Go.RowKit

/-- The sectors at some places, joined. -/
def readsL (d : DSt) (l : List Nat) : List UInt8 := (l.map (fun (x : Nat) => d.readB (x : Int))).flatten
theorem readsL_snoc {d : DSt} {l : List Nat} {i : Nat} (h : i < l.length) : readsL d (l.take (i + 1)) = readsL d (l.take i) ++ d.readB (l[i] : Int) := by
  unfold readsL
  rw [List.take_succ_eq_append_getElem h, List.map_append, List.flatten_append]
  simp
theorem readsL_length {d : DSt} {l : List Nat} (h : ∀ x ∈ l, (d.readB (x : Int)).length = 32) : (readsL d l).length = 32 * l.length := by
  unfold readsL
  rw [flatten_32, List.length_map]
  intro x hx
  obtain ⟨y, hy, rfl⟩ := List.mem_map.1 hx
  exact h y hy

set_option maxHeartbeats 4000000 in
set_option maxRecDepth 100000 in
theorem DocBytes_any {w : World} {d : DSt} (ho : d.Ok) (ht : d.Tru) {fA aA wA A : Option Addr} {fc ac wc c : Nat} (h : RefAt w w.heap.size d.firm d.loose fA aA ac wA wc) (hl : d.loose.length ≤ 1000001) (L : Int) (n : Nat) (l : List Nat)
    (hA : Lies w w.heap.size A (l.map natV)) (hx : ∀ x ∈ l, (d.readB (x : Int)).length = 32) (hn : n ≤ 32 * l.length) (hll : l.length ≤ 10000) :
    Calls Tryz.prog 41 #[.agg #[.slice fA d.firm.length fc, .slice aA d.loose.length ac, .slice wA d.loose.length wc, .int .i64 L, .bool d.off], .int .i64 n, .slice A l.length c] w fun e w' => e = .returned (.string (str ((readsL d l).take n))) ∧ Below w.heap.size w w' := by
  have HSec : Hid (∀ w', Below w.heap.size w w' → ∀ x : Nat, Calls Tryz.prog 36 #[.agg #[.slice fA d.firm.length fc, .slice aA d.loose.length ac, .slice wA d.loose.length wc, .int .i64 L, .bool d.off], .int .i64 (x : Int)] w' fun e w'' => e = .returned (.string (str (d.readB (x : Int)))) ∧ Below w'.heap.size w' w'') := Lib.hid (fun w' hb x => DocSector_any ho ht (h.next hb) hl x L)
  have HA := Lib.hid hA
  have HX := Lib.hid hx
  generalize d.firm.length = N at *
  generalize d.loose.length = m at *
  generalize d.off = o at *
  clear ho ht h hl hA hx
  obtain ⟨ln, hln⟩ : ∃ ln, l.length = ln := ⟨_, rfl⟩
  have HLn := Lib.hid hln
  rw [hln] at hn hll ⊢
  have HB0 : Hid (Below w.heap.size w (w.alloc (.cells #[.slice fA N fc, .slice aA m ac, .slice wA m wc, .int .i64 L, .bool o] 30))) := Lib.hid ((Below.refl _ _).alloc (Nat.le_refl _) _)
  have HBox : Hid ((w.alloc (.cells #[.slice fA N fc, .slice aA m ac, .slice wA m wc, .int .i64 L, .bool o] 30)).heap[w.heap.size]? = some (.cells #[.slice fA N fc, .slice aA m ac, .slice wA m wc, .int .i64 L, .bool o] 30 (0, 0))) := Lib.hid (heap_alloc_new _ _)
  clear hln
  go_enter Tryz.func41, Tryz.ntmps41
  go_wp2_with fail
  generalize w.alloc (.cells #[.slice fA N fc, .slice aA m ac, .slice wA m wc, .int .i64 L, .bool o] 30) = w1 at *
  obtain ⟨H, hH⟩ : ∃ H, w.heap.size = H := ⟨_, rfl⟩
  rw [hH] at HBox
  rw [hH]
  go_loopg [7, 8] ln (fun kx s7 s8 wr => ∃ i : Nat, s7 = .string (str (readsL d (l.take i))) ∧ s8 = .int .i64 (i : Int) ∧ i ≤ ln ∧ ln - i ≤ kx ∧ Hid (Below w1.heap.size w1 wr))
  case atStart => exact ⟨0, rfl, rfl, Nat.zero_le _, by omega, Lib.hid (Below.refl _ _)⟩
  case round =>
    obtain ⟨i, rfl, rfl, hi, hix, HB⟩ := hrel
    have hi0 : (0 : Int) ≤ (i : Int) := Int.natCast_nonneg _
    have hsz : ((str (readsL d (l.take i))).size : Int) = 32 * (i : Int) := by
      rw [str_size, readsL_length (fun x hx => HX.out x (List.mem_of_mem_take hx)), List.length_take, HLn.out]
      omega
    by_cases hlt : 32 * i < n
    · have hltz : 32 * (i : Int) < (n : Int) := by omega
      have hil : i < ln := by omega
      have hilz : (i : Int) < (ln : Int) := by omega
      have hill : i < l.length := by rw [HLn.out]; exact hil
      have HSn := Lib.hid (readsL_snoc (d := d) hill)
      have hx32 := HX.out _ (List.getElem_mem hill)
      obtain ⟨bA, off, hA, hbl, hc⟩ := (HA.out.next (below_next HB0.out HB.out)).at_ (by
        intro e
        have := congrArg List.length e
        rw [List.length_map, HLn.out] at this
        simp at this
        omega)
      subst hA
      have c9 : wr.cell? ⟨bA, off + i, none⟩ = some (.int .i64 (l[i] : Int)) := by
        have := hc i (by rw [List.length_map]; exact hill)
        rw [List.getElem_map] at this
        exact this
      have hHb : H < wr.heap.size := Nat.lt_of_lt_of_le (heap_lt HBox.out) HB.out.size
      have hbox : wr.heap[H]? = some (.cells #[.slice fA N fc, .slice aA m ac, .slice wA m wc, .int .i64 L, .bool o] 30 (0, 0)) := (HB.out.block _ (heap_lt HBox.out)).trans HBox.out
      have e0 : wr.cell? ⟨H, 0, none⟩ = some (.slice fA N fc) := by rw [Lib.cell_of_heap hbox]; rfl
      have e1 : wr.cell? ⟨H, 1, none⟩ = some (.slice aA m ac) := by rw [Lib.cell_of_heap hbox]; rfl
      have e2 : wr.cell? ⟨H, 2, none⟩ = some (.slice wA m wc) := by rw [Lib.cell_of_heap hbox]; rfl
      have e3 : wr.cell? ⟨H, 3, none⟩ = some (.int .i64 L) := by rw [Lib.cell_of_heap hbox]; rfl
      have e4 : wr.cell? ⟨H, 4, none⟩ = some (.bool o) := by rw [Lib.cell_of_heap hbox]; rfl
      have E0 : ∀ p : LatW wr, p.wd.cell? ⟨H, 0, none⟩ = some (.slice fA N fc) := fun p => p.cell e0 hHb
      have E1 : ∀ p : LatW wr, p.wd.cell? ⟨H, 1, none⟩ = some (.slice aA m ac) := fun p => p.cell e1 hHb
      have E2 : ∀ p : LatW wr, p.wd.cell? ⟨H, 2, none⟩ = some (.slice wA m wc) := fun p => p.cell e2 hHb
      have E3 : ∀ p : LatW wr, p.wd.cell? ⟨H, 3, none⟩ = some (.int .i64 L) := fun p => p.cell e3 hHb
      have E4 : ∀ p : LatW wr, p.wd.cell? ⟨H, 4, none⟩ = some (.bool o) := fun p => p.cell e4 hHb
      have E9 : ∀ p : LatW wr, p.wd.cell? ⟨bA, off + i, none⟩ = some (.int .i64 (l[i] : Int)) := fun p => p.cell c9 hbl
      generalize l[i] = X at *
      obtain ⟨B, hB⟩ : ∃ B, str (d.readB (X : Int)) = B := ⟨_, rfl⟩
      have hBs : B.size = 32 := by rw [← hB, str_size]; exact hx32
      have HS : Hid (∀ p : LatW wr, Calls Tryz.prog 36 #[.agg #[.slice fA N fc, .slice aA m ac, .slice wA m wc, .int .i64 L, .bool o], .int .i64 (X : Int)] p.wd fun e w'' => e = .returned (.string B) ∧ Below p.wd.heap.size p.wd w'') := Lib.hid (fun p => by
        rw [← hB]
        exact HSec.out _ (below_next HB0.out (HB.out.trans (p.bel.mono HB.out.size))) X)
      have HSn2 : Hid (str (readsL d (l.take (i + 1))) = str (readsL d (l.take i)) ++ B) := Lib.hid (by rw [HSn.out, ← str_cat, hB])
      obtain ⟨T, hT⟩ : ∃ T, str (readsL d (l.take i)) = T := ⟨_, rfl⟩
      rw [hT] at hsz HSn2 ⊢
      have hts : ¬ 9223372036854775807 < T.size + B.size := by omega
      clear hB hT hc c9 e0 e1 e2 e3 e4 hbox HSn hBs
      go_wp2_with fail
      refine wp_region_later (by kernel_rfl) (by kernel_rfl) ?_
      repeat (quiet_step (first
        | (go_at_call 36; exact Calls.later_of (HS.out _))))
      refine wpQuiet_nil ?_
      intro w9 hw9
      obtain ⟨p9, hw9'⟩ := hw9
      subst hw9'
      have HB9 : Hid (Below w1.heap.size w1 p9.wd) := Lib.hid (HB.out.trans (p9.bel.mono HB.out.size))
      go_wp2_with fail
      go_roundg (ln - (i + 1))
      case measure => omega
      case rel => exact ⟨i + 1, by rw [HSn2.out], by go_num, by omega, Nat.le_refl _, HB9⟩
    · have hltz : ¬ 32 * (i : Int) < (n : Int) := by omega
      have HF : Hid ((str (readsL d (l.take i))).extract 0 n = str ((readsL d l).take n)) := Lib.hid (by
        have hlen := readsL_length (d := d) (l := l.take i) (fun x hx => HX.out x (List.mem_of_mem_take hx))
        rw [List.length_take, HLn.out] at hlen
        rw [str_slice, str_list, List.drop_zero, Nat.sub_zero]
        have e : readsL d l = readsL d (l.take i) ++ readsL d (l.drop i) := by
          unfold readsL
          rw [← List.flatten_append, ← List.map_append, List.take_append_drop]
        rw [e, List.take_append_of_le_length (by rw [hlen]; omega)])
      obtain ⟨T, hT⟩ : ∃ T, str (readsL d (l.take i)) = T := ⟨_, rfl⟩
      rw [hT] at hsz HF ⊢
      have hn0 : (0 : Int) ≤ (n : Int) := Int.natCast_nonneg _
      have hnT : (n : Int) ≤ (T.size : Int) := by omega
      have HBz : Hid (Below H w wr) := Lib.hid (by rw [← hH]; exact below_next HB0.out HB.out)
      clear hT
      go_wp2_with fail
      go_ret
      rw [← HF.out]
      exact ⟨rfl, HBz.out⟩
end Go.Proofs.YtlelfakememckaaGreatDoor

namespace Go.Proofs.YtlelfakememckaaGreatDoor
open Go.RowKit

/-- Is a slot's header, read at a sector, one of a valid slot? -/
def validB (gen len pos num : Int) (n slot : Nat) (sec : Int) : Bool := decide (1 ≤ gen ∧ gen ≤ 1099511627776 ∧ gen % 2 * (slot : Int) = sec ∧ len ≤ 32 * ((slot : Int) - 1) ∧ pos < (n : Int) - 2 * (slot : Int) ∧ 1 ≤ num ∧ num ≤ 1099511627776)

/-- What a header's block holds, and what is laid behind it. -/
structure ValidIn (w V : World) (gen len pos num : Int) : Prop where
  cells : ∀ w', Below V.heap.size V w' → w'.cell? ⟨w.heap.size, 0, none⟩ = some (.int .i64 gen) ∧ w'.cell? ⟨w.heap.size, 1, none⟩ = some (.int .i64 len) ∧ w'.cell? ⟨w.heap.size, 2, none⟩ = some (.int .i64 pos) ∧ w'.cell? ⟨w.heap.size, 3, none⟩ = some (.int .i64 num)
  bel : ∀ w', Below V.heap.size V w' → Below w.heap.size w w'
theorem validIn (w : World) (gen len pos num : Int) : ValidIn w (w.alloc (.cells #[.int .i64 gen, .int .i64 len, .int .i64 pos, .int .i64 num] 107)) gen len pos num :=
  ⟨fun _ hb => below_cells4 hb, fun _ hb => ((Below.refl _ _).alloc (Nat.le_refl _) _).trans (hb.mono (by simp))⟩

set_option maxHeartbeats 4000000 in
set_option maxRecDepth 100000 in
theorem valid_leaf0 (gen len pos num : Int) (n slot : Nat) (sec : Int) (w : World)  (g : ¬ 1 ≤ gen) :
    Calls Tryz.prog 81 #[.agg #[.int .i64 gen, .int .i64 len, .int .i64 pos, .int .i64 num], .int .i64 n, .int .i64 slot, .int .i64 sec] w fun e w' => e = .returned (.bool false) ∧ Below w.heap.size w w' := by
  have HV := Lib.hid (validIn w gen len pos num)
  have f : decide (1 ≤ gen) = false := by rw [decide_eq_false_iff_not]; exact g
  clear g
  go_enter Tryz.func81, Tryz.ntmps81
  go_wp2_with fail
  generalize w.alloc (.cells #[.int .i64 gen, .int .i64 len, .int .i64 pos, .int .i64 num] 107) = V at *
  have HB0 : Hid (Below V.heap.size V V.drew) := Lib.hid (Below.refl _ _).drew
  obtain ⟨c0, c1, c2, c3⟩ := HV.out.cells V (Below.refl _ _)
  go_quiet (fail)
  all_goals
    go_wp2
    go_ret
    exact ⟨rfl, HV.out.bel _ (below_drawsW V _)⟩

set_option maxHeartbeats 4000000 in
set_option maxRecDepth 100000 in
theorem valid_leaf1 (gen len pos num : Int) (n slot : Nat) (sec : Int) (w : World)  (g1 : 1 ≤ gen) (g : ¬ gen ≤ 1099511627776) :
    Calls Tryz.prog 81 #[.agg #[.int .i64 gen, .int .i64 len, .int .i64 pos, .int .i64 num], .int .i64 n, .int .i64 slot, .int .i64 sec] w fun e w' => e = .returned (.bool false) ∧ Below w.heap.size w w' := by
  have HV := Lib.hid (validIn w gen len pos num)
  have f : decide (gen ≤ 1099511627776) = false := by rw [decide_eq_false_iff_not]; exact g
  clear g
  go_enter Tryz.func81, Tryz.ntmps81
  go_wp2_with fail
  generalize w.alloc (.cells #[.int .i64 gen, .int .i64 len, .int .i64 pos, .int .i64 num] 107) = V at *
  have HB0 : Hid (Below V.heap.size V V.drew) := Lib.hid (Below.refl _ _).drew
  obtain ⟨c0, c1, c2, c3⟩ := HV.out.cells V (Below.refl _ _)
  go_quiet (fail)
  all_goals
    go_wp2
    go_ret
    exact ⟨rfl, HV.out.bel _ (below_drawsW V _)⟩

set_option maxHeartbeats 4000000 in
set_option maxRecDepth 100000 in
theorem valid_leaf7 (gen len pos num : Int) (n slot : Nat) (sec : Int) (w : World)  (hn : n ≤ 4096) (hs : slot ≤ 4096) (g1 : 1 ≤ gen) (g2 : gen ≤ 1099511627776) (g3 : gen % 2 * (slot : Int) = sec) (g4 : len ≤ 32 * ((slot : Int) - 1)) (g5 : pos < (n : Int) - 2 * (slot : Int)) (g6 : 1 ≤ num) (g7 : num ≤ 1099511627776) :
    Calls Tryz.prog 81 #[.agg #[.int .i64 gen, .int .i64 len, .int .i64 pos, .int .i64 num], .int .i64 n, .int .i64 slot, .int .i64 sec] w fun e w' => e = .returned (.bool true) ∧ Below w.heap.size w w' := by
  have HV := Lib.hid (validIn w gen len pos num)
  have t3 : (gen % 2 * (slot : Int) == sec) = true := by rw [beq_iff_eq]; exact g3
  clear g3
  go_enter Tryz.func81, Tryz.ntmps81
  go_wp2_with fail
  generalize w.alloc (.cells #[.int .i64 gen, .int .i64 len, .int .i64 pos, .int .i64 num] 107) = V at *
  have HB0 : Hid (Below V.heap.size V V.drew) := Lib.hid (Below.refl _ _).drew
  obtain ⟨c0, c1, c2, c3⟩ := HV.out.cells V (Below.refl _ _)
  go_region_held3 (fun w' => w'.cell? ⟨w.heap.size, 0, none⟩ = some (.int .i64 gen) ∧ w'.cell? ⟨w.heap.size, 1, none⟩ = some (.int .i64 len) ∧ w'.cell? ⟨w.heap.size, 2, none⟩ = some (.int .i64 pos) ∧ w'.cell? ⟨w.heap.size, 3, none⟩ = some (.int .i64 num)) (first | exact ⟨c0, c1, c2, c3⟩ | exact HV.out.cells _ HB1.out) (first | (((with_reducible refine (slotSector_any gen len pos num slot _ (by omega) hs).mono ?_); rintro e w1 ⟨rfl, hb1⟩; have HB1 := Lib.hid (HB0.out.trans (hb1.mono HB0.out.size)); clear hb1)) | (((with_reducible refine (longestState_any slot _ hs).mono ?_); rintro e w' ⟨rfl, rfl⟩)) | (((with_reducible refine (ringSize_any n slot _ hn hs).mono ?_); rintro e w' ⟨rfl, rfl⟩)))
  all_goals
    go_wp2
    go_ret
    exact ⟨rfl, HV.out.bel _ HB1.out⟩

end Go.Proofs.YtlelfakememckaaGreatDoor
