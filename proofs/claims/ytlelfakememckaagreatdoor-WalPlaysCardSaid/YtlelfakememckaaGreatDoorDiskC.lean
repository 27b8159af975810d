/- Contract of slices.Clone over sectors. Contract of disk.Crash. -/
import Derived.Test.YtlelfakememckaaGreatDoorDiskX
namespace Go.Proofs.YtlelfakememckaaGreatDoor
open Go.RowKit

def flatCells (l : List (List UInt8)) : List Value := (l.map byteVals).flatten
theorem flatCells_length {l : List (List UInt8)} (h : ∀ x ∈ l, x.length = 32) : (flatCells l).length = l.length * 32 := by
  induction l with
  | nil => rfl
  | cons p l ih =>
    have h1 := ih (fun q hq => h q (List.mem_cons_of_mem _ hq))
    have h2 := h p List.mem_cons_self
    simp only [flatCells, List.map_cons, List.flatten_cons, List.length_append, List.length_cons, byteVals_length] at h1 ⊢
    omega
theorem flatCells_at {l : List (List UInt8)} (h : ∀ x ∈ l, x.length = 32) (k : Nat) (hk : k < l.length) (j : Nat) (hj : j < 32) : (flatCells l)[k * 32 + j]? = (byteVals l[k])[j]? := by
  induction l generalizing k with
  | nil => simp at hk
  | cons p l ih =>
    have h2 := h p List.mem_cons_self
    have hlen : (byteVals p).length = 32 := by simp [byteVals_length, h2]
    simp only [flatCells, List.map_cons, List.flatten_cons]
    cases k with
    | zero => rw [List.getElem?_append_left (by omega), Nat.zero_mul, Nat.zero_add]; rfl
    | succ k =>
      rw [List.getElem?_append_right (by omega), hlen, show (k + 1) * 32 + j - 32 = k * 32 + j from by omega]
      exact ih (fun q hq => h q (List.mem_cons_of_mem _ hq)) k (by simpa using hk)
theorem flatCells_one (l : List (List UInt8)) : ∀ u ∈ flatCells l, u.oneCell' = true := by
  intro u hu
  unfold flatCells at hu
  rw [List.mem_flatten] at hu
  obtain ⟨m, hm, hu⟩ := hu
  obtain ⟨x, _, rfl⟩ := List.mem_map.1 hm
  exact byteVals_one x u hu

theorem Secs.all32 {w : World} {b : Nat} {l : List (List UInt8)} (h : Secs w b l) : ∀ x ∈ l, x.length = 32 := by
  intro x hx
  obtain ⟨i, hi, rfl⟩ := List.getElem_of_mem hx
  exact (h.2 i hi).1

theorem Secs.flat {w : World} {b : Nat} {l : List (List UInt8)} (h : Secs w b l) : ∀ j u, (flatCells l)[j]? = some u → w.cell? ((⟨b, 0, none⟩ : Addr).add j) = some u := fun j u hu => by
  have hl := (List.getElem?_eq_some_iff.1 hu).1
  rw [flatCells_length h.all32] at hl
  have h1 : j / 32 < l.length := by omega
  have h2 : j % 32 < 32 := Nat.mod_lt _ (by omega)
  have e : j / 32 * 32 + j % 32 = j := by omega
  rw [← e, flatCells_at h.all32 _ h1 _ h2] at hu
  rw [WideShapes.add_plain, Nat.zero_add, ← e]
  exact (h.2 _ h1).2.1 _ _ hu

theorem secs_own {w : World} {base g cap : Nat} {l : List (List UInt8)} (hl : ∀ x ∈ l, x.length = 32) (h : w.ownsRow base 95 32 (.slice (some ⟨g, 0, none⟩) l.length cap) l.length (flatCells l)) : Secs w g l := by
  refine ⟨(h.lt g rfl).2, fun i hi => ⟨hl _ (List.getElem_mem hi), fun j u hu => ?_, fun j hj => ?_⟩⟩
  · have hj : j < 32 := by
      have := (List.getElem?_eq_some_iff.1 hu).1
      rw [byteVals_length, hl _ (List.getElem_mem hi)] at this
      exact this
    rw [h.cellAt _ (by omega), flatCells_at hl i hi j hj]
    exact hu
  · rw [h.cellAt _ (by omega), flatCells_at hl i hi j hj, h.frozenAt]
    refine ⟨?_, rfl⟩
    rw [List.getElem?_eq_getElem (by rw [byteVals_length, hl _ (List.getElem_mem hi)]; exact hj)]
    rfl

def CloneEnd (l : List (List UInt8)) (w : World) (e : Ending) (w' : World) : Prop :=
  ∃ g cap, e = .returned (.slice (some ⟨g, 0, none⟩) l.length cap) ∧ Secs w' g l ∧ w.heap.size ≤ g ∧ l.length ≤ cap ∧ cap ≤ maxLen ∧ Below w.heap.size w w'

set_option maxHeartbeats 400000 in
theorem Clone_any {w : World} {u cu : Nat} {l : List (List UInt8)} (h : Secs w u l) (h1 : 0 < l.length) (h2 : l.length ≤ 4096) :
    Calls Tryz.prog 49 #[.slice (some ⟨u, 0, none⟩) l.length cu] w (CloneEnd l w) := by
  obtain ⟨i0, hi0, hz0, hz1, hz2⟩ := info_parts Tryz.infoSector
  have HS := Lib.hid h
  have hnil := run_eql_slice_nil (P := Tryz.prog) w 64 95 (some ⟨u, 0, none⟩) l.length cu Tryz.underlying64
  have HF : Hid (∀ j v, (flatCells l)[j]? = some v → (w.alloc (.cells #[] 95)).cell? ((⟨u, 0, none⟩ : Addr).add j) = some v) := Lib.hid (Secs.flat (h.kept (Below.heap_alloc w _ u h.1) (by simp)))
  have HL := Lib.hid (flatCells_length h.all32)
  have HA := Lib.hid h.all32
  obtain ⟨n, hn⟩ : ∃ n, l.length = n := ⟨_, rfl⟩
  have HN := Lib.hid hn
  rw [hn] at h1 h2 hnil HL ⊢
  clear h hn
  go_enter Tryz.func49, Tryz.ntmps49
  go_wp2_with (at_builtin; refine wpList_append_lies _ rfl (.tmp 5) (.tmp 6) 64 rfl w.heap.size 95 i0 (.agg (Array.replicate 32 (.int .u8 0))) 32 32 Tryz.underlying64 hi0 hz0 hz1 hz2 rfl (by decide) (.slice (some ⟨w.heap.size, 0, none⟩) 0 0) 0 [] rfl (World.ownsRow_made w #[] 0 (Nat.le_refl _) (Nat.zero_le _) rfl) ⟨u, 0, none⟩ n cu (flatCells l) rfl HL.out HF.out (flatCells_one l) h1 ?c3 ?c4 ?c5 _ rfl ?_)
  case c3 => unfold maxLen; omega
  case c4 => omega
  case c5 => simp
  intro g cap w2 hown hg hat hlt
  have HE : Hid (CloneEnd l w (.returned (.slice (some ⟨g, 0, none⟩) n cap)) w2) := by
    refine Lib.hid ⟨g, cap, by rw [HN.out], ?_, (hown.lt g rfl).1, ?_, ?_, ?_⟩
    · rw [← HN.out] at hown
      exact secs_own HA.out hown
    · rw [HN.out]
      rcases hown.2 with ⟨h0, _⟩ | ⟨g', cap', cur, h0, _, _, h3, _⟩
      · cases h0
      · simp only [Value.slice.injEq] at h0; omega
    · rcases hown.2 with ⟨h0, _⟩ | ⟨g', cap', cur, h0, _, _, _, h3, _⟩
      · cases h0
      · simp only [Value.slice.injEq] at h0; omega
    · refine ((Below.refl w.heap.size w).alloc (Nat.le_refl _) _).grown hg (by simp) (fun k hk => ?_)
      simp only [Value.ownBlock, Option.some.injEq] at hk
      omega
  clear hown hg hat hlt
  go_wp2
  go_ret
  exact HE.out
end Go.Proofs.YtlelfakememckaaGreatDoor

namespace Go.Proofs.YtlelfakememckaaGreatDoor
open Go.RowKit

/-- The answers bs to what is kept lie where a slice says, apart from F. -/
def KeepIs (w : World) (F : Nat → Prop) (A : Option Addr) (bs : List Bool) : Prop :=
  bs = [] ∨ ∃ b off, A = some ⟨b, off, none⟩ ∧ ¬ F b ∧ b < w.heap.size ∧ ∀ i, (h : i < bs.length) → w.cell? ⟨b, off + i, none⟩ = some (.bool bs[i])

/-- New sectors to be read. -/
theorem DiskAt.seenNew {w w2 : World} {F : Nat → Prop} {a : Nat} {d : DSt} {s cs u cu g cap : Nat} {v : Value} (h : DiskAt w F a d s cs u cu v) (hb : Below w.heap.size w w2) (hg : w.heap.size ≤ g) (hs : Secs w2 g d.firm) (hc1 : d.firm.length ≤ cap) (hc2 : cap ≤ maxLen) :
    DiskAt (w2.setCell ⟨a, 0, none⟩ (.slice (some ⟨g, 0, none⟩) d.firm.length cap)) (fun q => F q ∨ q = g) a { d with seen := d.firm } g cap u cu v := by
  have h2 := h.kept (Moves.of_below (F := fun _ => False) hb) (fun _ h => h.elim)
  have hbl : ∀ k, k ≠ a → (w2.setCell ⟨a, 0, none⟩ (.slice (some ⟨g, 0, none⟩) d.firm.length cap)).heap[k]? = w2.heap[k]? := fun k hk => Below.heap_setCell _ _ _ _ hk
  have hsz : (w2.setCell ⟨a, 0, none⟩ (.slice (some ⟨g, 0, none⟩) d.firm.length cap)).heap.size = w2.heap.size := by simp [World.setCell]
  have hla := h.low a h.fa
  have hlu := h.low u h.fu
  refine ⟨?_, hs.kept (hbl g (by omega)) (Nat.le_of_eq hsz.symm), h2.firm.kept (hbl u h.au.symm) (Nat.le_of_eq hsz.symm), ?_, ⟨hc1, hc2, h.caps.2.2⟩, by omega, h.au, by omega, h.va, ?_, h.vu, Or.inl h.fa, Or.inr rfl, Or.inl h.fu, fun k hk => Or.inl (h.fv k hk), ?_⟩
  · rw [row_set h2.blk 0 _]
    simp [diskCells]
  · exact h2.own.kept (row := some a) ⟨rfl, rfl, rfl, Nat.le_of_eq hsz.symm, fun k _ hk => hbl k (fun e => hk (by rw [e]))⟩ (Or.inr h.va)
  · intro e
    have := h.low g (h.fv g e)
    omega
  · intro k hk
    rw [hsz]
    rcases hk with hk | rfl
    · exact h2.low k hk
    · exact hs.1

theorem Crash_nil (A : Option Addr) (len cap : Nat) (w : World) : Calls Tryz.prog 17 #[.pointer none, .slice A len cap] w fun e w' => e = .returned (.tuple #[]) ∧ w = w' := by
  go_enter Tryz.func17, Tryz.ntmps17
  go_wp2
  refine bodyPost_ret (results_none rfl _ _ _) rfl ?_
  exact ⟨rfl, rfl⟩

theorem KeepIs.at_ {w wr : World} {F : Nat → Prop} {A : Option Addr} {bs : List Bool} {u : Nat} (h : KeepIs w F A bs) (hm : Moves (fun q => q = u) w wr) (hu : F u) {k : Nat} (hk : k < bs.length) (o : Obj) :
    ∃ b off, A = some ⟨b, off, none⟩ ∧ wr.cell? ⟨b, off + k, none⟩ = some (.bool bs[k]) ∧ (wr.alloc o).cell? ⟨b, off + k, none⟩ = some (.bool bs[k]) := by
  rcases h with rfl | ⟨b, off, hA, hF, hb, hc⟩
  · simp at hk
  · have h1 : wr.cell? ⟨b, off + k, none⟩ = some (.bool bs[k]) := by
      rw [World.cell?_of_block (hm.block b hb (fun e => hF (by rw [e]; exact hu)))]
      exact hc k hk
    refine ⟨b, off, hA, h1, ?_⟩
    rw [World.cell?_of_block (Below.heap_alloc wr o b (Nat.lt_of_lt_of_le hb hm.size))]
    exact h1

set_option maxHeartbeats 4000000 in
set_option maxRecDepth 100000 in
theorem Crash_any {w : World} {F : Nat → Prop} {a : Nat} {e : DSt} {A' : Option Addr} {bs : List Bool} {len cap' : Nat} (h : IsDisk w F a e) (hL : e.loose.length ≤ 1000001) (hK : KeepIs w F A' bs) (hlen : bs.length = len) (hcap : len ≤ 9223372036854775807) :
    Calls Tryz.prog 17 #[.pointer (some ⟨a, 0, none⟩), .slice A' len cap'] w (DiskEnd w F a (e.crashD bs) (.tuple #[])) := by
  have HD := Lib.hid h
  obtain ⟨ho, sb, cs, ub, cu, v, hd⟩ := h
  obtain ⟨A, c, hv, hc1, hc2⟩ := own_form hd.own
  subst hv
  obtain ⟨_, _, c2, _, _, _⟩ := hd.cell
  have Hd := Lib.hid hd
  have HO := Lib.hid ho
  have HKp := Lib.hid hK
  have HLn := Lib.hid hlen
  clear hd ho hK hlen
  obtain ⟨m, hm⟩ : ∃ m, e.loose.length = m := ⟨_, rfl⟩
  have HM := Lib.hid hm
  rw [hm] at c2 hL hc1
  clear hm
  unfold maxLen at hc2
  go_enter Tryz.func17, Tryz.ntmps17
  go_wp2
  go_loopw [13] (fun i wr => ∃ k : Nat, k ≤ m ∧ i = .int .i64 k ∧ Hid (Moves (fun q => q = ub) w wr) ∧ Hid (Secs wr ub (applyAll e.firm (keepOf bs (e.loose.take k))))) (fun i _ => m - (intOf i).toNat)
  case atStart => exact ⟨0, Nat.zero_le _, rfl, Lib.hid (Moves.refl _ _), Lib.hid Hd.out.firm⟩
  case round =>
    obtain ⟨k, hk, rfl, HW, HF⟩ := hrel
    by_cases hlt : k < m
    · have hkl : k < e.loose.length := by rw [HM.out]; exact hlt
      obtain ⟨g, rfl, hr, hat1, hx32, ca1, haw, huw⟩ := loose_at Hd.out HO.out HW.out hkl
      have HT := Lib.hid (take_loose hkl)
      have HTl : Hid ((e.loose.take k).length = k) := Lib.hid (by rw [List.length_take]; omega)
      obtain ⟨p, hp⟩ : ∃ p, e.loose[k] = p := ⟨_, rfl⟩
      rw [hp] at hr hat1 hx32 HT
      clear hp hkl
      obtain ⟨at_, x⟩ := p
      simp only at hr hat1 hx32
      have HST := Lib.hid (firm_step HW.out HF.out (i := at_) (by rw [applyAll_length]; exact hat1) hx32 (.cells (writeCells at_ x) 97))
      have HNo : Hid (Moves (fun q => q = ub) w (wr.alloc (.cells (writeCells at_ x) 97)) ∧ Secs (wr.alloc (.cells (writeCells at_ x) 97)) ub (applyAll e.firm (keepOf bs (e.loose.take k)))) := Lib.hid ⟨HW.out.alloc _, HF.out.kept (Below.heap_alloc wr _ ub huw) (by simp)⟩
      have htS : ((wr.alloc (.cells (writeCells at_ x) 97))).there ub (at_ * 32) 32 := there_block (HF.out.2 at_ (by rw [applyAll_length]; exact hat1)).2.2 (Below.heap_alloc wr _ ub huw)
      have HAP : Hid (bs.getD k false = true → applyAll e.firm (keepOf bs (e.loose.take (k + 1))) = (applyAll e.firm (keepOf bs (e.loose.take k))).set at_ x) := Lib.hid (fun hb => by rw [HT.out, keepOf_snoc, HTl.out, if_pos hb, applyAll_snoc])
      have HAN : Hid (bs.getD k false = false → applyAll e.firm (keepOf bs (e.loose.take (k + 1))) = applyAll e.firm (keepOf bs (e.loose.take k))) := Lib.hid (fun hb => by rw [HT.out, keepOf_snoc, HTl.out, if_neg (by rw [hb]; simp), List.append_nil])
      have HKA : Hid (∀ hk : k < bs.length, ∃ b off, A' = some ⟨b, off, none⟩ ∧ wr.cell? ⟨b, off + k, none⟩ = some (.bool bs[k]) ∧ (wr.alloc (.cells (writeCells at_ x) 97)).cell? ⟨b, off + k, none⟩ = some (.bool bs[k])) := Lib.hid (fun hk => HKp.out.at_ HW.out Hd.out.fu hk _)
      clear HT HTl
      have hu65 := Tryz.underlying97
      have hY : (writeCells at_ x).toList = Value.int .i64 (at_ : Int) :: byteVals x := writeCells_list _ _
      have hYs := writeCells_size at_ hx32
      have hY1 := writeCells_one at_ x
      have hZ := (zero_of_info Tryz.infoWrite2).1
      have hZs := writeCells_size 0 zeros_length
      obtain ⟨Z, hZe⟩ : ∃ Z, writeCells 0 (List.replicate 32 0) = Z := ⟨_, rfl⟩
      rw [hZe] at hZ hZs
      clear hZe
      rw [← hY] at hr
      have hrY : (wr.alloc (.cells (writeCells at_ x) 97)).heap[wr.heap.size]? = some (.cells (writeCells at_ x) 97 (0, 0)) := heap_alloc_new _ _
      have hcB : (wr.alloc (.cells (writeCells at_ x) 97)).cell? ⟨wr.heap.size, 0, none⟩ = some (.int .i64 at_) := by rw [Lib.cell_of_heap hrY]; rfl
      have hrB : (wr.alloc (.cells (writeCells at_ x) 97)).rangeAt wr.heap.size 1 (byteVals x) := fun j u hu => by
        rw [Lib.cell_of_heap hrY, Nat.add_comm 1 j]
        simpa [writeCells] using hu
      have ca2 : (wr.alloc (.cells (writeCells at_ x) 97)).cell? ⟨a, 1, none⟩ = some (.slice (some ⟨ub, 0, none⟩) e.firm.length cu) := by
        rw [World.cell?_of_block (Below.heap_alloc wr _ a haw)]
        exact ca1
      have hl32 : (byteVals x).length = 32 := by rw [byteVals_length, hx32]
      have hone := byteVals_one x
      clear hY hrY ca1
      generalize byteVals x = vs at *
      generalize writeCells at_ x = Y at *
      replace hr := Lib.hid hr
      replace hYs := Lib.hid hYs
      replace hY1 := Lib.hid hY1
      replace hZ := Lib.hid hZ
      replace hZs := Lib.hid hZs
      replace hu65 := Lib.hid hu65
      replace hcB := Lib.hid hcB
      replace hrB := Lib.hid hrB
      replace ca2 := Lib.hid ca2
      replace htS := Lib.hid htS
      replace hl32 := Lib.hid hl32
      replace hone := Lib.hid hone
      have hau : a ≠ ub := Hd.out.au
      have hBu : wr.heap.size ≠ ub := by omega
      go_upto_region 3 with fail
      refine wp_region_lit ?_
      refine wpList_value (by rfl) (.int .i64 k) wr (by rfl) ?_
      refine wpList_value (by rfl) (.pointer (some ⟨g, k * 33, none⟩)) wr (by go_simp) ?_
      refine wpList_load_mid (by rfl) 97 (.tmp 16) (by rfl) g (k * 33) (by rfl) Y.toList _ hr.out hu65.out rfl (by rw [Array.length_toList, hYs.out]; exact (zero_of_info Tryz.infoWrite2).2) ?_
      refine wpList_alloc_known (by rfl) 97 (by rfl) Z (hZ.out _) ?_
      refine wpList_value (by rfl) (.int .i64 k) _ (by rfl) ?_
      refine wpList_store_new (by rfl) _ _ _ (by rfl) wr Z Y rfl (by rfl) (by rfl) (by rw [hYs.out]; exact (zero_of_info Tryz.infoWrite2).2) (by rw [hYs.out, hZs.out]) hY1.out ?_
      refine wpList_nil ?_
      generalize hV : wr.alloc (.cells Y 97) = V at *
      clear hV
      generalize wr.heap.size = B at *
      by_cases hb : bs.getD k false = true
      · have hkb : k < bs.length := by
          rcases Nat.lt_or_ge k bs.length with h | h
          · exact h
          · rw [List.getD_eq_getElem?_getD, List.getElem?_eq_none h] at hb; cases hb
        obtain ⟨b, off, rfl, hcK, hcV⟩ := HKA.out hkb
        have hbk : bs[k] = true := by rw [List.getD_eq_getElem?_getD, List.getElem?_eq_getElem hkb] at hb; exact hb
        rw [hbk] at hcV
        have hklen : k < len := by rw [← HLn.out]; exact hkb
        have HR := Lib.hid (HAP.out hb)
        clear hb hbk hcK hkb
        go_upto_region 5 with fail
        have hk0 : (0 : Int) ≤ (at_ : Int) := Int.natCast_nonneg _
        have hk8 : (at_ : Int) < (e.firm.length : Int) := by omega
        have hu := Tryz.underlying95
        have hl := hl32.out
        have ho1 := hone.out
        have hi : (Tryz.prog.info? 95).map (·.size) = some vs.length := by rw [Tryz.infoSec, hl]
        have c1 := ca2.out
        have c3 := hcB.out
        have r1 := hrB.out
        have t1 := htS.out
        have HK : Hid ((V.drew.setCells ub (at_ * 32) vs).cell? ⟨a, 1, none⟩ = some (.slice (some ⟨ub, 0, none⟩) e.firm.length cu) ∧ (V.drew.setCells ub (at_ * 32) vs).cell? ⟨B, 0, none⟩ = some (.int .i64 at_) ∧ (V.drew.setCells ub (at_ * 32) vs).rangeAt B 1 vs ∧ (V.drew.setCells ub (at_ * 32) vs).there ub (at_ * 32) 32) :=
          Lib.hid ⟨(World.cell?_of_block (block_setCells hau _ _ _)).trans c1, (World.cell?_of_block (block_setCells hBu _ _ _)).trans c3, rangeAt_block (w := V.drew) r1 (block_setCells hBu _ _ _), World.there_setCells (w := V.drew) t1 _ _ _⟩
        go_region_held3 (fun w' => w'.cell? ⟨a, 1, none⟩ = some (.slice (some ⟨ub, 0, none⟩) e.firm.length cu) ∧ w'.cell? ⟨B, 0, none⟩ = some (.int .i64 at_) ∧ w'.rangeAt B 1 vs ∧ w'.there ub (at_ * 32) 32) (first | exact ⟨c1, c3, r1, t1⟩ | exact HK.out) (fail)
        clear HK c1 c3 r1 t1 hu hl ho1 hi
        go_wp2
        refine ⟨⟨k + 1, by omega, by go_num, Lib.hid HST.out.1, Lib.hid ?_⟩, by simp [intOf]; omega⟩
        rw [HR.out]
        exact HST.out.2
      · have hb' : bs.getD k false = false := by simpa using hb
        have HR := Lib.hid (HAN.out hb')
        by_cases hkb : k < bs.length
        · obtain ⟨b, off, rfl, hcK, hcV⟩ := HKA.out hkb
          have hbk : bs[k] = false := by rw [List.getD_eq_getElem?_getD, List.getElem?_eq_getElem hkb] at hb'; exact hb'
          rw [hbk] at hcV
          have hklen : k < len := by rw [← HLn.out]; exact hkb
          clear hb hb' hbk hcK hkb
          go_wp2
          refine ⟨⟨k + 1, by omega, by go_num, Lib.hid HNo.out.1, Lib.hid ?_⟩, by simp [intOf]; omega⟩
          rw [HR.out]
          exact HNo.out.2
        · have hklen : decide (k < len) = false := by rw [← HLn.out]; simpa using hkb
          clear hb hb' hkb
          go_wp2
          refine ⟨⟨k + 1, by omega, by go_num, Lib.hid HNo.out.1, Lib.hid ?_⟩, by simp [intOf]; omega⟩
          rw [HR.out]
          exact HNo.out.2
    · have HE : Hid (k = m) := Lib.hid (by omega)
      have hd9 : DiskAt wr F a { e with firm := e.crashF bs } sb cs ub cu (.slice A e.loose.length c) := by
        have := HF.out
        rw [HE.out, ← HM.out, List.take_length] at this
        exact Hd.out.firmSet HW.out this (applyAll_length _ _)
      obtain ⟨_, c9, _, _, _, _⟩ := hd9.cell
      have hs9 := Lib.hid hd9.firm
      have hl1 : 0 < (e.crashF bs).length := by rw [e.crashF_length, HO.out.len]; exact HO.out.pos
      have hl2 : (e.crashF bs).length ≤ 4096 := by rw [e.crashF_length, HO.out.len]; exact HO.out.le
      have H9 := Lib.hid hd9
      clear hd9
      replace c9 : wr.cell? ⟨a, 1, none⟩ = some (.slice (some ⟨ub, 0, none⟩) (e.crashF bs).length cu) := c9
      go_wp2_with fail
      refine (Clone_any hs9.out hl1 hl2).mono ?_
      rintro e2 w2 ⟨g, cap, rfl, hsg, hgw, hg1, hg2, hbw⟩
      have hd10 := (H9.out.seenNew hbw hgw hsg hg1 hg2).looseNone
      have hm10 : Moves F w w2 := (HW.out.mono (fun q hq => by subst hq; exact Hd.out.fu)).trans (G := fun _ => False) (Moves.of_below hbw) (fun _ h => h.elim)
      have hk2 := H9.out.kept (Moves.of_below (F := fun _ => False) hbw) (fun _ h => h.elim)
      obtain ⟨k0, k1, k2, k3, k4, k5⟩ := hk2.cell
      have f0 := hk2.frozen 0
      have f2 := hk2.frozen 2
      have f3 := hk2.frozen 3
      have f4 := hk2.frozen 4
      have f5 := hk2.frozen 5
      have HM10 := Lib.hid hm10
      have H10 := Lib.hid hd10
      have HG := Lib.hid hgw
      have HWs := Lib.hid HW.out.size
      clear hd10 hm10 hk2 hsg hgw hg1 hg2 hbw k1
      go_wp2
      go_end0
      have H11 := ((H10.out.cellSet (d' := { e with seen := e.crashF bs, firm := e.crashF bs, loose := [], off := false }) 3 (.bool false) rfl rfl rfl rfl).cellSet (d' := { e with seen := e.crashF bs, firm := e.crashF bs, loose := [], off := false, armed := false }) 4 (.bool false) rfl rfl rfl rfl).cellSet (d' := e.crashD bs) 5 (.int .i64 0) rfl rfl rfl rfl
      refine ⟨rfl, ?_, _, ⟨HO.out.crashD bs, _, _, _, _, _, H11⟩, ?_⟩
      · have hfa := Hd.out.fa
        exact ((((HM10.out.setCell (p := ⟨a, 0, none⟩) hfa _).setCell (p := ⟨a, 2, none⟩) hfa _).setCell (p := ⟨a, 3, none⟩) hfa _).setCell (p := ⟨a, 4, none⟩) hfa _).setCell (p := ⟨a, 5, none⟩) hfa _
      · rintro q (hq | rfl)
        · exact Or.inl hq
        · have h1 := HG.out
          have h2 := HWs.out
          exact Or.inr (by omega)
end Go.Proofs.YtlelfakememckaaGreatDoor
