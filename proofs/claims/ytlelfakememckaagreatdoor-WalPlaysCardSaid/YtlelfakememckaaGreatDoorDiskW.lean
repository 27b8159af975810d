/- Contract of disk.Write. -/
import Derived.Test.YtlelfakememckaaGreatDoorDiskN
import Derived.Test.YtlelfakememckaaGreatDoorPlain
import Derived.Great.BuildSlice
import Derived.Laws.Tables
import Derived.Lib.BufferWrite
import Derived.Deep.Cut
namespace Go.Proofs.YtlelfakememckaaGreatDoor
open Go.RowKit

/-- The cells of one write. -/
def writeCells (k : Nat) (l : List UInt8) : Array Value := (Value.int .i64 (k : Int) :: byteVals l).toArray
theorem writeCells_size (k : Nat) {l : List UInt8} (h : l.length = 32) : (writeCells k l).size = 33 := by simp [writeCells, byteVals_length, h]
theorem writeCells_list (k : Nat) (l : List UInt8) : (writeCells k l).toList = Value.int .i64 (k : Int) :: byteVals l := rfl
theorem writeCells_one (k : Nat) (l : List UInt8) : (writeCells k l).all (·.oneCell') = true := by
  rw [Array.all_eq_true_iff_forall_mem]
  intro v hv
  have hv' : v ∈ (Value.int .i64 (k : Int) :: byteVals l) := by simpa [writeCells] using hv
  rcases List.mem_cons.1 hv' with rfl | hv'
  · rfl
  · exact byteVals_one l v hv'
theorem zeros_length : (List.replicate 32 (0 : UInt8)).length = 32 := by simp

theorem Tryz.infoWrite : (Tryz.prog.info? 97).map (fun i => (i.zero, i.size, i.bytes)) = some (some (.agg (writeCells 0 (List.replicate 32 0))), 33, 40) := by kernel_rfl
theorem Tryz.infoWrite2 : (Tryz.prog.info? 97).map (fun i => (i.zero, i.size)) = some (some (.agg (writeCells 0 (List.replicate 32 0))), 33) := by kernel_rfl
theorem build_write (k : Nat) (w : World) : (Instr.build 97 #[(0, .int .i64 (k : Int))]).run Tryz.prog w = .ok (.agg (writeCells k (List.replicate 32 0))) w := run_build w 97 _ _ (by kernel_rfl)

theorem slice_write (C : Array Value) (h : C.size = 33) (w : World) : (Instr.buildSlice 65 1 #[(0, .agg C)]).run Tryz.prog w = .ok (.slice (some ⟨w.heap.size, 0, none⟩) 1 1) (w.alloc (.cells C 97)) := by
  obtain ⟨i0, hi0, hz0, hz1, hz2⟩ := info_parts Tryz.infoWrite
  refine run_buildSlice w 65 97 1 _ C i0 _ Tryz.underlying65 hi0 hz0 (by rw [hz1]; decide) (by rw [hz1]; decide) ?_
  rw [hz1]
  have := Great.fill_whole (s := 33) (by omega) [.agg C] ((Array.range (1 * 33)).map ((Value.agg (writeCells 0 (List.replicate 32 0))).cells[· % (Value.agg (writeCells 0 (List.replicate 32 0))).cells.size]!)) (fun v hv => by rw [List.mem_singleton] at hv; subst hv; exact h) (by simp)
  simpa [Value.cells] using this

theorem copied_cells (k : Nat) (t : ByteArray) :
    ((writeCells k (List.replicate 32 0)).toList.take 1 ++ Lib.byteCells t.data.toList ++ (writeCells k (List.replicate 32 0)).toList.drop (1 + t.size)).toArray = writeCells k (padB t.data.toList) := by
  rw [writeCells_list, Nat.add_comm 1]
  unfold writeCells padB
  rw [byteVals_append, list_length, List.drop_succ_cons, List.take_succ_cons, List.take_zero, show byteVals (List.replicate 32 0) = List.replicate 32 (Value.int .u8 ((0 : UInt8).toNat : Int)) from by unfold byteVals; rw [List.map_replicate],
    List.drop_replicate, show byteVals (List.replicate (32 - t.size) 0) = List.replicate (32 - t.size) (Value.int .u8 ((0 : UInt8).toNat : Int)) from by unfold byteVals; rw [List.map_replicate]]
  rfl

theorem wpList_copy_new {P : Program} {ops : Array Oper} {rest : List Oper} {o : Oper} {a : Act} {w : World} {Q : Exit → Act → World → Prop} (hg : o.guard = none) (d x : Operand) (dT sT : TypeId) (ho : o.op = Op.call { callee := Callee.builtin Builtin.copy, args := #[d, x], argTypes := #[dT, sT] })
    (elem : TypeId) (hu : P.underlying dT = some (.slice elem)) (hs : (P.info? elem).map (·.size) = some 1) (w0 : World) (cur c' : Array Value) (ct : TypeId) (hw : w = w0.alloc (.cells cur ct))
    (off dLen dCap : Nat) (hd : a.eval d = .slice (some ⟨w0.heap.size, off, none⟩) dLen dCap) (t : ByteArray) (hx : a.eval x = .string t) (hle : t.size ≤ dLen) (hfit : off + t.size ≤ cur.size)
    (hc : (cur.toList.take off ++ Lib.byteCells t.data.toList ++ cur.toList.drop (off + t.size)).toArray = c')
    (h : wpList P ops Q rest (a.put o.dst (goInt t.size)) (w0.alloc (.cells c' ct))) : wpList P ops Q (o :: rest) a w := by
  subst hw
  have hrun := Lib.run_copy_row_string (P := P) (w0.alloc (.cells cur ct)) dT sT o.type elem w0.heap.size off dLen dCap t cur ct hu hs (heap_alloc_new _ _) hle hfit
  rw [hc, World.setRow_alloc_new] at hrun
  refine wpList_value hg _ _ ?_ h
  simp [execOp, ho, resolve, invoke, builtin, hd, hx, hrun, Result.andThen]

theorem Tryz.infoU8 : (Tryz.prog.info? 5).map (·.size) = some 1 := by kernel_rfl
theorem Tryz.infoSec : (Tryz.prog.info? 95).map (·.size) = some 32 := by kernel_rfl

theorem Write_nil (i : Int) (s : ByteArray) (w : World) : Calls Tryz.prog 100 #[.pointer none, .int .i64 i, .string s] w fun e w' => e = .returned (.int .i64 7) ∧ w = w' := by
  go_enter Tryz.func100, Tryz.ntmps100
  go_wp2_with (go_at_call 54; refine (Down_nil _).mono ?_; rintro e w' ⟨rfl, rfl⟩)
  go_ret
  exact ⟨rfl, rfl⟩

theorem DiskAt.seenSet {w : World} {F : Nat → Prop} {a : Nat} {d : DSt} {s cs u cu : Nat} {v : Value} (h : DiskAt w F a d s cs u cu v) {k : Nat} (hk : k < d.seen.length) {x : List UInt8} (hx : x.length = 32) :
    DiskAt (w.drew.setCells s (k * 32) (byteVals x)) F a { d with seen := d.seen.set k x } s cs u cu v := by
  have hb : ∀ q, q ≠ s → (w.drew.setCells s (k * 32) (byteVals x)).heap[q]? = w.heap[q]? := fun q hq => block_setCells hq _ _ w.drew
  have hz : (w.drew.setCells s (k * 32) (byteVals x)).heap.size = w.heap.size := size_setCells _ _ _ w.drew
  refine ⟨?_, ?_, h.firm.kept (hb u h.su.symm) (Nat.le_of_eq hz.symm), ?_, ?_, h.as_, h.au, h.su, h.va, h.vs, h.vu, h.fa, h.fs, h.fu, h.fv, fun q hq => by rw [hz]; exact h.low q hq⟩
  · rw [hb a h.as_, h.blk]
    simp [diskCells]
  · exact Secs.set (w := w.drew) h.seen hk hx
  · exact h.own.kept (row := some s) ⟨(Moves.setCells (F := fun q => q = s) rfl _ _ (Moves.refl _ w).drew).os, (Moves.setCells (F := fun q => q = s) rfl _ _ (Moves.refl _ w).drew).tape, (Moves.setCells (F := fun q => q = s) rfl _ _ (Moves.refl _ w).drew).output, Nat.le_of_eq hz.symm, fun q _ hq => hb q (fun e => hq (by rw [e]))⟩ (Or.inr h.vs)
  · simpa using h.caps

/-- The loose writes' row has one more. -/
theorem DiskAt.looseMore {w w' : World} {F : Nat → Prop} {a : Nat} {d : DSt} {s cs u cu : Nat} {v : Value} (h : DiskAt w F a d s cs u cu v) (p : Nat × List UInt8) {g cap : Nat}
    (hg : w.grownBy w' v.ownBlock) (hat : v.ownBlock = some g ∨ w.heap.size ≤ g) (hlt : g < w'.heap.size)
    (hown : w'.ownsRow 0 97 33 (.slice (some ⟨g, 0, none⟩) (d.loose.length + 1) cap) (d.loose.length + 1) (looseCells (d.loose ++ [p]))) :
    DiskAt (w'.setCell ⟨a, 2, none⟩ (.slice (some ⟨g, 0, none⟩) (d.loose.length + 1) cap)) (fun q => F q ∨ q = g) a { d with loose := d.loose ++ [p] } s cs u cu (.slice (some ⟨g, 0, none⟩) (d.loose.length + 1) cap) := by
  have hne : ∀ q, F q → v.ownBlock ≠ some q → q ≠ g := fun q hq hv e => by
    subst e
    rcases hat with h1 | h1
    · exact hv h1
    · have := h.low q hq; omega
  have hb : ∀ q, F q → q ≠ a → v.ownBlock ≠ some q → (w'.setCell ⟨a, 2, none⟩ (.slice (some ⟨g, 0, none⟩) (d.loose.length + 1) cap)).heap[q]? = w.heap[q]? := fun q hq hqa hv => by
    rw [Below.heap_setCell _ _ _ _ hqa]
    exact hg.block q (h.low q hq) (fun e => hv e.symm)
  have hz : (w'.setCell ⟨a, 2, none⟩ (.slice (some ⟨g, 0, none⟩) (d.loose.length + 1) cap)).heap.size = w'.heap.size := by simp [World.setCell]
  have hsz := hg.size
  refine ⟨?_, h.seen.kept (hb s h.fs h.as_.symm h.vs) (by omega), h.firm.kept (hb u h.fu h.au.symm h.vu) (by omega), ?_, h.caps, h.as_, h.au, h.su, ?_, ?_, ?_, Or.inl h.fa, Or.inl h.fs, Or.inl h.fu, ?_, ?_⟩
  · have h1 : w'.heap[a]? = some (.cells (diskCells d s cs u cu v) 69 (0, 0)) := by rw [hg.block a (h.low a h.fa) (fun e => h.va e.symm)]; exact h.blk
    rw [row_set h1 2 _]
    simp [diskCells]
  · show World.ownsRow _ 0 _ 33 _ (d.loose ++ [p]).length _
    rw [List.length_append]
    exact hown.kept (row := some a) ⟨rfl, rfl, rfl, Nat.le_of_eq hz.symm, fun q _ hq => Below.heap_setCell _ _ _ _ (fun e => hq (by rw [e]))⟩ (Or.inr (by simp only [Value.ownBlock, ne_eq, Option.some.injEq]; exact (hne a h.fa h.va).symm))
  · simp only [Value.ownBlock, ne_eq, Option.some.injEq]; exact (hne a h.fa h.va).symm
  · simp only [Value.ownBlock, ne_eq, Option.some.injEq]; exact (hne s h.fs h.vs).symm
  · simp only [Value.ownBlock, ne_eq, Option.some.injEq]; exact (hne u h.fu h.vu).symm
  · intro q hq
    simp only [Value.ownBlock, Option.some.injEq] at hq
    exact Or.inr hq.symm
  · intro q hq
    rw [hz]
    rcases hq with hq | rfl
    · have := h.low q hq; omega
    · exact hlt

theorem Tryz.infoLoose : (Tryz.prog.info? 65).map (·.size) = some 1 := by kernel_rfl

/-- What a write that is done leaves. -/
theorem write_end {w V w5 : World} {F : Nat → Prop} {a k H gg cap sb cs ub cu : Nat} {d : DSt} {v : Value} {x : List UInt8} {X : Array Value} (h : IsDisk w F a d)
    (h3 : DiskAt V F a { d.spent with seen := d.spent.seen.set k x } sb cs ub cu v) (hm : Moves F w V) (hgrow : (V.alloc (.cells X 97)).drew.grownBy w5 v.ownBlock)
    (hat : v.ownBlock = some gg ∨ gg = V.heap.size + 1) (hlt : gg < w5.heap.size)
    (hown : w5.ownsRow 0 97 33 (.slice (some ⟨gg, 0, none⟩) (d.spent.loose.length + 1) cap) (d.spent.loose.length + 1) (looseCells d.spent.loose ++ X.toList))
    (hX : writeCells k x = X) (hx : x.length = 32) (hk : k < d.seen.length) (hz : V.heap.size = H + 1) (hH : H = w.heap.size) :
    DiskEnd w F a (d.spent.put k x) (.int .i64 0) (.returned (.int .i64 0)) (w5.setCell ⟨a, 2, none⟩ (.slice (some ⟨gg, 0, none⟩) (d.spent.loose.length + 1) cap)) := by
  have hm2 : Moves F w (V.alloc (.cells X 97)).drew := (hm.alloc _).drew
  have h4 : DiskAt (V.alloc (.cells X 97)).drew F a { d.spent with seen := d.spent.seen.set k x } sb cs ub cu v := h3.kept ((Moves.refl (fun _ => False) V).alloc _).drew (fun _ h => h.elim)
  have hz2 : (V.alloc (.cells X 97)).drew.heap.size = V.heap.size + 1 := by show (V.alloc _).heap.size = _; simp
  have h5 := h4.looseMore (k, x) hgrow (hat.imp id (fun e => by rw [hz2]; omega)) hlt (by
    rw [looseCells_snoc, ← writeCells_list k x, hX]
    exact hown)
  refine ⟨rfl, ?_, fun q => F q ∨ q = gg, ⟨h.1.spent.put (by rw [DSt.spent_seen]; exact hk) hx, sb, cs, ub, cu, _, h5⟩, ?_⟩
  · refine Moves.setCell ?_ h3.fa _
    exact hm2.trans (G := F) (Moves.of_grown hgrow h3.fv) (fun _ h => Or.inl h)
  · rintro q (hq | rfl)
    · exact Or.inl hq
    · rcases hat with e | e
      · exact Or.inl (h3.fv _ e)
      · exact Or.inr (by omega)

set_option maxHeartbeats 8000000 in
set_option maxRecDepth 100000 in
theorem Write_ok {w : World} {F : Nat → Prop} {a : Nat} {d : DSt} (h : IsDisk w F a d) (k : Nat) (t : ByteArray) (h1 : d.off = false) (h2 : k < d.seen.length) (h3 : t.size ≤ 32) (h4 : d.lasts = true) (hL : d.loose.length ≤ 1000000) :
    Calls Tryz.prog 100 #[.pointer (some ⟨a, 0, none⟩), .int .i64 k, .string t] w (DiskEnd w F a (d.spent.put k (padB t.data.toList)) (.int .i64 0)) := by
  have HD := Lib.hid h
  have H1 := Lib.hid h1
  have H4 := Lib.hid h4
  have H2 : Hid (d.has k = true) := Lib.hid ((d.has_iff k).2 ⟨by omega, by omega⟩)
  have hle := h.1.le
  clear h h1 h4
  go_enter Tryz.func100, Tryz.ntmps100
  have hB := build_write k
  have hC := copied_cells k t
  have hS := writeCells_size k zeros_length
  have hZ := (zero_of_info Tryz.infoWrite2).1
  have hZs := writeCells_size 0 zeros_length
  have hO := writeCells_one k (List.replicate 32 0)
  have hX : (writeCells k (padB t.data.toList)).size = 33 := writeCells_size k (padB_length (by rw [list_length]; exact h3))
  obtain ⟨Z, hZe⟩ : ∃ Z, writeCells 0 (List.replicate 32 0) = Z := ⟨_, rfl⟩
  obtain ⟨C, hCe⟩ : ∃ C, writeCells k (List.replicate 32 0) = C := ⟨_, rfl⟩
  obtain ⟨X, hXe⟩ : ∃ X, writeCells k (padB t.data.toList) = X := ⟨_, rfl⟩
  rw [hXe] at hC hX
  rw [hCe] at hB hC hS hO
  rw [hZe] at hZ hZs
  have HXe := Lib.hid hXe
  clear hZe hCe hXe
  replace hB := Lib.hid hB
  replace hC := Lib.hid hC
  replace hS := Lib.hid hS
  replace hZ := Lib.hid hZ
  replace hZs := Lib.hid hZs
  replace hO := Lib.hid hO
  replace hX := Lib.hid hX
  go_upto_region 9 with (first
    | (go_at_call 54; refine (Down_any HD.out).mono ?_; rw [H1.out]; rintro e w' ⟨rfl, rfl⟩)
    | (go_at_call 55; refine (has_any HD.out _).mono ?_; rw [H2.out]; rintro e w' ⟨rfl, rfl⟩)
    | (go_at_call 116; refine (lasts_any HD.out).mono ?_; rintro e w1 ⟨he, hm1, hz1, hd1⟩; rw [H4.out] at he; subst he; replace hm1 := Lib.hid hm1; replace hz1 := Lib.hid hz1; replace hd1 := Lib.hid hd1))
  refine wp_region_lit ?_
  refine wpList_value rfl (.int .i64 k) _ rfl ?_
  refine wpList_build_known rfl _ _ rfl (.agg C) _ #[(0, .int .i64 (k : Int))] (by simp [go_sem]) (hB.out _) ?_
  refine wpList_alloc_known rfl _ rfl Z (hZ.out _) ?_
  refine wpList_store_new rfl _ _ _ rfl w1 Z C rfl rfl rfl (by rw [hS.out]; exact (zero_of_info Tryz.infoWrite2).2) (by rw [hS.out, hZs.out]) hO.out ?_
  refine wpList_nil ?_
  go_upto_region 11 with ((with_reducible refine wpList_copy_new (o := ⟨some 31, _, _, _, _, _⟩) rfl _ _ _ _ rfl 5 Tryz.underlying101 Tryz.infoU8 w1 C X 97 rfl 1 32 32 ?b8 t ?b9 h3 ?b10 hC.out ?_); (case b8 => rfl); (case b9 => rfl); (case b10 => rw [hS.out]; omega))
  obtain ⟨ho, sb, cs, ub, cu, v, hd⟩ := HD.out
  have hd2 := (hd1.out _ _ _ _ _ hd).kept (Moves.alloc (Moves.refl (fun _ => False) w1) (.cells X 97)) (fun _ h => h.elim)
  have hnew : (w1.alloc (.cells X 97)).heap[w1.heap.size]? = some (.cells X 97 (0, 0)) := heap_alloc_new _ _
  have hHlow : ∀ q, F q → q < w1.heap.size := (hd1.out _ _ _ _ _ hd).low
  have hWs : (w1.alloc (.cells X 97)).heap.size = w1.heap.size + 1 := by simp
  have HM : Hid (Moves F w (w1.alloc (.cells X 97))) := Lib.hid (hm1.out.alloc _)
  have hHw : w1.heap.size = w.heap.size := hz1.out
  generalize w1.alloc (.cells X 97) = W at *
  obtain ⟨c0, _, _, _, _, _⟩ := hd2.cell
  rw [DSt.spent_seen] at c0
  have hx32 : (padB t.data.toList).length = 32 := padB_length (by rw [list_length]; exact h3)
  have hrX : W.rangeAt w1.heap.size 1 (byteVals (padB t.data.toList)) := fun j u hu => by
    rw [Lib.cell_of_heap hnew, ← HXe.out, Nat.add_comm 1 j]
    simpa [writeCells] using hu
  have htS : W.there sb (k * 32) 32 := (hd2.seen.2 k (by rw [DSt.spent_seen]; exact h2)).2.2
  have hl32 : (byteVals (padB t.data.toList)).length = 32 := by rw [byteVals_length, hx32]
  have hone := byteVals_one (padB t.data.toList)
  have HSet := Lib.hid (hd2.seen.set (i := k) (by rw [DSt.spent_seen]; exact h2) hx32)
  have H32 := Lib.hid hx32
  clear hx32
  generalize hvs : byteVals (padB t.data.toList) = vs at *
  have HV := Lib.hid hvs
  have HN := Lib.hid hnew
  have HD2 := Lib.hid hd2
  have HL := Lib.hid hHlow
  have HWs := Lib.hid hWs
  have HHw := Lib.hid hHw
  clear hnew hd hd2 ho hHlow hvs hWs hHw
  obtain ⟨n, hn⟩ : ∃ n, d.seen.length = n := ⟨_, rfl⟩
  rw [hn] at c0 h2 hle
  have HNn := Lib.hid hn
  clear hn
  have hk0 : (0 : Int) ≤ (k : Int) := Int.natCast_nonneg _
  have hk8 : (k : Int) < (n : Int) := by omega
  have hu := Tryz.underlying95
  have hi : (Tryz.prog.info? 95).map (·.size) = some vs.length := by rw [Tryz.infoSec, hl32]
  clear hm1 hz1 hd1
  generalize w1.heap.size = H at *
  have hHs : H ≠ sb := fun e => by have := HL.out sb HD2.out.fs; omega
  have HK : Hid ((W.drew.setCells sb (k * 32) vs).cell? ⟨a, 0, none⟩ = some (.slice (some ⟨sb, 0, none⟩) n cs) ∧ (W.drew.setCells sb (k * 32) vs).rangeAt H 1 vs ∧ (W.drew.setCells sb (k * 32) vs).there sb (k * 32) 32) :=
    Lib.hid ⟨(World.cell?_of_block (block_setCells HD2.out.as_ _ _ _)).trans c0, rangeAt_block (w := W.drew) hrX (block_setCells hHs _ _ _), World.there_setCells (w := W.drew) htS _ _ _⟩
  simp only [Act.put]
  go_region_held3 (fun w' => w'.cell? ⟨a, 0, none⟩ = some (.slice (some ⟨sb, 0, none⟩) n cs) ∧ w'.rangeAt H 1 vs ∧ w'.there sb (k * 32) 32) (first | exact ⟨c0, hrX, htS⟩ | exact HK.out) (fail)
  go_wp2
  have hd3 : DiskAt (W.drew.setCells sb (k * 32) vs) F a { d.spent with seen := d.spent.seen.set k (padB t.data.toList) } sb cs ub cu v := by
    have := HD2.out.seenSet (k := k) (by rw [DSt.spent_seen, HNn.out]; exact h2) H32.out
    rw [HV.out] at this
    exact this
  have hN3 : (W.drew.setCells sb (k * 32) vs).heap[H]? = some (.cells X 97 (0, 0)) := by rw [block_setCells hHs]; exact HN.out
  have HM3 : Hid (Moves F w (W.drew.setCells sb (k * 32) vs)) := Lib.hid (Moves.setCells HD2.out.fs _ _ HM.out.drew)
  have HS3 : Hid ((W.drew.setCells sb (k * 32) vs).heap.size = H + 1) := Lib.hid ((size_setCells _ _ _ _).trans HWs.out)
  generalize W.drew.setCells sb (k * 32) vs = V at *
  clear HK HSet htS hrX c0 HN HD2 HM HWs hu hi hone hl32
  obtain ⟨_, _, c2, _, _, _⟩ := hd3.cell
  have f2 := hd3.frozen 2
  have hown := hd3.own
  have hva := hd3.va
  have hHv : v.ownBlock ≠ some H := fun e => by have := HL.out H (hd3.fv H e); omega
  have haH : a < H := HL.out a hd3.fa
  have HD3 := Lib.hid hd3
  have hbs := slice_write X hX.out
  have hXs : (Tryz.prog.info? 97).map (·.size) = some X.toList.length := by rw [Array.length_toList, hX.out]; exact (zero_of_info Tryz.infoWrite2).2
  have hld : (Instr.loadAt 97 (.pointer (some ⟨H, 0, none⟩))).run Tryz.prog V.drew = .ok (.agg X) V.drew := by
    have := run_loadAt_mid (P := Tryz.prog) V.drew H 0 97 X.toList _ (fun j u hu => by rw [Lib.cell_of_heap (w := V.drew) hN3, Nat.zero_add]; simpa using hu) Tryz.underlying97 rfl hXs
    simpa using this
  have hX1 : ∀ u ∈ X.toList, u.oneCell' = true := by
    rw [← HXe.out]
    exact fun u hu => (Array.all_eq_true_iff_forall_mem.1 (writeCells_one k _)) u (by simpa using hu)
  have HX1 := Lib.hid hX1
  have HN3 := Lib.hid hN3
  have HHv := Lib.hid hHv
  have HXl : Hid (X.toList.length = 1 * 33) := Lib.hid (by rw [Array.length_toList, hX.out])
  have hrg : V.drew.rangeAt H 0 X.toList := fun j u hu => by rw [Lib.cell_of_heap (w := V.drew) hN3, Nat.zero_add]; simpa using hu
  clear hd3 hN3 hX1 hHv hld
  obtain ⟨i0, hi0, hz0, hz1, hz2⟩ := info_parts Tryz.infoWrite
  have hlo1 : d.spent.loose.length + 1 ≤ maxLen := by rw [DSt.spent_loose]; unfold maxLen; omega
  have hlo2 : (d.spent.loose.length + 1) * 40 ≤ 140737488355328 := by rw [DSt.spent_loose]; omega
  refine wp_region_held_drew (S := fun w' => w'.rangeAt H 0 X.toList) (by kernel_rfl) hrg (fun hHeld => ?_)
  refine wpAnyH_take (i := 0) (oi := ⟨some 40, .move (.tmp 0), 25, "disk.go:75", #[], none⟩) (v := .pointer (some ⟨a, 0, none⟩)) rfl (by kernel_rfl) (by kernel_rfl) (by kernel_rfl) (fun _ _ _ h => h) (Or.inl ⟨by rfl, fun w _ => by go_simp⟩) hHeld ?_
  simp only [Act.put, List.setIfInBounds_toArray, List.set_cons_zero, List.set_cons_succ]
  refine wpAnyH_take (i := 1) (oi := ⟨some 41, .move (.tmp 0), 25, "disk.go:75", #[], none⟩) (v := .pointer (some ⟨a, 0, none⟩)) rfl (by kernel_rfl) (by kernel_rfl) (by kernel_rfl) (fun _ _ _ h => h) (Or.inl ⟨by rfl, fun w _ => by go_simp⟩) hHeld ?_
  simp only [Act.put, List.setIfInBounds_toArray, List.set_cons_zero, List.set_cons_succ]
  refine wpAnyH_take (i := 2) (oi := ⟨some 42, .nilCheck (.tmp 41), 0, "disk.go:75", #[⟨1, .data⟩], none⟩) (v := .pointer (some ⟨a, 0, none⟩)) rfl (by kernel_rfl) (by kernel_rfl) (by kernel_rfl) (fun _ _ _ h => h) (Or.inl ⟨by rfl, fun w _ => by go_simp⟩) hHeld ?_
  simp only [Act.put, List.setIfInBounds_toArray, List.set_cons_zero, List.set_cons_succ]
  refine wpAnyH_take (i := 3) (oi := ⟨some 43, .fieldAddr 69 (.tmp 42) 2, 0, "disk.go:75", #[⟨2, .data⟩], none⟩) (v := .pointer (some ⟨a, 2, none⟩)) rfl (by kernel_rfl) (by kernel_rfl) (by kernel_rfl) (fun _ _ _ h => h) (Or.inl ⟨by rfl, fun w _ => by go_simp⟩) hHeld ?_
  simp only [Act.put, List.setIfInBounds_toArray, List.set_cons_zero, List.set_cons_succ]
  refine wpAnyH_take (i := 5) (oi := ⟨some 45, .load 97 (.tmp 7), 97, "disk.go:75", #[], none⟩) (v := .agg X.toList.toArray) rfl (by kernel_rfl) (by kernel_rfl) (by kernel_rfl) (fun _ _ _ h => h) (yieldsIf_load_mid (by rfl) _ _ rfl H 0 rfl X.toList _ (fun _ h => h) Tryz.underlying97 rfl hXs) hHeld ?_
  simp only [Act.put, List.setIfInBounds_toArray, List.set_cons_zero, List.set_cons_succ, Array.toArray_toList]
  have hrg2 : ((V.alloc (.cells X 97)).drew).rangeAt H 0 X.toList := rangeAt_block (w := V.drew) hrg (Below.heap_alloc V _ H (by rw [HS3.out]; omega))
  have c2' : (V.alloc (.cells X 97)).cell? ⟨a, 2, none⟩ = some v := (World.cell?_of_block (Below.heap_alloc V _ a (by rw [HS3.out]; omega))).trans c2
  have hbs2 : (Instr.buildSlice 65 1 #[(0, .agg X)]).run Tryz.prog V.drew = .ok (.slice (some ⟨V.heap.size, 0, none⟩) 1 1) (V.alloc (.cells X 97)).drew := by
    have := hbs V.drew
    rw [alloc_drew, drew_size] at this
    exact this
  have c2d : V.drew.cell? ⟨a, 2, none⟩ = some v := by rw [drew_cell]; exact c2
  have c2e : (V.alloc (.cells X 97)).drew.cell? ⟨a, 2, none⟩ = some v := by rw [drew_cell]; exact c2'
  have hownd : (V.alloc (.cells X 97)).drew.ownsRow 0 97 33 v d.spent.loose.length (looseCells d.spent.loose) := (hown.alloc _).drew
  have hnewd : ∀ j u, X.toList[j]? = some u → (V.alloc (.cells X 97)).drew.cell? ((⟨V.heap.size, 0, none⟩ : Addr).add j) = some u := World.news_of_block (cs := X) (t := 97) (fr := (0, 0)) (heap_alloc_new V _)
  have hszd : (V.alloc (.cells X 97)).drew.heap.size = V.heap.size + 1 := by rw [drew_size]; simp
  clear hbs
  have hSz : V.heap.size = H + 1 := HS3.out
  refine wpAnyH_ready (rs := [4, 6]) (by kernel_rfl) (by simp) ?_
  refine AllReadyH.cons (o := ⟨some 44, .load 65 (.tmp 43), 65, "disk.go:75", #[⟨3, .data⟩], none⟩) rfl (fun K hK => ?_) ?_
  · rw [if_pos (by rfl)]
    refine wp_load_one _ _ (by rfl) ⟨a, 2, none⟩ v (by rfl) Tryz.underlying65 rfl c2d ?_
    refine hK.out _ _ hHeld (fun _ => ?_)
    clear hK K
    simp only [Act.put, List.setIfInBounds_toArray, List.set_cons_zero, List.set_cons_succ]
    refine wpAnyH_ready (rs := [6]) (by kernel_rfl) (by simp) ?_
    refine AllReadyH.cons (o := ⟨some 46, .buildSlice 65 1 #[(0, .tmp 45)], 65, "disk.go:75", #[⟨5, .data⟩], none⟩) rfl (fun K hK => ?_) AllReadyH.nil
    rw [if_pos (by rfl)]
    refine wp_buildSlice_known _ _ _ rfl (.slice (some ⟨V.heap.size, 0, none⟩) 1 1) (V.alloc (.cells X 97)).drew #[(0, .agg X)] ?hp hbs2 ?_
    case hp => simp [go_sem]
    refine hK.out _ _ hrg2 (fun hHeld2 => ?_)
    clear hK K
    simp only [Act.put, List.setIfInBounds_toArray, List.set_cons_zero, List.set_cons_succ]
    refine wpAnyH_ready (rs := [7]) (by kernel_rfl) (by simp) ?_
    refine AllReadyH.cons (o := ⟨some 47, .call { callee := .builtin .append, args := #[.tmp 44, .tmp 46], argTypes := #[65, 65] }, 65, "disk.go:75", #[⟨4, .data⟩, ⟨6, .data⟩], none⟩) rfl (fun K hK => ?_) AllReadyH.nil
    refine step_append_lies _ (by rfl) _ _ _ (by rfl) 0 97 i0 _ 33 40 Tryz.underlying65 hi0 hz0 hz1 hz2 rfl (by omega) v d.spent.loose.length _ (by rfl) hownd ⟨V.heap.size, 0, none⟩ 1 1 X.toList (by rfl) HXl.out hnewd HX1.out (by omega) hlo1 hlo2 (Nat.zero_le _) (V.heap.size + 1) hszd ?_
    intro gg cap w5 hown5 hgrow hat hlt
    have hrg5 : w5.rangeAt H 0 X.toList := rangeAt_block hHeld2 (hgrow.block H (by rw [hszd]; omega) (fun e => HHv.out e.symm))
    have c5 : w5.cell? ⟨a, 2, none⟩ = some v := hgrow.cell c2e (fun e => hva e.symm)
    have f5 : w5.frozen? ⟨a, 2, none⟩ = false := by
      rw [hgrow.frozen_far ⟨a, 2, none⟩ (by rw [hszd]; show a < _; omega) (fun e => hva e.symm), drew_frozen, World.frozen?_of_block (w := V) (Below.heap_alloc V _ a (by rw [HS3.out]; omega))]
      exact f2
    refine hK.out _ _ hrg5 (fun hHeld5 => ?_)
    clear hK K
    simp only [Act.put, List.setIfInBounds_toArray, List.set_cons_zero, List.set_cons_succ]
    refine wpAnyH_take (i := 8) (oi := ⟨some 48, .nilCheck (.tmp 40), 0, "disk.go:75", #[⟨0, .data⟩, ⟨0, .phase⟩, ⟨1, .phase⟩, ⟨2, .phase⟩, ⟨3, .phase⟩, ⟨4, .phase⟩, ⟨5, .phase⟩, ⟨6, .phase⟩, ⟨7, .phase⟩], none⟩) (v := .pointer (some ⟨a, 0, none⟩)) rfl (by kernel_rfl) (by kernel_rfl) (by kernel_rfl) (fun _ _ _ h => h) (Or.inl ⟨by rfl, fun w _ => by go_simp⟩) hHeld5 ?_
    simp only [Act.put, List.setIfInBounds_toArray, List.set_cons_zero, List.set_cons_succ]
    refine wpAnyH_take (i := 9) (oi := ⟨some 49, .fieldAddr 69 (.tmp 48) 2, 0, "disk.go:75", #[⟨8, .data⟩, ⟨0, .phase⟩, ⟨1, .phase⟩, ⟨2, .phase⟩, ⟨3, .phase⟩, ⟨4, .phase⟩, ⟨5, .phase⟩, ⟨6, .phase⟩, ⟨7, .phase⟩], none⟩) (v := .pointer (some ⟨a, 2, none⟩)) rfl (by kernel_rfl) (by kernel_rfl) (by kernel_rfl) (fun _ _ _ h => h) (Or.inl ⟨by rfl, fun w _ => by go_simp⟩) hHeld5 ?_
    simp only [Act.put, List.setIfInBounds_toArray, List.set_cons_zero, List.set_cons_succ]
    refine wpAnyH_ready (rs := [10]) (by kernel_rfl) (by simp) ?_
    refine AllReadyH.cons (o := ⟨none, .store 65 (.tmp 49) (.tmp 47), 0, "disk.go:75", #[⟨9, .data⟩, ⟨7, .data⟩, ⟨7, .chain⟩, ⟨0, .phase⟩, ⟨1, .phase⟩, ⟨2, .phase⟩, ⟨3, .phase⟩, ⟨4, .phase⟩, ⟨5, .phase⟩, ⟨6, .phase⟩, ⟨7, .phase⟩], none⟩) rfl (fun K hK => ?_) AllReadyH.nil
    rw [if_pos (by rfl)]
    refine wp_store_one _ _ _ (by rfl) ⟨a, 2, none⟩ v _ (by rfl) (by rfl) Tryz.infoLoose rfl rfl c5 f5 ?_
    refine hK.out _ _ (rangeAt_block hHeld5 (Below.heap_setCell _ _ _ _ (by show H ≠ a; omega))) (fun _ => ?_)
    clear hK K
    simp only [Act.put]
    refine wpAnyH_done (by kernel_rfl) ?_ _
    have HE := Lib.hid (write_end HD.out HD3.out HM3.out hgrow hat hlt hown5 HXe.out H32.out (by rw [HNn.out]; exact h2) HS3.out (by have := HL.out; have := HHw.out; omega))
    clear hgrow hat hown5 hlt c5 f5 hrg5 hHeld5
    go_wp2
    go_ret
    exact HE.out
  refine AllReadyH.cons (o := ⟨some 46, .buildSlice 65 1 #[(0, .tmp 45)], 65, "disk.go:75", #[⟨5, .data⟩], none⟩) rfl (fun K hK => ?_) ?_
  · rw [if_pos (by rfl)]
    refine wp_buildSlice_known _ _ _ rfl (.slice (some ⟨V.heap.size, 0, none⟩) 1 1) (V.alloc (.cells X 97)).drew #[(0, .agg X)] ?hp hbs2 ?_
    case hp => simp [go_sem]
    refine hK.out _ _ hrg2 (fun hHeld2 => ?_)
    clear hK K
    simp only [Act.put, List.setIfInBounds_toArray, List.set_cons_zero, List.set_cons_succ]
    refine wpAnyH_ready (rs := [4]) (by kernel_rfl) (by simp) ?_
    refine AllReadyH.cons (o := ⟨some 44, .load 65 (.tmp 43), 65, "disk.go:75", #[⟨3, .data⟩], none⟩) rfl (fun K hK => ?_) AllReadyH.nil
    rw [if_pos (by rfl)]
    refine wp_load_one _ _ (by rfl) ⟨a, 2, none⟩ v (by rfl) Tryz.underlying65 rfl c2e ?_
    refine hK.out _ _ hHeld2 (fun _ => ?_)
    clear hK K
    simp only [Act.put, List.setIfInBounds_toArray, List.set_cons_zero, List.set_cons_succ]
    refine wpAnyH_ready (rs := [7]) (by kernel_rfl) (by simp) ?_
    refine AllReadyH.cons (o := ⟨some 47, .call { callee := .builtin .append, args := #[.tmp 44, .tmp 46], argTypes := #[65, 65] }, 65, "disk.go:75", #[⟨4, .data⟩, ⟨6, .data⟩], none⟩) rfl (fun K hK => ?_) AllReadyH.nil
    refine step_append_lies _ (by rfl) _ _ _ (by rfl) 0 97 i0 _ 33 40 Tryz.underlying65 hi0 hz0 hz1 hz2 rfl (by omega) v d.spent.loose.length _ (by rfl) hownd ⟨V.heap.size, 0, none⟩ 1 1 X.toList (by rfl) HXl.out hnewd HX1.out (by omega) hlo1 hlo2 (Nat.zero_le _) (V.heap.size + 1) hszd ?_
    intro gg cap w5 hown5 hgrow hat hlt
    have hrg5 : w5.rangeAt H 0 X.toList := rangeAt_block hHeld2 (hgrow.block H (by rw [hszd]; omega) (fun e => HHv.out e.symm))
    have c5 : w5.cell? ⟨a, 2, none⟩ = some v := hgrow.cell c2e (fun e => hva e.symm)
    have f5 : w5.frozen? ⟨a, 2, none⟩ = false := by
      rw [hgrow.frozen_far ⟨a, 2, none⟩ (by rw [hszd]; show a < _; omega) (fun e => hva e.symm), drew_frozen, World.frozen?_of_block (w := V) (Below.heap_alloc V _ a (by rw [HS3.out]; omega))]
      exact f2
    refine hK.out _ _ hrg5 (fun hHeld5 => ?_)
    clear hK K
    simp only [Act.put, List.setIfInBounds_toArray, List.set_cons_zero, List.set_cons_succ]
    refine wpAnyH_take (i := 8) (oi := ⟨some 48, .nilCheck (.tmp 40), 0, "disk.go:75", #[⟨0, .data⟩, ⟨0, .phase⟩, ⟨1, .phase⟩, ⟨2, .phase⟩, ⟨3, .phase⟩, ⟨4, .phase⟩, ⟨5, .phase⟩, ⟨6, .phase⟩, ⟨7, .phase⟩], none⟩) (v := .pointer (some ⟨a, 0, none⟩)) rfl (by kernel_rfl) (by kernel_rfl) (by kernel_rfl) (fun _ _ _ h => h) (Or.inl ⟨by rfl, fun w _ => by go_simp⟩) hHeld5 ?_
    simp only [Act.put, List.setIfInBounds_toArray, List.set_cons_zero, List.set_cons_succ]
    refine wpAnyH_take (i := 9) (oi := ⟨some 49, .fieldAddr 69 (.tmp 48) 2, 0, "disk.go:75", #[⟨8, .data⟩, ⟨0, .phase⟩, ⟨1, .phase⟩, ⟨2, .phase⟩, ⟨3, .phase⟩, ⟨4, .phase⟩, ⟨5, .phase⟩, ⟨6, .phase⟩, ⟨7, .phase⟩], none⟩) (v := .pointer (some ⟨a, 2, none⟩)) rfl (by kernel_rfl) (by kernel_rfl) (by kernel_rfl) (fun _ _ _ h => h) (Or.inl ⟨by rfl, fun w _ => by go_simp⟩) hHeld5 ?_
    simp only [Act.put, List.setIfInBounds_toArray, List.set_cons_zero, List.set_cons_succ]
    refine wpAnyH_ready (rs := [10]) (by kernel_rfl) (by simp) ?_
    refine AllReadyH.cons (o := ⟨none, .store 65 (.tmp 49) (.tmp 47), 0, "disk.go:75", #[⟨9, .data⟩, ⟨7, .data⟩, ⟨7, .chain⟩, ⟨0, .phase⟩, ⟨1, .phase⟩, ⟨2, .phase⟩, ⟨3, .phase⟩, ⟨4, .phase⟩, ⟨5, .phase⟩, ⟨6, .phase⟩, ⟨7, .phase⟩], none⟩) rfl (fun K hK => ?_) AllReadyH.nil
    rw [if_pos (by rfl)]
    refine wp_store_one _ _ _ (by rfl) ⟨a, 2, none⟩ v _ (by rfl) (by rfl) Tryz.infoLoose rfl rfl c5 f5 ?_
    refine hK.out _ _ (rangeAt_block hHeld5 (Below.heap_setCell _ _ _ _ (by show H ≠ a; omega))) (fun _ => ?_)
    clear hK K
    simp only [Act.put]
    refine wpAnyH_done (by kernel_rfl) ?_ _
    have HE := Lib.hid (write_end HD.out HD3.out HM3.out hgrow hat hlt hown5 HXe.out H32.out (by rw [HNn.out]; exact h2) HS3.out (by have := HL.out; have := HHw.out; omega))
    clear hgrow hat hown5 hlt c5 f5 hrg5 hHeld5
    go_wp2
    go_ret
    exact HE.out
  exact AllReadyH.nil
end Go.Proofs.YtlelfakememckaaGreatDoor
