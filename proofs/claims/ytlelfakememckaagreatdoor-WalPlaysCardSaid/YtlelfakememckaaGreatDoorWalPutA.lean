/- Contracts of the document's Append and Checkpoint, over all disks and logs that fit. -/
import Derived.Test.YtlelfakememckaaGreatDoorWalPut
import Derived.Test.YtlelfakememckaaGreatDoorWalR
import Derived.Test.YtlelfakememckaaGreatDoorWalU
import Derived.Test.YtlelfakememckaaGreatDoorWalRefG
import Derived.Deep.CutRange
namespace Go.Proofs.YtlelfakememckaaGreatDoor
open Go.RowKit

/-- Within a call of the document's Append or Checkpoint: the disk's box, the log's box, the answer's box. -/
structure AppSt (w wr : World) (X : Nat) (d : DSt) (fA : Option Addr) (fc : Nat) (aA : Option Addr) (ac : Nat) (wA : Option Addr) (wc : Nat) (G P K U : Int) (ST : ByteArray) (RV : Value) : Prop where
  ref : RefAt wr wr.heap.size d.firm d.loose fA aA ac wA wc
  x : Five wr X (.slice fA d.firm.length fc) (.slice aA d.loose.length ac) (.slice wA d.loose.length wc) (.int .i64 d.leftR) (.bool d.off)
  g : Six wr (X + 1) G P K U ST RV
  r : Five wr (X + 1 + 1) (.slice none 0 0) (.slice none 0 0) (.slice none 0 0) (.int .i64 0) (.bool false)
  low : ∀ b off, (fA = some ⟨b, off, none⟩ ∨ aA = some ⟨b, off, none⟩ ∨ wA = some ⟨b, off, none⟩) → b < X
  xW : w.heap.size ≤ X
  bel : Below w.heap.size w wr
section
variable {w wr : World} {X : Nat} {d : DSt} {fA aA wA : Option Addr} {fc ac wc : Nat} {G P K U : Int} {ST : ByteArray} {RV : Value}
theorem AppSt.later {w' : World} (h : AppSt w wr X d fA fc aA ac wA wc G P K U ST RV) (hb : Below wr.heap.size wr w') : AppSt w w' X d fA fc aA ac wA wc G P K U ST RV :=
  ⟨h.ref.next hb, h.x.below hb (heap_lt h.x), h.g.below hb, h.r.below hb (heap_lt h.r), h.low, h.xW, h.bel.trans (hb.mono h.bel.size)⟩
theorem app_first {w : World} (ho : d.Ok) (h : RefAt w w.heap.size d.firm d.loose fA aA ac wA wc) :
    AppSt w (((w.alloc (.cells #[.slice fA d.firm.length fc, .slice aA d.loose.length ac, .slice wA d.loose.length wc, .int .i64 d.leftR, .bool d.off] 30)).alloc (.cells #[.int .i64 G, .int .i64 P, .int .i64 K, .int .i64 U, .string ST, RV] 38)).alloc (.cells #[.slice none 0 0, .slice none 0 0, .slice none 0 0, .int .i64 0, .bool false] 30)) w.heap.size d fA fc aA ac wA wc G P K U ST RV := by
  obtain ⟨V1, hV1⟩ : ∃ V1, V1 = w.alloc (.cells #[.slice fA d.firm.length fc, .slice aA d.loose.length ac, .slice wA d.loose.length wc, .int .i64 d.leftR, .bool d.off] 30) := ⟨_, rfl⟩
  obtain ⟨V2, hV2⟩ : ∃ V2, V2 = V1.alloc (.cells #[.int .i64 G, .int .i64 P, .int .i64 K, .int .i64 U, .string ST, RV] 38) := ⟨_, rfl⟩
  have s1 : V1.heap.size = w.heap.size + 1 := by rw [hV1]; simp
  have s2 : V2.heap.size = w.heap.size + 2 := by rw [hV2]; simp [s1]
  have b1 : Below w.heap.size w V1 := by rw [hV1]; exact below_one _ _
  have b2 : Below V1.heap.size V1 V2 := by rw [hV2]; exact below_one _ _
  rw [← hV1, ← hV2]
  have b3 := below_one V2 (.cells #[.slice none 0 0, .slice none 0 0, .slice none 0 0, .int .i64 0, .bool false] 30)
  have f1 : Five V1 w.heap.size (.slice fA d.firm.length fc) (.slice aA d.loose.length ac) (.slice wA d.loose.length wc) (.int .i64 d.leftR) (.bool d.off) := by rw [hV1]; exact Five.new _ _ _ _ _ _
  have g1 : Six V2 (w.heap.size + 1) G P K U ST RV := by rw [hV2, ← s1]; exact Six.new _ _ _ _ _ _ _
  have r1 : Five (V2.alloc (.cells #[.slice none 0 0, .slice none 0 0, .slice none 0 0, .int .i64 0, .bool false] 30)) (w.heap.size + 1 + 1) (.slice none 0 0) (.slice none 0 0) (.slice none 0 0) (.int .i64 0) (.bool false) := by rw [show w.heap.size + 1 + 1 = V2.heap.size from by omega]; exact Five.new _ _ _ _ _ _
  have b12 := b1.trans (b2.mono b1.size)
  have b13 := b12.trans (b3.mono b12.size)
  exact ⟨h.next b13, (f1.below b2 (by omega)).below b3 (by omega), g1.below b3, r1, fun b off e => h.lt ho.firm_pos.1 b off e, Nat.le_refl _, b13⟩
/-- The answer laid, and what the call leaves then. -/
theorem AppSt.ret {w' : World} {d' : DSt} {fA' aA' wA' : Option Addr} {fc' ac' wc' : Nat} {code : Int} (h : AppSt w wr X d fA fc aA ac wA wc G P K U ST RV) (hb : Below wr.heap.size wr w') (hr : RefAt w' w'.heap.size d'.firm d'.loose fA' aA' ac' wA' wc') (hf : RefFresh wr.heap.size fA aA wA fA' aA' wA') :
    RefRet fA aA wA d' code w (.returned (.tuple #[.agg #[.slice fA' d'.firm.length fc', .slice aA' d'.loose.length ac', .slice wA' d'.loose.length wc', .int .i64 d'.leftR, .bool d'.off], .int .i64 code]))
      (((((w'.setCell ⟨X + 1 + 1, 0, none⟩ (.slice fA' d'.firm.length fc')).setCell ⟨X + 1 + 1, 1, none⟩ (.slice aA' d'.loose.length ac')).setCell ⟨X + 1 + 1, 2, none⟩ (.slice wA' d'.loose.length wc')).setCell ⟨X + 1 + 1, 3, none⟩ (.int .i64 d'.leftR)).setCell ⟨X + 1 + 1, 4, none⟩ (.bool d'.off)) ∧
    Five (((((w'.setCell ⟨X + 1 + 1, 0, none⟩ (.slice fA' d'.firm.length fc')).setCell ⟨X + 1 + 1, 1, none⟩ (.slice aA' d'.loose.length ac')).setCell ⟨X + 1 + 1, 2, none⟩ (.slice wA' d'.loose.length wc')).setCell ⟨X + 1 + 1, 3, none⟩ (.int .i64 d'.leftR)).setCell ⟨X + 1 + 1, 4, none⟩ (.bool d'.off)) (X + 1 + 1) (.slice fA' d'.firm.length fc') (.slice aA' d'.loose.length ac') (.slice wA' d'.loose.length wc') (.int .i64 d'.leftR) (.bool d'.off) := by
  have hX2 : X + 1 + 1 < wr.heap.size := heap_lt h.r
  have hxr : ∀ b off, (fA' = some ⟨b, off, none⟩ ∨ aA' = some ⟨b, off, none⟩ ∨ wA' = some ⟨b, off, none⟩) → b ≠ X + 1 + 1 := fun b off q => by
    rcases hf b off q with h' | h'
    · omega
    · have := h.low b off h'; omega
  have hW : ∀ j, w.heap.size ≤ (⟨X + 1 + 1, j, none⟩ : Addr).block := fun j => by show w.heap.size ≤ X + 1 + 1; have := h.xW; omega
  have hbw := h.bel.trans (hb.mono h.bel.size)
  refine ⟨⟨fA', fc', aA', ac', wA', wc', rfl, RefAt.more (B := w'.heap.size) ?_ (by simp), ((((hbw.setCell (hW _) _).setCell (hW _) _).setCell (hW _) _).setCell (hW _) _).setCell (hW _) _, fun b off q => ?_⟩, ((((Five.set0 (h.r.below hb hX2) _).set1 _).set2 _).set3 _).set4 _⟩
  · exact ((((hr.setOff hxr _).setOff hxr _).setOff hxr _).setOff hxr _).setOff hxr _
  · rcases hf b off q with h' | h'
    · exact .inl (Nat.le_trans h.bel.size h')
    · exact .inr h'
end

/-- What is read behind the answer's stores. -/
theorem AppSt.see {w wr : World} {X : Nat} {d : DSt} {fA aA wA : Option Addr} {fc ac wc : Nat} {G P K U : Int} {ST : ByteArray} {RV : Value} (h : AppSt w wr X d fA fc aA ac wA wc G P K U ST RV) {ab ao : Nat} {u : Value} (hc : wr.cell? ⟨ab, ao, none⟩ = some u) (hn : ab ≠ X + 1 + 1) (v0 v1 v2 v3 v4 : Value) {W : World} (hW : W = (((((wr.setCell ⟨X + 1 + 1, 0, none⟩ v0).setCell ⟨X + 1 + 1, 1, none⟩ v1).setCell ⟨X + 1 + 1, 2, none⟩ v2).setCell ⟨X + 1 + 1, 3, none⟩ v3).setCell ⟨X + 1 + 1, 4, none⟩ v4)) :
    W.cell? ⟨X, 0, none⟩ = some (.slice fA d.firm.length fc) ∧ W.cell? ⟨X, 1, none⟩ = some (.slice aA d.loose.length ac) ∧ W.cell? ⟨X, 2, none⟩ = some (.slice wA d.loose.length wc) ∧ W.cell? ⟨X, 3, none⟩ = some (.int .i64 d.leftR) ∧ W.cell? ⟨X, 4, none⟩ = some (.bool d.off) ∧ W.cell? ⟨X + 1, 2, none⟩ = some (.int .i64 K) ∧ W.cell? ⟨ab, ao, none⟩ = some u := by
  have e : ∀ H, H ≠ X + 1 + 1 → W.heap[H]? = wr.heap[H]? := fun H hH => by
    rw [hW]
    exact (Below.heap_setCell _ _ _ _ hH).trans ((Below.heap_setCell _ _ _ _ hH).trans ((Below.heap_setCell _ _ _ _ hH).trans ((Below.heap_setCell _ _ _ _ hH).trans (Below.heap_setCell _ _ _ _ hH))))
  obtain ⟨k0, k1, k2, k3, k4, _⟩ := h.x.cells
  have g2 := h.g.cells.2.2.1
  have eX := e X (by omega)
  have eG := e (X + 1) (by omega)
  exact ⟨(World.cell?_of_block (a := ⟨X, 0, none⟩) eX).trans k0, (World.cell?_of_block (a := ⟨X, 1, none⟩) eX).trans k1, (World.cell?_of_block (a := ⟨X, 2, none⟩) eX).trans k2, (World.cell?_of_block (a := ⟨X, 3, none⟩) eX).trans k3, (World.cell?_of_block (a := ⟨X, 4, none⟩) eX).trans k4, (World.cell?_of_block (a := ⟨X + 1, 2, none⟩) eG).trans g2, (World.cell?_of_block (a := ⟨ab, ao, none⟩) (e ab hn)).trans hc⟩
theorem int_off {w : World} {H : Nat} (h : Five w H (.slice none 0 0) (.slice none 0 0) (.slice none 0 0) (.int .i64 0) (.bool false)) {ab ao : Nat} {x y : Int} (c0 : w.cell? ⟨ab, ao, none⟩ = some (.int .i64 x)) (c1 : w.cell? ⟨ab, ao + 1, none⟩ = some (.int .i64 y)) : ab ≠ H := by
  rintro rfl
  unfold Five at h
  rw [Lib.cell_of_heap h] at c0 c1
  have h5 : ao < 5 := (Array.getElem?_eq_some_iff.1 c0).1
  match ao, h5 with
  | 0, _ => simp at c0
  | 1, _ => simp at c0
  | 2, _ => simp at c0
  | 3, _ => simp at c1
  | 4, _ => simp at c0
theorem second_int {w : World} {ab ao h0 : Nat} {Lt : List Nat} (hcs : ∀ i, (h : i < ((h0 :: Lt).map natV).length) → w.cell? ⟨ab, ao + i, none⟩ = some ((h0 :: Lt).map natV)[i]) (hl : 0 < Lt.length) : ∃ y : Int, w.cell? ⟨ab, ao + 1, none⟩ = some (.int .i64 y) := by
  have := hcs 1 (by simp; exact hl)
  exact ⟨_, by rw [this]; simp [natV]; rfl⟩
theorem add_is {v : WalV} {d : DSt} {r : List UInt8} {N m h0 : Nat} {L Lt : List Nat} {PH : List UInt8} {D2 : DSt} {C2 : Int} (hE : addBad v d.seen.length r = 0) (hN : d.seen.length = N) (hm : N - 2 * v.slot = m) (hL : aroundL v.slot m v.next (secs r.length + 2) = L) (hLt : L = h0 :: Lt) (hP : padB (recHead v.num r.length) = PH) (hD : d.storeD (partsAt r Lt) (h0, PH) = D2) (hC : (if d.storeE (partsAt r Lt) (h0, PH) = true then 0 else 7) = C2) : addD v d r = D2 ∧ addE v d r = C2 := by
  have hb := parts_around v d.seen.length r
  have hh := parts_head v d.seen.length (secs r.length + 1)
  rw [hN, hm] at hb hh
  have hL' : aroundL v.slot m v.next (secs r.length + 1 + 1) = L := hL
  rw [hL, hLt, List.tail_cons] at hb
  rw [hL', hLt] at hh
  have hh2 : h0 = 2 * v.slot + v.place N 0 := by simpa using hh
  obtain ⟨e1, e2⟩ := store_pad d (partsAt r Lt) h0 (recHead_short v.num r.length)
  rw [hP] at e1 e2
  have hhd : headR v d.seen.length r = (h0, recHead v.num r.length) := by unfold headR; rw [hN, hh2]
  have hbd : bodyR v d.seen.length r = partsAt r Lt := by rw [hN, hb]
  unfold addD addE
  rw [if_pos hE, if_pos hE, hhd, hbd, ← e1, ← e2]
  exact ⟨hD, hC⟩
theorem wrap_few6 {n : Int} (h0 : -10000000 ≤ n) (h1 : n ≤ 10000000) : wrap64 n = n := by unfold wrap64; omega

set_option maxHeartbeats 8000000 in
set_option maxRecDepth 100000 in
theorem DocAppend_any {w : World} {d : DSt} (ho : d.Ok) {fA aA wA : Option Addr} {fc ac yc : Nat} (h : RefAt w w.heap.size d.firm d.loose fA aA ac wA yc) (hl : d.loose.length ≤ 500000) (v : WalV) (G : Int) (ST : ByteArray) (RV : Value) (r : List UInt8) (hr : r.length ≤ 100000) (hN : d.seen.length ≤ 4096)
    (hs : 2 ≤ v.slot) (hf : 2 * v.slot + 3 ≤ d.seen.length) (hx : v.next < d.seen.length - 2 * v.slot) (hu : v.used ≤ 1000000) (hn0 : 0 ≤ v.num) (hn1 : v.num ≤ 9223372036854775000) (hd : v.down = false) :
    Calls Tryz.prog 20 #[.agg #[.slice fA d.firm.length fc, .slice aA d.loose.length ac, .slice wA d.loose.length yc, .int .i64 d.leftR, .bool d.off], .int .i64 v.slot, .agg #[.int .i64 G, .int .i64 v.next, .int .i64 v.num, .int .i64 v.used, .string ST, RV], .string (str r)] w (RefRet fA aA wA (addD v d r) (addE v d r) w) := by
  have HS := Lib.hid (app_first (G := G) (P := v.next) (K := v.num) (U := v.used) (ST := ST) (RV := RV) (fc := fc) (wc := yc) ho h)
  obtain ⟨N, hNN⟩ : ∃ N, d.seen.length = N := ⟨_, rfl⟩
  have hfl : d.firm.length = N := by have := ho.len; omega
  have HFl := Lib.hid hfl
  obtain ⟨m, hm⟩ : ∃ m, N - 2 * v.slot = m := ⟨_, rfl⟩
  have hmi : (d.firm.length : Int) - 2 * (v.slot : Int) = (m : Int) := by rw [hfl]; omega
  have hmn : (N : Int) - 2 * (v.slot : Int) = (m : Int) := by omega
  have HMi := Lib.hid hmi
  have HMn := Lib.hid hmn
  have HNN := Lib.hid hNN
  have hm3 : 3 ≤ m := by omega
  have hm40 : m ≤ 4096 := by omega
  have hfb : d.firm.length ≤ 4096 := by omega
  have hsb : v.slot ≤ 2048 := by omega
  have hsz : (str r).size = r.length := str_size r
  go_enter Tryz.func20, Tryz.ntmps20
  obtain ⟨X, hX⟩ : ∃ X, w.heap.size = X := ⟨_, rfl⟩
  obtain ⟨wr, hwr⟩ : ∃ wr, (((w.alloc (.cells #[.slice fA d.firm.length fc, .slice aA d.loose.length ac, .slice wA d.loose.length yc, .int .i64 d.leftR, .bool d.off] 30)).alloc (.cells #[.int .i64 G, .int .i64 v.next, .int .i64 v.num, .int .i64 v.used, .string ST, RV] 38)).alloc (.cells #[.slice none 0 0, .slice none 0 0, .slice none 0 0, .int .i64 0, .bool false] 30)) = wr := ⟨_, rfl⟩
  have HWr := Lib.hid hwr
  rw [hwr] at HS
  have hB5 : addBad v N r = 5 → addE v d r = 5 ∧ addD v d r = d ∧ addV v d r = v := fun e => add_bad (by rw [hNN]; exact e) (by omega)
  have hB6 : addBad v N r = 6 → addE v d r = 6 ∧ addD v d r = d ∧ addV v d r = v := fun e => add_bad (by rw [hNN]; exact e) (by omega)
  have HB5 := Lib.hid hB5
  have HB6 := Lib.hid hB6
  rw [hNN] at hf hx hN
  have hxm : v.next < m := by omega
  have HMe := Lib.hid hm
  clear hB5 hB6 hwr hmi hmn hfl hNN hm
  go_upto_region 2 with fail
  rw [HWr.out]
  clear HWr
  rw [HMi.out]
  rw [hX] at HS
  try rw [hX]
  have HXs : Hid (w.heap.size = X) := Lib.hid hX
  clear hX
  by_cases h5 : 32 * ((m : Int) - 2) < (r.length : Int)
  · have HE := Lib.hid (HB5.out (by unfold addBad; rw [hd, if_neg (by simp), if_pos (by rw [HMn.out]; exact h5)]))
    have h5d : decide (32 * ((m : Int) - 2) < (r.length : Int)) = true := decide_eq_true h5
    clear HB5 HB6
    have HRF := Lib.hid (HS.out.ret (code := 5) (fc' := fc) (wc' := yc) (Below.refl _ _) HS.out.ref (fun _ _ e => .inr e))
    have HR := Lib.hid HRF.out.1
    have HV := Lib.hid HRF.out.2
    obtain ⟨x0, x1, x2, x3, x4, x5⟩ := HS.out.x.cells
    obtain ⟨r0, r1, r2, r3, r4, r5⟩ := HS.out.r.cells
    clear HRF
    go_wp2_with fail
    clear x0 x1 x2 x3 x4 x5 r0 r1 r2 r3 r4 r5
    generalize (((((wr.setCell ⟨X + 1 + 1, 0, none⟩ (.slice fA d.firm.length fc)).setCell ⟨X + 1 + 1, 1, none⟩ (.slice aA d.loose.length ac)).setCell ⟨X + 1 + 1, 2, none⟩ (.slice wA d.loose.length yc)).setCell ⟨X + 1 + 1, 3, none⟩ (.int .i64 d.leftR)).setCell ⟨X + 1 + 1, 4, none⟩ (.bool d.off)) = w9 at *
    obtain ⟨r0, r1, r2, r3, r4, r5⟩ := HV.out.cells
    refine bodyPost_ret (v := .tuple #[.agg #[.slice fA d.firm.length fc, .slice aA d.loose.length ac, .slice wA d.loose.length yc, .int .i64 d.leftR, .bool d.off], .int .i64 5]) (by simp [results, Tryz.results20, go_sem, r0, r1, r2, r3, r4]) rfl ?_
    rw [HE.out.1, HE.out.2.1]
    exact HR.out
  · have h5d : decide (32 * ((m : Int) - 2) < (r.length : Int)) = false := decide_eq_false h5
    have hsc : secs r.length ≤ 3125 := secs_le (by omega)
    have HC : Hid (∀ p : LatW wr, Calls Tryz.prog 39 #[.int .i64 r.length] p.wd fun e w' => e = .returned (.int .i64 (secs r.length : Nat)) ∧ p.wd = w') := Lib.hid (fun p => DocCeil_any r.length (by omega) p.wd)
    have H5 := Lib.hid h5
    have hsc0 : (0 : Int) ≤ (secs r.length : Int) := Int.natCast_nonneg _
    have hv1 : IntKind.i64.wrap ((v.used : Int) + 1) = (v.used : Int) + 1 := by rw [IntKind.wrap_i64]; omega
    have hv2 : IntKind.i64.wrap ((v.used : Int) + 1 + (secs r.length : Int)) = (v.used : Int) + 1 + (secs r.length : Int) := by rw [IntKind.wrap_i64]; omega
    have hv3 : IntKind.i64.wrap ((v.used : Int) + 1 + (secs r.length : Int) + 1) = (v.used : Int) + 1 + (secs r.length : Int) + 1 := by rw [IntKind.wrap_i64]; omega
    go_upto_region 4 with fail
    have g3 := fun p : LatW wr => (HS.out.later p.bel).g.cells.2.2.2.1
    have g2 := fun p : LatW wr => (HS.out.later p.bel).g.cells.2.2.1
    by_cases h6 : (m : Int) < (v.used : Int) + 1 + (secs r.length : Int) + 1
    · have HE := Lib.hid (HB6.out (by unfold addBad; rw [hd, if_neg (by simp), if_neg (by rw [HMn.out]; exact H5.out), if_pos (.inl (by rw [HMn.out]; omega))]))
      have h6d : decide ((m : Int) < (v.used : Int) + 1 + (secs r.length : Int) + 1) = true := decide_eq_true h6
      clear HB5 HB6
      refine wp_region_later (by kernel_rfl) (by kernel_rfl) ?_
      repeat (first | go_big_quiet_skip | quiet_step (first | (go_at_call 39; exact Calls.later_same (HC.out _))) | (go_big_quiet_want; go_big_quiet_op; go_big_quiet_on))
      refine wpQuiet_nil ?_
      intro w9 hw9
      obtain ⟨p9, hw9'⟩ := hw9
      subst hw9'
      replace HS := Lib.hid (HS.out.later p9.bel)
      obtain ⟨wq, hwq⟩ : ∃ wq, p9.wd = wq := ⟨_, rfl⟩
      rw [hwq] at HS ⊢
      clear hwq p9 g2 g3 HC
      have HRF := Lib.hid (HS.out.ret (code := 6) (fc' := fc) (wc' := yc) (Below.refl _ _) HS.out.ref (fun _ _ e => .inr e))
      have HR := Lib.hid HRF.out.1
      have HV := Lib.hid HRF.out.2
      obtain ⟨x0, x1, x2, x3, x4, x5⟩ := HS.out.x.cells
      obtain ⟨r0, r1, r2, r3, r4, r5⟩ := HS.out.r.cells
      clear HRF
      go_wp2_with fail
      clear x0 x1 x2 x3 x4 x5 r0 r1 r2 r3 r4 r5
      generalize (((((wq.setCell ⟨X + 1 + 1, 0, none⟩ (.slice fA d.firm.length fc)).setCell ⟨X + 1 + 1, 1, none⟩ (.slice aA d.loose.length ac)).setCell ⟨X + 1 + 1, 2, none⟩ (.slice wA d.loose.length yc)).setCell ⟨X + 1 + 1, 3, none⟩ (.int .i64 d.leftR)).setCell ⟨X + 1 + 1, 4, none⟩ (.bool d.off)) = w9 at *
      obtain ⟨r0, r1, r2, r3, r4, r5⟩ := HV.out.cells
      refine bodyPost_ret (v := .tuple #[.agg #[.slice fA d.firm.length fc, .slice aA d.loose.length ac, .slice wA d.loose.length yc, .int .i64 d.leftR, .bool d.off], .int .i64 6]) (by simp [results, Tryz.results20, go_sem, r0, r1, r2, r3, r4]) rfl ?_
      rw [HE.out.1, HE.out.2.1]
      exact HR.out
    · have h6d : decide ((m : Int) < (v.used : Int) + 1 + (secs r.length : Int) + 1) = false := decide_eq_false h6
      by_cases h7 : 1099511627776 < v.num
      · have HE := Lib.hid (HB6.out (by unfold addBad; rw [hd, if_neg (by simp), if_neg (by rw [HMn.out]; exact H5.out), if_pos (.inr h7)]))
        have h7d : decide (1099511627776 < v.num) = true := decide_eq_true h7
        clear HB5 HB6
        refine wp_region_later (by kernel_rfl) (by kernel_rfl) ?_
        repeat (first | go_big_quiet_skip | quiet_step (first | (go_at_call 39; exact Calls.later_same (HC.out _))) | (go_big_quiet_want; go_big_quiet_op; go_big_quiet_on))
        refine wpQuiet_nil ?_
        intro w9 hw9
        obtain ⟨p9, hw9'⟩ := hw9
        subst hw9'
        replace HS := Lib.hid (HS.out.later p9.bel)
        obtain ⟨wq, hwq⟩ : ∃ wq, p9.wd = wq := ⟨_, rfl⟩
        rw [hwq] at HS ⊢
        clear hwq p9 g2 g3 HC
        have HRF := Lib.hid (HS.out.ret (code := 6) (fc' := fc) (wc' := yc) (Below.refl _ _) HS.out.ref (fun _ _ e => .inr e))
        have HR := Lib.hid HRF.out.1
        have HV := Lib.hid HRF.out.2
        obtain ⟨x0, x1, x2, x3, x4, x5⟩ := HS.out.x.cells
        obtain ⟨r0, r1, r2, r3, r4, r5⟩ := HS.out.r.cells
        clear HRF
        go_wp2_with fail
        clear x0 x1 x2 x3 x4 x5 r0 r1 r2 r3 r4 r5
        generalize (((((wq.setCell ⟨X + 1 + 1, 0, none⟩ (.slice fA d.firm.length fc)).setCell ⟨X + 1 + 1, 1, none⟩ (.slice aA d.loose.length ac)).setCell ⟨X + 1 + 1, 2, none⟩ (.slice wA d.loose.length yc)).setCell ⟨X + 1 + 1, 3, none⟩ (.int .i64 d.leftR)).setCell ⟨X + 1 + 1, 4, none⟩ (.bool d.off)) = w9 at *
        obtain ⟨r0, r1, r2, r3, r4, r5⟩ := HV.out.cells
        refine bodyPost_ret (v := .tuple #[.agg #[.slice fA d.firm.length fc, .slice aA d.loose.length ac, .slice wA d.loose.length yc, .int .i64 d.leftR, .bool d.off], .int .i64 6]) (by simp [results, Tryz.results20, go_sem, r0, r1, r2, r3, r4]) rfl ?_
        rw [HE.out.1, HE.out.2.1]
        exact HR.out
      · have h7d : decide (1099511627776 < v.num) = false := decide_eq_false h7
        have HE : Hid (addBad v d.seen.length r = 0) := Lib.hid (by rw [HNN.out]; unfold addBad; rw [hd, if_neg (by simp), if_neg (by rw [HMn.out]; exact H5.out), if_neg (by rw [HMn.out]; omega)])
        clear HB5 HB6
        refine wp_region_later (by kernel_rfl) (by kernel_rfl) ?_
        repeat (first | go_big_quiet_skip | quiet_step (first | (go_at_call 39; exact Calls.later_same (HC.out _))) | (go_big_quiet_want; go_big_quiet_op; go_big_quiet_on))
        refine wpQuiet_nil ?_
        intro w9 hw9
        obtain ⟨p9, hw9'⟩ := hw9
        subst hw9'
        replace HS := Lib.hid (HS.out.later p9.bel)
        obtain ⟨wq, hwq⟩ : ∃ wq, p9.wd = wq := ⟨_, rfl⟩
        rw [hwq] at HS ⊢
        clear hwq p9 g2 g3 HC
        have HC : Hid (∀ p : LatW wq, Calls Tryz.prog 39 #[.int .i64 r.length] p.wd fun e w' => e = .returned (.int .i64 (secs r.length : Nat)) ∧ p.wd = w') := Lib.hid (fun p => DocCeil_any r.length (by omega) p.wd)
        have hfm : d.firm.length = 2 * v.slot + m := by have h1 := HFl.out; have h2 := HMe.out; omega
        have HAr : Hid (∀ p : LatW wq, Calls Tryz.prog 40 #[.agg #[.slice fA d.firm.length fc, .slice aA d.loose.length ac, .slice wA d.loose.length yc, .int .i64 d.leftR, .bool d.off], .int .i64 v.slot, .int .i64 v.next, .int .i64 ((secs r.length : Int) + 2)] p.wd fun e w' => ∃ A c, e = .returned (.slice A (secs r.length + 2) c) ∧ Lies w' w'.heap.size A ((aroundL v.slot m v.next (secs r.length + 2)).map natV) ∧ secs r.length + 2 ≤ c ∧ Below p.wd.heap.size p.wd w') := Lib.hid (fun p => DocAround_any d.firm.length v.slot m v.next (secs r.length + 2) fc fA _ _ _ _ hfb hfm (by omega) hxm (by omega) p.wd)
        have hv4 : IntKind.i64.wrap ((secs r.length : Int) + 2) = (secs r.length : Int) + 2 := by rw [IntKind.wrap_i64]; omega
        clear hfm
        go_upto_region 6 with fail
        go_cut [11] from 41 to 49 (fun v11 wx => ∃ (Aa : Option Addr) (ca : Nat), v11 = .slice Aa (secs r.length + 2) ca ∧ secs r.length + 2 ≤ ca ∧ Hid (Lies wx wx.heap.size Aa ((aroundL v.slot m v.next (secs r.length + 2)).map natV)) ∧ Hid (AppSt w wx X d fA fc aA ac wA yc G v.next v.num v.used ST RV))
        case first =>
          have x0 := fun p : LatW wq => (HS.out.later p.bel).x.cells.1
          have x1 := fun p : LatW wq => (HS.out.later p.bel).x.cells.2.1
          have x2 := fun p : LatW wq => (HS.out.later p.bel).x.cells.2.2.1
          have x3 := fun p : LatW wq => (HS.out.later p.bel).x.cells.2.2.2.1
          have x4 := fun p : LatW wq => (HS.out.later p.bel).x.cells.2.2.2.2.1
          have g1 := fun p : LatW wq => (HS.out.later p.bel).g.cells.2.1
          obtain ⟨zd, hzd⟩ := LatW.drawn (⟨wq, Below.refl _ _⟩ : LatW wq)
          have H5 := Lib.hid trivial
          have H6 := Lib.hid trivial
          go_region_held3 (fun w' => w'.cell? ⟨X, 0, none⟩ = some (.slice fA d.firm.length fc) ∧ w'.cell? ⟨X, 1, none⟩ = some (.slice aA d.loose.length ac) ∧ w'.cell? ⟨X, 2, none⟩ = some (.slice wA d.loose.length yc) ∧ w'.cell? ⟨X, 3, none⟩ = some (.int .i64 d.leftR) ∧ w'.cell? ⟨X, 4, none⟩ = some (.bool d.off) ∧ w'.cell? ⟨X + 1, 1, none⟩ = some (.int .i64 v.next)) (first | with_reducible exact ⟨x0 z7, x1 z7, x2 z7, x3 z7, x4 z7, g1 z7⟩ | with_reducible exact ⟨x0 zd, x1 zd, x2 zd, x3 zd, x4 zd, g1 zd⟩ | (rw [hzd]; with_reducible exact ⟨x0 zd, x1 zd, x2 zd, x3 zd, x4 zd, g1 zd⟩)) (first | (go_at_call 39; (try rw [hzd]); refine (HC.out _).mono ?_; rintro e w9 ⟨rfl, rfl⟩) | (go_at_call 40; (try rw [hzd]); refine (HAr.out _).mono ?_; rintro e w9 ⟨Aa, ca, rfl, hla, hca, hb9⟩; replace H5 := Lib.hid hla; replace H6 := Lib.hid hca; obtain ⟨z7, hz7⟩ := LatW.later _ hb9; subst hz7; clear hb9 hla hca))
          all_goals
            go_wp2_with fail
            go_meet
            case rel => exact ⟨Aa, ca, rfl, H6.out, H5.out, Lib.hid (HS.out.later z7.bel)⟩
        case rest =>
          clear HAr HC hv4 HS
          obtain ⟨Aa, ca, rfl, hca, HLa, HS⟩ := hcut
          obtain ⟨wa, hwa⟩ : ∃ wa, wa = wc := ⟨_, rfl⟩
          subst hwa
          have hlen2 : (aroundL v.slot m v.next (secs r.length + 2)).length = secs r.length + 2 := aroundL_length _ _ _ _
          obtain ⟨L, hL⟩ : ∃ L, aroundL v.slot m v.next (secs r.length + 2) = L := ⟨_, rfl⟩
          have HL := Lib.hid hL
          have hall : ∀ x ∈ L, x < N := fun x hx => by
            rw [← hL] at hx
            unfold aroundL at hx
            obtain ⟨j, _, rfl⟩ := List.mem_map.1 hx
            have := Nat.mod_lt (v.next + j) (show 0 < m by omega)
            have := HMe.out
            omega
          rw [hL] at HLa hlen2
          clear hL
          obtain ⟨h0, Lt, hLt⟩ : ∃ h0 Lt, L = h0 :: Lt := by
            cases L with
            | nil => simp at hlen2
            | cons x l => exact ⟨x, l, rfl⟩
          have HLt := Lib.hid hLt
          rw [hLt] at HLa
          have hltl : Lt.length = secs r.length + 1 := by rw [hLt] at hlen2; simpa using hlen2
          have hh0 : h0 < N := hall h0 (by rw [hLt]; simp)
          have hallt : ∀ x ∈ Lt, x < N := fun x hx => hall x (by rw [hLt]; simp [hx])
          obtain ⟨ab, ao, hAa, hab, hcs⟩ := HLa.out.at_ (by simp)
          subst hAa
          have hat0 : wa.cell? ⟨ab, ao, none⟩ = some (.int .i64 h0) := by
            have := hcs 0 (by simp)
            simpa [natV] using this
          have HAt0 := Lib.hid hat0
          obtain ⟨y1, hat1⟩ : ∃ y : Int, wa.cell? ⟨ab, ao + 1, none⟩ = some (.int .i64 y) := second_int hcs (by rw [hltl]; exact Nat.succ_pos _)
          have HAt1 := Lib.hid hat1
          have at0 : ∀ p : LatW wa, p.wd.cell? ⟨ab, ao, none⟩ = some (.int .i64 h0) := fun p => p.cell HAt0.out hab
          have hLtl : Lies wa wa.heap.size (some ⟨ab, ao + 1, none⟩) (Lt.map natV) := by
            refine .inr ⟨ab, ao + 1, rfl, hab, fun i hi => ?_⟩
            have := hcs (i + 1) (by simpa using hi)
            rw [show ao + 1 + i = ao + (i + 1) from by omega]
            simpa using this
          have HLtl := Lib.hid hLtl
          have hX2 : X + 1 + 1 < wa.heap.size := heap_lt HS.out.r
          have HRh : Hid (∀ p : LatW wa, Calls Tryz.prog 38 #[.int .i64 v.num, .int .i64 r.length] p.wd fun e w' => e = .returned (.string (str (padB (recHead v.num r.length)))) ∧ Below p.wd.heap.size p.wd w') := Lib.hid (fun p => DocRecordHead_any v.num r.length p.wd (by omega) (by omega))
          have hps := padB_length (recHead_short v.num r.length)
          have HPu : Hid (∀ p : LatW wa, Calls Tryz.prog 46 #[.agg #[.slice fA d.firm.length fc, .slice aA d.loose.length ac, .slice wA d.loose.length yc, .int .i64 d.leftR, .bool d.off], .string (str r), .slice (some ⟨ab, ao + 1, none⟩) (secs r.length + 1) (ca - 1), .int .i64 h0, .string (str (padB (recHead v.num r.length)))] p.wd (RefRet fA aA wA (d.storeD (partsAt r Lt) (h0, padB (recHead v.num r.length))) (if d.storeE (partsAt r Lt) (h0, padB (recHead v.num r.length)) = true then 0 else 7) p.wd)) := Lib.hid (fun p =>
            DocPuts_any ho (HS.out.later p.bel).ref r Lt hltl (HLtl.out.next p.bel) (by rw [HNN.out]; exact hallt) (by rw [HNN.out]; exact hh0) (padB (recHead v.num r.length)) (by omega) (by omega) (by omega) (by omega))
          obtain ⟨PH, hPH⟩ : ∃ PH, padB (recHead v.num r.length) = PH := ⟨_, rfl⟩
          have HPH := Lib.hid hPH
          rw [hPH] at HRh HPu
          obtain ⟨D2, hD2⟩ : ∃ D2, d.storeD (partsAt r Lt) (h0, PH) = D2 := ⟨_, rfl⟩
          obtain ⟨C2, hC2⟩ : ∃ C2 : Int, (if d.storeE (partsAt r Lt) (h0, PH) = true then 0 else 7) = C2 := ⟨_, rfl⟩
          have HD2 := Lib.hid hD2
          have HC2 := Lib.hid hC2
          rw [hD2, hC2] at HPu
          have hca1 : ¬ ca = 1 := by omega
          have HLl := Lib.hid hltl
          clear hat1 hPH hD2 hC2 hLt hlen2 hall hcs hat0 hLtl hps hltl hallt hh0
          have x0 := fun p : LatW wa => (HS.out.later p.bel).x.cells.1
          have x1 := fun p : LatW wa => (HS.out.later p.bel).x.cells.2.1
          have x2 := fun p : LatW wa => (HS.out.later p.bel).x.cells.2.2.1
          have x3 := fun p : LatW wa => (HS.out.later p.bel).x.cells.2.2.2.1
          have x4 := fun p : LatW wa => (HS.out.later p.bel).x.cells.2.2.2.2.1
          have g2 := fun p : LatW wa => (HS.out.later p.bel).g.cells.2.2.1
          obtain ⟨zd, hzd⟩ := LatW.drawn (⟨wa, Below.refl _ _⟩ : LatW wa)
          have H5 := Lib.hid trivial
          have hab2 : ab ≠ X + 1 + 1 := int_off HS.out.r HAt0.out HAt1.out
          have hi1 : (1 : Int) ≤ (secs r.length : Int) + 2 := by omega
          have hi2 : (secs r.length : Int) + 2 ≤ (ca : Int) := by omega
          have hi3 : (0 : Int) < (secs r.length : Int) + 2 := by omega
          have hi4 : 1 ≤ secs r.length + 2 := by omega
          have hi5 : 0 < secs r.length + 2 := by omega
          have HEq := Lib.hid (add_is HE.out HNN.out HMe.out HL.out HLt.out HPH.out HD2.out HC2.out)
          go_upto_region 7 with fail
          go_region_held3 (fun w' => w'.cell? ⟨X, 0, none⟩ = some (.slice fA d.firm.length fc) ∧ w'.cell? ⟨X, 1, none⟩ = some (.slice aA d.loose.length ac) ∧ w'.cell? ⟨X, 2, none⟩ = some (.slice wA d.loose.length yc) ∧ w'.cell? ⟨X, 3, none⟩ = some (.int .i64 d.leftR) ∧ w'.cell? ⟨X, 4, none⟩ = some (.bool d.off) ∧ w'.cell? ⟨X + 1, 2, none⟩ = some (.int .i64 v.num) ∧ w'.cell? ⟨ab, ao, none⟩ = some (.int .i64 h0)) (first | with_reducible exact ⟨x0 z7, x1 z7, x2 z7, x3 z7, x4 z7, g2 z7, at0 z7⟩ | with_reducible exact ⟨x0 z6, x1 z6, x2 z6, x3 z6, x4 z6, g2 z6, at0 z6⟩ | with_reducible exact ⟨x0 zd, x1 zd, x2 zd, x3 zd, x4 zd, g2 zd, at0 zd⟩ | (rw [hzd]; with_reducible exact ⟨x0 zd, x1 zd, x2 zd, x3 zd, x4 zd, g2 zd, at0 zd⟩) | exact (HS.out.later z6.bel).see (at0 z6) hab2 _ _ _ _ _ rfl) (first | (go_at_call 38; (try rw [hzd]); refine (HRh.out _).mono ?_; rintro e w9 ⟨rfl, hb9⟩; obtain ⟨z7, hz7⟩ := LatW.later _ hb9; subst hz7; clear hb9) | (go_at_call 46; refine (HPu.out z7).mono ?_; rintro e w9 ⟨fA', fc', aA', ac', wA', wc', rfl, hr9, hb9, hf9⟩; have HRt := Lib.hid ((HS.out.later z7.bel).ret (code := C2) (fc' := fc') (wc' := wc') hb9 hr9 hf9); obtain ⟨z6, hz6⟩ := LatW.later z7 hb9; subst hz6; clear hb9 hr9 hf9; obtain ⟨t0, t1, t2, t3, t4, t5⟩ := (HS.out.later z6.bel).r.cells))
          all_goals
            have HR := Lib.hid HRt.out.1
            have HV := Lib.hid HRt.out.2
            clear HRt x0 x1 x2 x3 x4 g2 at0 t0 t1 t2 t3 t4 t5
            go_wp2_with fail
            generalize (((((z6.wd.setCell ⟨X + 1 + 1, 0, none⟩ (.slice fA' D2.firm.length fc')).setCell ⟨X + 1 + 1, 1, none⟩ (.slice aA' D2.loose.length ac')).setCell ⟨X + 1 + 1, 2, none⟩ (.slice wA' D2.loose.length wc')).setCell ⟨X + 1 + 1, 3, none⟩ (.int .i64 D2.leftR)).setCell ⟨X + 1 + 1, 4, none⟩ (.bool D2.off)) = w8 at *
            obtain ⟨r0, r1, r2, r3, r4, r5⟩ := HV.out.cells
            refine bodyPost_ret (v := .tuple #[.agg #[.slice fA' D2.firm.length fc', .slice aA' D2.loose.length ac', .slice wA' D2.loose.length wc', .int .i64 D2.leftR, .bool D2.off], .int .i64 C2]) (by simp [results, Tryz.results20, go_sem, r0, r1, r2, r3, r4]) rfl ?_
            rw [HEq.out.1, HEq.out.2]
            exact HR.out
end Go.Proofs.YtlelfakememckaaGreatDoor
