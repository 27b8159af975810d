/- The walk of DiskPlays. -/
import Derived.Test.YtocafhaakeflbaaDiskJ
import Derived.Test.YtocafhaakeflbaaDiskSomeP
import Derived.Deep.CutRange
import Derived.StillTailTactics
namespace Go.Proofs.Ytocafhaakeflbaa
open Go.RowKit

/-- A disk and the document's disk, both holding d: one at block a, the other's struct at block X. -/
structure PlaySt (W wr : World) (F : Nat → Prop) (a X n : Nat) (d : DSt) (fA : Option Addr) (fc : Nat) (aA : Option Addr) (ac : Nat) (wA : Option Addr) (wc : Nat) : Prop where
  disk : IsDisk wr F a d
  tru : d.Tru
  ref : RefAt wr wr.heap.size d.firm d.loose fA aA ac wA wc
  off : RefOff F fA aA wA
  x : Five wr X (.slice fA d.firm.length fc) (.slice aA d.loose.length ac) (.slice wA d.loose.length wc) (.int .i64 d.leftR) (.bool d.off)
  xF : ¬ F X
  xr : ∀ b off, (fA = some ⟨b, off, none⟩ ∨ aA = some ⟨b, off, none⟩ ∨ wA = some ⟨b, off, none⟩) → b ≠ X
  xW : W.heap.size ≤ X
  new : ∀ k, F k → W.heap.size ≤ k
  bel : Below W.heap.size W wr
  size : d.seen.length = n

def PlayAt (W : World) (k n a X : Nat) (wr : World) : Prop := ∃ F d fA fc aA ac wA wc, PlaySt W wr F a X n d fA fc aA ac wA wc ∧ d.loose.length ≤ k

theorem PlaySt.drew {W wr : World} {F : Nat → Prop} {a X n : Nat} {d : DSt} {fA aA wA : Option Addr} {fc ac wc : Nat} (h : PlaySt W wr F a X n d fA fc aA ac wA wc) : PlaySt W wr.drew F a X n d fA fc aA ac wA wc := by
  have hb : Below wr.heap.size wr wr.drew := (Below.refl _ _).drew
  exact ⟨h.disk.below hb, h.tru, h.ref.next hb, h.off, h.x, h.xF, h.xr, h.xW, h.new, h.bel.drew, h.size⟩

theorem actS_tru {d : DSt} (h : d.Tru) (x : ActV) : (actS d x).Tru := by
  unfold actS
  split
  · exact h.flushD
  · split
    · exact h
    · split
      · exact h.armD _
      · split
        · exact DSt.Tru.crashD _ _
        · exact h.writeD _ _
theorem spent_len (d : DSt) : d.spent.seen.length = d.seen.length := by rw [d.spent_seen]
theorem actS_size {d : DSt} (ho : d.Ok) (x : ActV) : (actS d x).seen.length = d.seen.length := by
  unfold actS
  split
  · unfold DSt.flushD
    split
    · rfl
    · split
      · exact spent_len d
      · exact spent_len d
  · split
    · rfl
    · split
      · rfl
      · split
        · show (d.crashF _).length = _
          rw [d.crashF_length, ho.len]
        · unfold DSt.writeD
          split
          · rfl
          · split
            · show (d.spent.seen.set _ _).length = _
              rw [List.length_set, spent_len]
            · exact spent_len d
theorem actS_loose (d : DSt) (p : ActV) : (actS d p).loose.length ≤ d.loose.length + 1 := by
  unfold actS
  split
  · have := flushD_loose d; omega
  · split
    · omega
    · split
      · exact Nat.le_succ _
      · split
        · exact Nat.zero_le _
        · exact writeD_loose d _ _

/-- Behind act: its disk lies at block Y, the old one still at X; and what there is when it is laid over. -/
def CutAt (W : World) (k n a X : Nat) (y : Value) (wc : World) : Prop :=
  ∃ (Y N M : Nat) (fA' : Option Addr) (fc' : Nat) (aA' : Option Addr) (ac' : Nat) (wA' : Option Addr) (wc' : Nat) (L : Int) (g : Bool) (x0 x1 x2 x3 x4 : Value), y = .pointer (some ⟨Y, 0, none⟩) ∧
    Five wc Y (.slice fA' N fc') (.slice aA' M ac') (.slice wA' M wc') (.int .i64 L) (.bool g) ∧ Five wc X x0 x1 x2 x3 x4 ∧
    PlayAt W (k + 1) n a X (((((wc.setCell ⟨X, 0, none⟩ (.slice fA' N fc')).setCell ⟨X, 1, none⟩ (.slice aA' M ac')).setCell ⟨X, 2, none⟩ (.slice wA' M wc')).setCell ⟨X, 3, none⟩ (.int .i64 L)).setCell ⟨X, 4, none⟩ (.bool g))

theorem play_step {W w4 w5 : World} {F : Nat → Prop} {a X n k : Nat} {d : DSt} {x : ActV} {fA aA wA : Option Addr} {fc ac wc : Nat} {e : Ending} (h : PlaySt W w4 F a X n d fA fc aA ac wA wc) (hk : d.loose.length ≤ k) (h5 : ActRet fA aA wA w4 F a (actS d x) e w5) :
    ∃ (N M : Nat) (fA' : Option Addr) (fc' : Nat) (aA' : Option Addr) (ac' : Nat) (wA' : Option Addr) (wc' : Nat) (L : Int) (g : Bool), e = .returned (.tuple #[.agg #[.slice fA' N fc', .slice aA' M ac', .slice wA' M wc', .int .i64 L, .bool g], .bool true]) ∧
      CutAt W k n a X (.pointer (some ⟨w5.heap.size, 0, none⟩)) (w5.alloc (.cells #[.slice fA' N fc', .slice aA' M ac', .slice wA' M wc', .int .i64 L, .bool g] 35)) ∧
      (∀ (Y : Nat) (z0 z1 z2 z3 z4 : Value), Five w4 Y z0 z1 z2 z3 z4 → ¬ F Y → Y ≠ X → (∀ b off, (fA = some ⟨b, off, none⟩ ∨ aA = some ⟨b, off, none⟩ ∨ wA = some ⟨b, off, none⟩) → b ≠ Y) → W.heap.size ≤ Y → Five w5 Y z0 z1 z2 z3 z4 ∧
        CutAt W k n a X (.pointer (some ⟨Y, 0, none⟩)) (((((w5.setCell ⟨Y, 0, none⟩ (.slice fA' N fc')).setCell ⟨Y, 1, none⟩ (.slice aA' M ac')).setCell ⟨Y, 2, none⟩ (.slice wA' M wc')).setCell ⟨Y, 3, none⟩ (.int .i64 L)).setCell ⟨Y, 4, none⟩ (.bool g))) := by
  obtain ⟨fA', fc', aA', ac', wA', wc', he, hm, hr, ⟨F', hd, hF', hoff⟩, hfr⟩ := h5
  have hX : X < w4.heap.size := heap_lt h.x
  have hx5 : Five w5 X _ _ _ _ _ := (hm.block X hX h.xF).trans h.x
  have hbw : Below W.heap.size W w5 := h.bel.trans (hm.below h.bel.size h.new)
  have notF : ∀ Y, Y < w4.heap.size → ¬ F Y → ¬ F' Y := fun Y hY hn hf => by
    rcases hF' Y hf with h' | h'
    · exact hn h'
    · omega
  have hXF : ¬ F' X := notF X hX h.xF
  have far : ∀ Y, Y < w4.heap.size → (∀ b off, (fA = some ⟨b, off, none⟩ ∨ aA = some ⟨b, off, none⟩ ∨ wA = some ⟨b, off, none⟩) → b ≠ Y) → ∀ b off, (fA' = some ⟨b, off, none⟩ ∨ aA' = some ⟨b, off, none⟩ ∨ wA' = some ⟨b, off, none⟩) → b ≠ Y := fun Y hY ho b off e => by
    rcases hfr b off e with h' | h'
    · omega
    · exact ho b off h'
  have hxr := far X hX h.xr
  have fin : ∀ V : World, IsDisk V F' a (actS d x) → RefAt V V.heap.size (actS d x).firm (actS d x).loose fA' aA' ac' wA' wc' → Five V X (.slice fA d.firm.length fc) (.slice aA d.loose.length ac) (.slice wA d.loose.length wc) (.int .i64 d.leftR) (.bool d.off) → Below W.heap.size W V →
      PlayAt W (k + 1) n a X (((((V.setCell ⟨X, 0, none⟩ (.slice fA' (actS d x).firm.length fc')).setCell ⟨X, 1, none⟩ (.slice aA' (actS d x).loose.length ac')).setCell ⟨X, 2, none⟩ (.slice wA' (actS d x).loose.length wc')).setCell ⟨X, 3, none⟩ (.int .i64 (actS d x).leftR)).setCell ⟨X, 4, none⟩ (.bool (actS d x).off)) := by
    intro wc1 hd1 hr1 hx1 hb1
    refine ⟨F', actS d x, fA', fc', aA', ac', wA', wc', ⟨((((hd1.setNew5 hXF _).setNew5 hXF _).setNew5 hXF _).setNew5 hXF _).setNew5 hXF _, actS_tru h.tru x, ?_, hoff, ((((Five.set0 hx1 _).set1 _).set2 _).set3 _).set4 _, hXF, hxr, h.xW, fun q hq => (hF' q hq).elim (h.new q) (fun h' => Nat.le_trans h.bel.size h'), ((((hb1.setCell h.xW _).setCell h.xW _).setCell h.xW _).setCell h.xW _).setCell h.xW _, (actS_size h.disk.1 x).trans h.size⟩, by have := actS_loose d x; omega⟩
    refine RefAt.more (B := wc1.heap.size) ?_ (by simp)
    exact ((((hr1.setOff hxr _).setOff hxr _).setOff hxr _).setOff hxr _).setOff hxr _
  refine ⟨_, _, fA', fc', aA', ac', wA', wc', _, _, he, ?_, fun Y z0 z1 z2 z3 z4 hY hYF hYX hYr hYW => ?_⟩
  · have hba : Below w5.heap.size w5 (w5.alloc (.cells #[.slice fA' (actS d x).firm.length fc', .slice aA' (actS d x).loose.length ac', .slice wA' (actS d x).loose.length wc', .int .i64 (actS d x).leftR, .bool (actS d x).off] 35)) := (Below.refl _ _).alloc (Nat.le_refl _) _
    exact ⟨_, _, _, _, _, _, _, _, _, _, _, _, _, _, _, _, rfl, Five.new _ _ _ _ _ _, hx5.alloc _, fin _ (hd.below hba) (hr.next hba) (hx5.alloc _) (hbw.trans (hba.mono hbw.size))⟩
  · have hYl : Y < w4.heap.size := heap_lt hY
    have hY5 : Five w5 Y z0 z1 z2 z3 z4 := (hm.block Y hYl hYF).trans hY
    have hYF' := notF Y hYl hYF
    have hYr' := far Y hYl hYr
    refine ⟨hY5, _, _, _, _, _, _, _, _, _, _, _, _, _, _, _, _, rfl, ((((hY5.set0 _).set1 _).set2 _).set3 _).set4 _, ((((hx5.far (Ne.symm hYX) _).far (Ne.symm hYX) _).far (Ne.symm hYX) _).far (Ne.symm hYX) _).far (Ne.symm hYX) _, fin _ (((((hd.setNew5 hYF' _).setNew5 hYF' _).setNew5 hYF' _).setNew5 hYF' _).setNew5 hYF' _) ?_ (((((hx5.far (Ne.symm hYX) _).far (Ne.symm hYX) _).far (Ne.symm hYX) _).far (Ne.symm hYX) _).far (Ne.symm hYX) _) (((((hbw.setCell hYW _).setCell hYW _).setCell hYW _).setCell hYW _).setCell hYW _)⟩
    refine RefAt.more (B := w5.heap.size) ?_ (by simp)
    exact ((((hr.setOff hYr' _).setOff hYr' _).setOff hYr' _).setOff hYr' _).setOff hYr' _

theorem play_first {W w1 w2 : World} {a n : Nat} {F : Nat → Prop} {fA : Option Addr} {fc : Nat} (h1 : 1 ≤ n) (hd : IsDisk w1 F a (DSt.new n)) (hF : ∀ k, F k → W.heap.size ≤ k) (hb : Below W.heap.size W w1) (hr : RefAt w2 w2.heap.size (zeroL n) [] fA none 0 none 0) (hb2 : Below w1.heap.size w1 w2) (hfr : ∀ b off, fA = some ⟨b, off, none⟩ → w1.heap.size ≤ b) :
    PlayAt W 0 n a w2.heap.size (w2.alloc (.cells #[.slice fA n fc, .slice none 0 0, .slice none 0 0, .int .i64 (-1), .bool false] 35)) := by
  have hlen : (DSt.new n).firm.length = n := by simp [DSt.new]
  have hba : Below w2.heap.size w2 (w2.alloc (.cells #[.slice fA n fc, .slice none 0 0, .slice none 0 0, .int .i64 (-1), .bool false] 35)) := (Below.refl _ _).alloc (Nat.le_refl _) _
  have hr' : RefAt w2 w2.heap.size (DSt.new n).firm (DSt.new n).loose fA none 0 none 0 := hr
  have hlt := hr'.lt (by rw [hlen]; exact h1)
  have hbw : Below W.heap.size W w2 := hb.trans (hb2.mono hb.size)
  refine ⟨F, DSt.new n, fA, fc, none, 0, none, 0, ⟨(hd.below hb2).below hba, tru_new n, hr'.next hba, ?_, ?_, ?_, ?_, hbw.size, hF, hbw.trans (hba.mono hbw.size), by simp [DSt.new]⟩, by simp [DSt.new]⟩
  · rintro b off (e | e | e) hf
    · have := hfr b off e; have := hd.low b hf; omega
    · cases e
    · cases e
  · rw [hlen]
    exact Five.new _ _ _ _ _ _
  · intro hf; have := hd.low _ hf; have := hb2.size; omega
  · intro b off e; have := hlt b off e; omega

theorem RefOk.read {W wr : World} {F : Nat → Prop} {a X n : Nat} {d : DSt} {fA aA wA : Option Addr} {fc ac wc : Nat} (h : PlaySt W wr F a X n d fA fc aA ac wA wc) (hl : d.loose.length ≤ 1000001) (i : Int) :
    Calls Try.prog 19 #[.agg #[.slice fA d.firm.length fc, .slice aA d.loose.length ac, .slice wA d.loose.length wc, .int .i64 d.leftR, .bool d.off], .int .i64 i] wr fun e w' => e = .returned (.tuple #[.string (str (d.readB i)), .int .i64 (d.readE i)]) ∧ PlaySt W w' F a X n d fA fc aA ac wA wc :=
  (RefRead_any h.disk.1 h.tru h.ref hl i _).mono (fun _ _ ⟨he, hb⟩ => ⟨he, ⟨h.disk.below hb, h.tru, h.ref.next hb, h.off, h.x.below hb (heap_lt h.x), h.xF, h.xr, h.xW, h.new, h.bel.trans (hb.mono h.bel.size), h.size⟩⟩)

theorem below_drawsP (w : World) (n : Nat) : Below w.heap.size w (w.drewN n) := ⟨rfl, rfl, rfl, Nat.le_refl _, fun _ _ => rfl⟩
theorem PlaySt.drewN {W wr : World} {F : Nat → Prop} {a X n : Nat} {d : DSt} {fA aA wA : Option Addr} {fc ac wc : Nat} (h : PlaySt W wr F a X n d fA fc aA ac wA wc) (q : Nat) : PlaySt W (wr.drewN q) F a X n d fA fc aA ac wA wc := by
  have hb := below_drawsP wr q
  exact ⟨h.disk.below hb, h.tru, h.ref.next hb, h.off, h.x, h.xF, h.xr, h.xW, h.new, h.bel.trans (hb.mono h.bel.size), h.size⟩

set_option maxHeartbeats 8000000 in
set_option maxRecDepth 100000 in
theorem DiskPlays_walk (n : Int) (A : Option Addr) (len cap : Nat) (l : List ActV) (W : World) (hl : IsActs W A len l) :
    Calls Try.prog 3 #[.int .i64 n, .slice A len cap] W fun e w' => e = .returned (.bool true) ∧ Below W.heap.size W w' := by
  have hlen2 := hl.2.1
  have HL := Lib.hid hl
  have HLen := Lib.hid hl.1
  clear hl
  by_cases hbig : 24 < n ∧ n ≤ 4096
  · obtain ⟨hb1, hb2⟩ := hbig
    go_enter Try.func3, Try.ntmps3
    go_wp2_with (first
      | (go_at_call 9; refine (Read_nil _ _).mono ?_; rintro e w' ⟨rfl, rfl⟩)
      | (go_at_call 10; refine (Write_nil _ _ _).mono ?_; rintro e w' ⟨rfl, rfl⟩)
      | (go_at_call 11; refine (Flush_nil _).mono ?_; rintro e w' ⟨rfl, rfl⟩)
      | (go_at_call 12; refine (Down_nil _).mono ?_; rintro e w' ⟨rfl, rfl⟩)
      | (go_at_call 13; refine (Size_nil _).mono ?_; rintro e w' ⟨rfl, rfl⟩)
      | (go_at_call 14; refine (Loose_nil _).mono ?_; rintro e w' ⟨rfl, rfl⟩)
      | (go_at_call 15; refine (DiskAwake_any _).mono ?_; rintro e w9 ⟨rfl, hb9⟩))
    go_ret
    exact ⟨rfl, hb9⟩
  by_cases hno : n < 1 ∨ 4096 < n
  · have hb24 : 24 < n → decide (n ≤ 4096) = false := fun h => by rw [decide_eq_false_iff_not]; omega
    have HNo := Lib.hid hno
    have hc : decide (24 < n) = true ∧ decide (n ≤ 4096) = false ∨ decide (24 < n) = false := by
      by_cases h : 24 < n
      · exact .inl ⟨by simpa using h, hb24 h⟩
      · exact .inr (by simpa using h)
    clear hbig hno hb24
    rcases hc with ⟨g1, g2⟩ | g1
    all_goals
      go_enter Try.func3, Try.ntmps3
      go_wp2_with (first
        | (go_at_call 9; refine (Read_nil _ _).mono ?_; rintro e w' ⟨rfl, rfl⟩)
        | (go_at_call 10; refine (Write_nil _ _ _).mono ?_; rintro e w' ⟨rfl, rfl⟩)
        | (go_at_call 11; refine (Flush_nil _).mono ?_; rintro e w' ⟨rfl, rfl⟩)
        | (go_at_call 12; refine (Down_nil _).mono ?_; rintro e w' ⟨rfl, rfl⟩)
        | (go_at_call 13; refine (Size_nil _).mono ?_; rintro e w' ⟨rfl, rfl⟩)
        | (go_at_call 14; refine (Loose_nil _).mono ?_; rintro e w' ⟨rfl, rfl⟩)
        | (go_at_call 16; refine (New_no n _ HNo.out).mono ?_; rintro e w' ⟨rfl, rfl⟩)
        | (go_at_call 17; refine (RefNew_no n _ HNo.out).mono ?_; generalize (-1 : Int) = m1; rintro e w2 ⟨rfl, hb2⟩)
        | (go_at_call 15; refine (DiskAwake_any _).mono ?_; rintro e w9 ⟨rfl, hb9⟩))
      go_ret
      exact ⟨rfl, (hb2.alloc hb2.size _).trans (hb9.mono (by have := hb2.size; simp; omega))⟩
  obtain ⟨m, rfl⟩ := Int.eq_ofNat_of_zero_le (show 0 ≤ n by omega)
  have hm1 : 1 ≤ m := by omega
  have hm2 : m ≤ 24 := by omega
  have g1 : decide (24 < (m : Int)) = false := by rw [decide_eq_false_iff_not]; omega
  clear hbig hno
  go_enter Try.func3, Try.ntmps3
  go_wp2_with (first
    | (go_at_call 9; refine (Read_nil _ _).mono ?_; rintro e w' ⟨rfl, rfl⟩)
    | (go_at_call 10; refine (Write_nil _ _ _).mono ?_; rintro e w' ⟨rfl, rfl⟩)
    | (go_at_call 11; refine (Flush_nil _).mono ?_; rintro e w' ⟨rfl, rfl⟩)
    | (go_at_call 12; refine (Down_nil _).mono ?_; rintro e w' ⟨rfl, rfl⟩)
    | (go_at_call_of 13 (Value.pointer none); refine (Size_nil _).mono ?_; rintro e w' ⟨rfl, rfl⟩)
    | (go_at_call 14; refine (Loose_nil _).mono ?_; rintro e w' ⟨rfl, rfl⟩))
  refine (New_ok m _ hm1 (by omega)).mono ?_
  rintro e w1 ⟨a, F, rfl, hd, hF, hb⟩
  have HD := Lib.hid hd
  have HF := Lib.hid hF
  have HB := Lib.hid hb
  clear hd hF hb
  go_wp2_with fail
  refine (RefNew_ok m _ hm1 (by omega)).mono ?_
  rintro e w2 ⟨fA, fc, rfl, hr, hb2, hfr⟩
  have HP := Lib.hid (play_first (fc := fc) hm1 HD.out HF.out HB.out hr hb2 hfr)
  have HD2 := Lib.hid ((HD.out.below hb2).below ((Below.refl _ _).alloc (Nat.le_refl _) (.cells #[.slice fA m fc, .slice none 0 0, .slice none 0 0, .int .i64 (-1), .bool false] 35)))
  clear hr hb2 hfr HD HF HB
  have hsz : (DSt.new m).seen.length = m := by simp [DSt.new]
  have HSz := Lib.hid hsz
  clear hsz
  have hm0 : ((m : Int) == 0) = false := by rw [beq_eq_false_iff_ne]; omega
  generalize (-1 : Int) = m1 at *
  go_wp2_with fail
  refine (Size_any HD2.out).mono ?_
  rw [HSz.out]
  rintro e w' ⟨rfl, rfl⟩
  clear HD2 HSz
  generalize w2.alloc (.cells #[.slice fA m fc, .slice none 0 0, .slice none 0 0, .int .i64 m1, .bool false] 35) = V at *
  generalize w2.heap.size = X at *
  go_wp2_with fail
  go_loopw [10] (fun i wr => ∃ k : Nat, k ≤ 60 ∧ i = .int .i64 k ∧ Hid (PlayAt W k m a X wr)) (fun i _ => 60 - (intOf i).toNat)
  case atStart => exact ⟨0, by omega, rfl, HP⟩
  case round =>
    clear HP
    obtain ⟨k, hk, rfl, HP⟩ := hrel
    obtain ⟨F, d, fA, fc, aA, ac, wA, wcc, hst, hlo⟩ := HP.out
    by_cases hgo : k < len ∧ k < 60
    · obtain ⟨hg1, hg2⟩ := hgo
      have hkl : k < l.length := by rw [HLen.out]; exact hg1
      have HC0 : Hid (∀ w, Below W.heap.size W w → ∃ b off, A = some ⟨b, off, none⟩ ∧ ActCells w b (off + k * 5) l[k] ∧ ActOk W l[k]) := Lib.hid (fun w hw => by
        obtain ⟨b, off, h1, _, h2, h3⟩ := HL.out.at_ hw hkl
        exact ⟨b, off, h1, h2, h3⟩)
      obtain ⟨p, hp⟩ : ∃ p, l[k] = p := ⟨_, rfl⟩
      rw [hp] at HC0
      clear hp hkl
      obtain ⟨b, off, hA, hc, hok⟩ := HC0.out wr hst.bel
      subst hA
      obtain ⟨c0, c1, c2, c3, c4⟩ := hc
      have hpl : p.len ≤ 9223372036854775807 := hok.len2
      have HOK := Lib.hid hok
      have HS := Lib.hid hst
      clear hst hok HP
      by_cases h100 : 100 < p.len
      · go_wp2_with fail
        refine (DiskAwake_any _).mono ?_
        rintro e w9 ⟨rfl, hb9⟩
        have HB9 : Hid (Below W.heap.size W w9) := Lib.hid (HS.out.bel.trans (hb9.mono HS.out.bel.size))
        clear hb9
        go_wp2_with fail
        go_ret
        exact ⟨rfl, HB9.out⟩
      have hp100 : decide (100 < p.len) = false := by simpa using h100
      have HIn : Hid (ActIn wr.drew W F a d p fA aA ac wA wcc) := Lib.hid ⟨HS.out.drew.disk, HS.out.tru, HS.out.drew.ref, HS.out.off, HOK.out, HS.out.drew.bel, HS.out.new, by omega⟩
      obtain ⟨x0, x1, x2, x3, x4, xf⟩ := HS.out.x.cells
      have HS4 := Lib.hid HS.out.drew
      have HZ : Hid (PlaySt W (wr.alloc (.cells #[.slice none 0 0, .slice none 0 0, .slice none 0 0, .int .i64 0, .bool false] 35)).drew F a X m d fA fc aA ac wA wcc ∧ ActIn (wr.alloc (.cells #[.slice none 0 0, .slice none 0 0, .slice none 0 0, .int .i64 0, .bool false] 35)).drew W F a d p fA aA ac wA wcc ∧
          Five (wr.alloc (.cells #[.slice none 0 0, .slice none 0 0, .slice none 0 0, .int .i64 0, .bool false] 35)).drew wr.heap.size (.slice none 0 0) (.slice none 0 0) (.slice none 0 0) (.int .i64 0) (.bool false) ∧ ¬ F wr.heap.size ∧ wr.heap.size ≠ X ∧ (∀ b off, (fA = some ⟨b, off, none⟩ ∨ aA = some ⟨b, off, none⟩ ∨ wA = some ⟨b, off, none⟩) → b ≠ wr.heap.size) ∧ W.heap.size ≤ wr.heap.size) := by
        have h := HS.out
        have hb : Below wr.heap.size wr (wr.alloc (.cells #[.slice none 0 0, .slice none 0 0, .slice none 0 0, .int .i64 0, .bool false] 35)).drew := ((Below.refl _ _).alloc (Nat.le_refl _) _).drew
        have hX := heap_lt h.x
        have hlt := h.ref.lt h.disk.1.firm_pos.1
        have hst : PlaySt W (wr.alloc (.cells #[.slice none 0 0, .slice none 0 0, .slice none 0 0, .int .i64 0, .bool false] 35)).drew F a X m d fA fc aA ac wA wcc := ⟨h.disk.below hb, h.tru, h.ref.next hb, h.off, h.x.below hb hX, h.xF, h.xr, h.xW, h.new, h.bel.trans (hb.mono h.bel.size), h.size⟩
        exact Lib.hid ⟨hst, ⟨hst.disk, hst.tru, hst.ref, hst.off, HOK.out, hst.bel, hst.new, by omega⟩, Five.new _ _ _ _ _ _, fun hf => by have := h.disk.low _ hf; omega, by omega, fun b off e => by have := hlt b off e; omega, h.bel.size⟩
      obtain ⟨n0, n1, n2, n3, n4, nf⟩ := HZ.out.1.x.cells
      rw [drew_cell] at n0 n1 n2 n3 n4
      have HC : Hid (∀ w, Below W.heap.size W w → ActCells w b (off + k * 5) p) := Lib.hid (fun w hw => by
        obtain ⟨b', off', h1, h2, _⟩ := HC0.out w hw
        simp only [Option.some.injEq, Addr.mk.injEq, and_true] at h1
        obtain ⟨rfl, rfl⟩ := h1
        exact h2)
      obtain ⟨a0, a1, a2, a3, a4⟩ := HC.out _ HZ.out.1.bel
      rw [drew_cell] at a0 a1 a2 a3 a4
      clear HS
      go_upto_region 17 with fail
      go_cut [11, 12] from 78 to 123 (fun y ok wc => ok = .bool true ∧ Hid (CutAt W k m a X y wc))
      case first =>
        go_region_with (go_at_call 18; first
          | (refine (act_any HIn.out).mono ?_; rintro e w5 h5; obtain ⟨N, M, fA', fc', aA', ac', wA', wc', L, g, rfl, hA, _⟩ := play_step HS4.out hlo h5; clear h5)
          | (refine (act_any HZ.out.2.1).mono ?_; rintro e w5 h5; obtain ⟨N, M, fA', fc', aA', ac', wA', wc', L, g, rfl, _, hB⟩ := play_step HZ.out.1 hlo h5; obtain ⟨hy, hA⟩ := hB _ _ _ _ _ _ HZ.out.2.2.1 HZ.out.2.2.2.1 HZ.out.2.2.2.2.1 HZ.out.2.2.2.2.2.1 HZ.out.2.2.2.2.2.2; clear h5; obtain ⟨y0, y1, y2, y3, y4, yf⟩ := hy.cells))
        all_goals
          go_wp2_with fail
          go_meet
          case rel => exact ⟨rfl, Lib.hid hA⟩
      case rest =>
        clear n0 n1 n2 n3 n4 nf a0 a1 a2 a3 a4 c0 c1 c2 c3 c4 x0 x1 x2 x3 x4 xf HZ HS4 HIn HC
        obtain ⟨rfl, HCt⟩ := hcut
        obtain ⟨Y, N, M, fA', fc', aA', ac', wA', wc', L, g, z0, z1, z2, z3, z4, rfl, hy, hx, hnext⟩ := HCt.out
        have HN := Lib.hid hnext
        obtain ⟨x0, x1, x2, x3, x4, xf⟩ := hx.cells
        obtain ⟨y0, y1, y2, y3, y4, yf⟩ := hy.cells
        clear hy hx hnext HCt
        go_wp2_with fail
        clear x0 x1 x2 x3 x4 xf y0 y1 y2 y3 y4 yf
        generalize ((((wc.setCell ⟨X, 0, none⟩ (.slice fA' N fc')).setCell ⟨X, 1, none⟩ (.slice aA' M ac')).setCell ⟨X, 2, none⟩ (.slice wA' M wc')).setCell ⟨X, 3, none⟩ (.int .i64 L)).setCell ⟨X, 4, none⟩ (.bool g) = w6 at *
        obtain ⟨F6, d6, fA6, fc6, aA6, ac6, wA6, wc6, hst6, hlo6⟩ := HN.out
        obtain ⟨x0, x1, x2, x3, x4, xf⟩ := hst6.x.cells
        have HQ : Hid (∀ n, IsDisk (w6.drewN n) F6 a d6) := Lib.hid (fun n => hst6.disk.below (below_drawsP w6 n))
        have HP6 : Hid (∀ q, PlayAt W (k + 1) m a X (w6.drewN q)) := Lib.hid (fun q => ⟨F6, d6, fA6, fc6, aA6, ac6, wA6, wc6, hst6.drewN q, hlo6⟩)
        clear hst6
        go_quiet (first
          | (go_at_call 12; exact Calls.quiet_of_same ((Down_any (HQ.out _)).mono (fun _ _ h => ⟨h.1, h.2.symm⟩)))
          | (go_at_call 14; exact Calls.quiet_of_same ((Loose_any (HQ.out _)).mono (fun _ _ h => ⟨h.1, h.2.symm⟩))))
        go_wp2_with fail
        go_roundw
        case rel => exact ⟨k + 1, by omega, by go_num, Lib.hid (HP6.out _)⟩
        case measure => simp [intOf]; omega
    · have HS := Lib.hid hst
      clear hst HP
      go_upto_region 13 with fail
      go_cut [85] from 78 to 123 (fun v wc => v = .bool false ∧ wc = wr)
      case first =>
        by_cases hkl : k < len
        · have hk60 : decide ((k : Int) < 60) = false := by rw [decide_eq_false_iff_not]; omega
          clear hgo
          go_wp2
          go_meet
          case rel => exact ⟨rfl, rfl⟩
        · have hkl2 : decide (k < len) = false := by simpa using hkl
          clear hgo
          go_wp2
          go_meet
          case rel => exact ⟨rfl, rfl⟩
      case rest =>
        obtain ⟨rfl, rfl⟩ := hcut
        have hlo2 : d.loose.length ≤ 1000001 := by omega
        clear hgo hlo
        go_wp2_with fail
        go_loopw [13] (fun i wr => ∃ k : Nat, k ≤ m ∧ i = .int .i64 k ∧ Hid (PlaySt W wr F a X m d fA fc aA ac wA wcc)) (fun i _ => m - (intOf i).toNat)
        case atStart => exact ⟨0, by omega, rfl, HS⟩
        case round =>
          clear HS
          obtain ⟨i, hi, rfl, HS⟩ := hrel
          by_cases him : i < m
          · obtain ⟨x0, x1, x2, x3, x4, xf⟩ := HS.out.x.cells
            go_wp2_with fail
            refine (Read_any HS.out.disk (i : Int)).mono ?_
            rintro e w' ⟨rfl, rfl⟩
            go_wp2_with fail
            refine (RefOk.read HS.out hlo2 (i : Int)).mono ?_
            rintro e w7 ⟨rfl, h7⟩
            have HS7 := Lib.hid h7
            clear h7 x0 x1 x2 x3 x4 xf HS
            generalize d.readE (i : Int) = E
            generalize str (d.readB (i : Int)) = R
            go_wp2_with fail
            go_roundw
            case rel => exact ⟨i + 1, by omega, by go_num, HS7⟩
            case measure => simp [intOf]; omega
          · have hle : m ≤ i := by omega
            have him2 : decide ((i : Int) < (m : Int)) = false := by rw [decide_eq_false_iff_not]; omega
            go_wp2_with fail
            refine (DiskAwake_any _).mono ?_
            rintro e w9 ⟨rfl, hb9⟩
            have HB9 : Hid (Below W.heap.size W w9) := Lib.hid (HS.out.bel.trans (hb9.mono HS.out.bel.size))
            clear hb9
            go_wp2_with fail
            go_ret
            exact ⟨rfl, HB9.out⟩
end Go.Proofs.Ytocafhaakeflbaa
