/- Contracts of the document's Room, and of found where all is as the document says. The walk of WalOpens: both disks are written alike; plain facts. The plays of WalPlays, one by one: what each call answers, and what is there behind it. -/
import Derived.Test.YtlelfakememckaaGreatDoorWalRefC
import Derived.Test.YtlelfakememckaaGreatDoorWalPlayA
import Derived.Test.YtlelfakememckaaGreatDoorPlain
import Derived.Test.YtlelfakememckaaGreatDoorWalOpA
import Derived.Test.YtlelfakememckaaGreatDoorWalRefJ
import Derived.Test.YtlelfakememckaaGreatDoorWalW
import Derived.Test.YtlelfakememckaaGreatDoorWalPlayC
import Derived.Test.YtlelfakememckaaGreatDoorWalPutB
import Derived.Test.YtlelfakememckaaGreatDoorRefC
namespace Go.Proofs.YtlelfakememckaaGreatDoor
open Go.RowKit

set_option maxHeartbeats 1600000 in
theorem DocRoom_any (n slot used : Nat) (fA : Option Addr) (fc : Nat) (v1 v2 v3 v4 : Value) (gen place num : Value) (st sv : Value) (hn : n ≤ 4096) (hs : slot ≤ 4096) (hu : used ≤ 4096) (w : World) :
    Calls Tryz.prog 24 #[.agg #[.slice fA n fc, v1, v2, v3, v4], .int .i64 slot, .agg #[gen, place, num, .int .i64 used, st, sv]] w fun e w' => e = .returned (.int .i64 (roomE n slot used)) ∧ Below w.heap.size w w' := by
  have hb : Below w.heap.size w ((w.alloc (.cells #[.slice fA n fc, v1, v2, v3, v4] 30)).alloc (.cells #[gen, place, num, .int .i64 used, st, sv] 38)) := ((Below.refl _ _).alloc (Nat.le_refl _) _).alloc (by simp) _
  have HB := Lib.hid hb
  have c0 : ((w.alloc (.cells #[.slice fA n fc, v1, v2, v3, v4] 30)).alloc (.cells #[gen, place, num, .int .i64 used, st, sv] 38)).cell? ⟨w.heap.size, 0, none⟩ = some (.slice fA n fc) := by
    rw [World.cell?_alloc_lt _ _ ⟨w.heap.size, 0, none⟩ (by simp), Lib.cell_of_heap (heap_alloc_new _ _)]; rfl
  have c3 : ((w.alloc (.cells #[.slice fA n fc, v1, v2, v3, v4] 30)).alloc (.cells #[gen, place, num, .int .i64 used, st, sv] 38)).cell? ⟨w.heap.size + 1, 3, none⟩ = some (.int .i64 used) := by
    have h : (w.alloc (.cells #[.slice fA n fc, v1, v2, v3, v4] 30)).heap.size = w.heap.size + 1 := by simp
    have := heap_alloc_new (w.alloc (.cells #[.slice fA n fc, v1, v2, v3, v4] 30)) (.cells #[gen, place, num, .int .i64 used, st, sv] 38)
    rw [h] at this
    rw [Lib.cell_of_heap this]; rfl
  have HE : Hid (roomE n slot used = if (n : Int) - 2 * slot - used < 2 then -1 else 32 * ((n : Int) - 2 * slot - used - 2)) := Lib.hid rfl
  have w1 : IntKind.i64.wrap (2 * (slot : Int)) = 2 * (slot : Int) := by rw [IntKind.wrap_i64]; omega
  have w2 : IntKind.i64.wrap ((n : Int) - 2 * (slot : Int)) = (n : Int) - 2 * (slot : Int) := by rw [IntKind.wrap_i64]; omega
  clear hb
  by_cases h2 : (n : Int) - 2 * (slot : Int) - (used : Int) < 2
  · go_enter Tryz.func24, Tryz.ntmps24
    go_wp2_with fail
    go_ret
    exact ⟨by rw [HE.out, if_pos h2]; rfl, HB.out⟩
  · go_enter Tryz.func24, Tryz.ntmps24
    go_wp2_with fail
    go_ret
    exact ⟨by rw [HE.out, if_neg (show ¬ ((n : Int) - 2 * (slot : Int) - (used : Int) < 2) by omega)]; rfl, HB.out⟩

/-- A region whose callees leave what was there, from a later world on. -/
theorem wp_region_on {P : Program} {id : Nat} {Q : Exit → Act → World → Prop} {a : Act} {V w : World} {l : List Oper} (hw : Below V.heap.size V w) (hm : P.follows .mixedOrders = true) (hB : Region.lexB .any l.toArray = true)
    (h : wpQuiet P l.toArray (fun w' => ∃ p : LatW V, w' = p.wd) (fun a' => ∀ w', (∃ p : LatW V, w' = p.wd) → Q .normal a' w') l a) : (Code.region id l.toArray true).wp P Q a w :=
  wp_region_quiet (C := fun w' => ∃ p : LatW V, w' = p.wd) hm hB ⟨⟨w.drew, hw.drew⟩, rfl⟩ (by simpa using h)

set_option maxHeartbeats 8000000 in
set_option maxRecDepth 100000 in
theorem Found_yes {w : World} {F : Nat → Prop} {a : Nat} {v : WalV} {d : DSt} (hL : LogAt w F a v d) (st : ByteArray) {A1 A2 fA : Option Addr} {c1 c2 fc : Nat} {rs : List (List UInt8)} (h1 : Lies w w.heap.size A1 (rs.map secV)) (h2 : Lies w w.heap.size A2 (rs.map secV)) (hrl : rs.length ≤ 9223372036854775807) (v1 v2 v3 v4 : Value) :
    Calls Tryz.prog 9 #[.pointer (some ⟨a, 0, none⟩), .string st, .slice A1 rs.length c1, .agg #[.int .i64 v.gen, .int .i64 v.next, .int .i64 v.num, .int .i64 v.used, .string st, .slice A2 rs.length c2], .agg #[.slice fA d.seen.length fc, v1, v2, v3, v4], .int .i64 v.slot] w fun e w' => e = .returned (.bool true) ∧ Below w.heap.size w w' := by
  obtain ⟨V1, hV1⟩ : ∃ V1, V1 = w.alloc (.cells #[.int .i64 v.gen, .int .i64 v.next, .int .i64 v.num, .int .i64 v.used, .string st, .slice A2 rs.length c2] 38 (0, 0)) := ⟨_, rfl⟩
  have b1 : Below w.heap.size w V1 := by rw [hV1]; exact (Below.refl _ _).alloc (Nat.le_refl _) _
  have k1 := heap_alloc_new w (.cells #[.int .i64 v.gen, .int .i64 v.next, .int .i64 v.num, .int .i64 v.used, .string st, .slice A2 rs.length c2] 38 (0, 0))
  rw [← hV1] at k1
  have s1 : V1.heap.size = w.heap.size + 1 := by rw [hV1]; simp
  obtain ⟨V, hV⟩ : ∃ V, V = V1.alloc (.cells #[.slice fA d.seen.length fc, v1, v2, v3, v4] 30 (0, 0)) := ⟨_, rfl⟩
  have b2 : Below V1.heap.size V1 V := by rw [hV]; exact (Below.refl _ _).alloc (Nat.le_refl _) _
  have k2 := heap_alloc_new V1 (.cells #[.slice fA d.seen.length fc, v1, v2, v3, v4] 30 (0, 0))
  rw [← hV, s1] at k2
  replace k1 := (b2.block _ (heap_lt k1)).trans k1
  have HBV := Lib.hid (below_next b1 b2)
  have HV : Hid ((w.alloc (.cells #[.int .i64 v.gen, .int .i64 v.next, .int .i64 v.num, .int .i64 v.used, .string st, .slice A2 rs.length c2] 38)).alloc (.cells #[.slice fA d.seen.length fc, v1, v2, v3, v4] 30) = V) := Lib.hid (by rw [hV, hV1])
  have HLog := Lib.hid (fun (z : LatW V) => (hL.later HBV.out).later z.bel)
  have HSame := Lib.hid (fun (z : LatW V) => by
    have t := Same6_any (c1 := c1) (c2 := c2) ((h1.next HBV.out).next z.bel) ((h2.next HBV.out).next z.bel) hrl
    rw [eqR_self] at t
    exact t)
  have HNum := Lib.hid (fun (z : LatW V) => Number_anyW (HLog.out z).wal)
  have HGen := Lib.hid (fun (z : LatW V) => Generation_any (HLog.out z).wal)
  have HRoom : Hid (∀ z : LatW V, Calls Tryz.prog 23 #[.pointer (some ⟨a, 0, none⟩)] z.wd fun e w' => e = .returned (.int .i64 (roomE d.seen.length v.slot v.used)) ∧ Below z.wd.heap.size z.wd w') := Lib.hid (fun z => (Room_any (HLog.out z)).mono (fun _ _ ⟨he, m, hm⟩ => ⟨he, by rw [hm]; exact below_drawsW z.wd m⟩))
  have HDR := Lib.hid (fun (z : LatW V) => DocRoom_any d.seen.length v.slot v.used fA fc v1 v2 v3 v4 (.int .i64 v.gen) (.int .i64 v.next) (.int .i64 v.num) (.string st) (.slice A2 rs.length c2) hL.ok.n1 (by have := hL.ok.fit; have := hL.ok.n1; omega) (by have := hL.ok.used; have := hL.ok.n1; omega) z.wd)
  have g0 : ∀ z : LatW V, z.wd.cell? ⟨w.heap.size, 0, none⟩ = some (.int .i64 v.gen) := fun z => z.cell (by rw [Lib.cell_of_heap k1]; rfl) (heap_lt k1)
  have g1 : ∀ z : LatW V, z.wd.cell? ⟨w.heap.size, 1, none⟩ = some (.int .i64 v.next) := fun z => z.cell (by rw [Lib.cell_of_heap k1]; rfl) (heap_lt k1)
  have g2 : ∀ z : LatW V, z.wd.cell? ⟨w.heap.size, 2, none⟩ = some (.int .i64 v.num) := fun z => z.cell (by rw [Lib.cell_of_heap k1]; rfl) (heap_lt k1)
  have g3 : ∀ z : LatW V, z.wd.cell? ⟨w.heap.size, 3, none⟩ = some (.int .i64 v.used) := fun z => z.cell (by rw [Lib.cell_of_heap k1]; rfl) (heap_lt k1)
  have g4 : ∀ z : LatW V, z.wd.cell? ⟨w.heap.size, 4, none⟩ = some (.string st) := fun z => z.cell (by rw [Lib.cell_of_heap k1]; rfl) (heap_lt k1)
  have g5 : ∀ z : LatW V, z.wd.cell? ⟨w.heap.size, 5, none⟩ = some (.slice A2 rs.length c2) := fun z => z.cell (by rw [Lib.cell_of_heap k1]; rfl) (heap_lt k1)
  have e0 : ∀ z : LatW V, z.wd.cell? ⟨w.heap.size + 1, 0, none⟩ = some (.slice fA d.seen.length fc) := fun z => z.cell (by rw [Lib.cell_of_heap k2]; rfl) (heap_lt k2)
  have e1 : ∀ z : LatW V, z.wd.cell? ⟨w.heap.size + 1, 1, none⟩ = some v1 := fun z => z.cell (by rw [Lib.cell_of_heap k2]; rfl) (heap_lt k2)
  have e2 : ∀ z : LatW V, z.wd.cell? ⟨w.heap.size + 1, 2, none⟩ = some v2 := fun z => z.cell (by rw [Lib.cell_of_heap k2]; rfl) (heap_lt k2)
  have e3 : ∀ z : LatW V, z.wd.cell? ⟨w.heap.size + 1, 3, none⟩ = some v3 := fun z => z.cell (by rw [Lib.cell_of_heap k2]; rfl) (heap_lt k2)
  have e4 : ∀ z : LatW V, z.wd.cell? ⟨w.heap.size + 1, 4, none⟩ = some v4 := fun z => z.cell (by rw [Lib.cell_of_heap k2]; rfl) (heap_lt k2)
  clear hL h1 h2 hV hV1 k1 k2 b1 b2 s1 HLog
  obtain ⟨rr, hrr⟩ : ∃ rr, roomE d.seen.length v.slot v.used = rr := ⟨_, rfl⟩
  rw [hrr] at HRoom HDR
  clear hrr
  generalize d.seen.length = n at *
  obtain ⟨vd, vs, vg, vn, vx, vu, vdn⟩ := v
  simp only at *
  go_enter Tryz.func9, Tryz.ntmps9
  go_wp2_with fail
  rw [HV.out]
  generalize w.heap.size = H at g0 g1 g2 g3 g4 g5 e0 e1 e2 e3 e4 ⊢
  refine wp_region_on (V := V) (Below.refl _ _) (by kernel_rfl) (by kernel_rfl) ?_
  repeat (first | go_big_quiet_skip | quiet_step (first | (go_at_call 42; exact Calls.later_of (HSame.out _)) | (go_at_call 21; exact Calls.later_same (HNum.out _)) | (go_at_call 22; exact Calls.later_same (HGen.out _)) | (go_at_call 23; exact Calls.later_of (HRoom.out _)) | (go_at_call 24; exact Calls.later_of (HDR.out _))))
  refine wpQuiet_nil ?_
  intro w9 hw9
  obtain ⟨p9, hw9'⟩ := hw9
  subst hw9'
  go_wp2_with fail
  go_ret
  exact ⟨rfl, HBV.out.trans (p9.bel.mono HBV.out.size)⟩
end Go.Proofs.YtlelfakememckaaGreatDoor

namespace Go.Proofs.YtlelfakememckaaGreatDoor
open Go.RowKit

/-- A disk whose power stays. -/
structure Calm (d : DSt) (n : Nat) : Prop where
  off : d.off = false
  arm : d.armed = false
  size : d.seen.length = n
theorem Calm.lasts {d : DSt} {n : Nat} (h : Calm d n) : d.lasts = true := by unfold DSt.lasts; rw [h.arm]; rfl
theorem Calm.spent {d : DSt} {n : Nat} (h : Calm d n) : d.spent = d := by unfold DSt.spent; rw [h.arm]; rfl
theorem Calm.new (n : Nat) : Calm (DSt.new n) n := ⟨rfl, rfl, by simp [DSt.new]⟩
theorem Calm.write {d : DSt} {n : Nat} (h : Calm d n) (i : Int) (s : List UInt8) : Calm (d.writeD i s) n := by
  unfold DSt.writeD
  split
  · exact h
  · split
    · rw [h.spent]; exact ⟨h.off, h.arm, by show (d.seen.set _ _).length = n; rw [List.length_set]; exact h.size⟩
    · rw [h.spent]; exact h
theorem Calm.flush {d : DSt} {n : Nat} (h : Calm d n) : Calm d.flushD n ∧ d.flushD.loose = [] := by
  unfold DSt.flushD
  rw [if_neg (by rw [h.off]; simp), if_pos h.lasts, h.spent]
  exact ⟨⟨h.off, h.arm, h.size⟩, rfl⟩

theorem scan_disk (xs : List (List UInt8)) (a b : Nat) : ∀ (f : Nat) (slot : Nat) (gen num : Int) (next used : Nat) (dn : Bool),
    (scanR xs f ⟨a, slot, gen, num, next, used, dn⟩).2 = (scanR xs f ⟨b, slot, gen, num, next, used, dn⟩).2 ∧ (scanR xs f ⟨a, slot, gen, num, next, used, dn⟩).1.gen = (scanR xs f ⟨b, slot, gen, num, next, used, dn⟩).1.gen ∧ (scanR xs f ⟨a, slot, gen, num, next, used, dn⟩).1.num = (scanR xs f ⟨b, slot, gen, num, next, used, dn⟩).1.num ∧ (scanR xs f ⟨a, slot, gen, num, next, used, dn⟩).1.next = (scanR xs f ⟨b, slot, gen, num, next, used, dn⟩).1.next ∧ (scanR xs f ⟨a, slot, gen, num, next, used, dn⟩).1.used = (scanR xs f ⟨b, slot, gen, num, next, used, dn⟩).1.used ∧ (scanR xs f ⟨a, slot, gen, num, next, used, dn⟩).1.slot = slot
  | 0, _, _, _, _, _, _ => ⟨rfl, rfl, rfl, rfl, rfl, rfl⟩
  | f + 1, slot, gen, num, next, used, dn => by
    have hr : recAt xs ⟨a, slot, gen, num, next, used, dn⟩ = recAt xs ⟨b, slot, gen, num, next, used, dn⟩ := rfl
    cases h : recAt xs ⟨b, slot, gen, num, next, used, dn⟩ with
    | none =>
      rw [scanR_stop h, scanR_stop (hr.trans h)]
      exact ⟨rfl, rfl, rfl, rfl, rfl, rfl⟩
    | some len =>
      rw [scanR_go h, scanR_go (hr.trans h)]
      obtain ⟨h1, h2, h3, h4, h5, h6⟩ := scan_disk xs a b f slot gen (num + 1) ((next + (1 + secs len)) % (xs.length - 2 * slot)) (used + (1 + secs len)) dn
      exact ⟨congrArg (List.cons _) h1, h2, h3, h4, h5, h6⟩
theorem open_disk (a : Nat) (d : DSt) (slot : Nat) : openR 0 d slot = openR a d slot ∧ (openV 0 d slot).gen = (openV a d slot).gen ∧ (openV 0 d slot).num = (openV a d slot).num ∧ (openV 0 d slot).next = (openV a d slot).next ∧ (openV 0 d slot).used = (openV a d slot).used ∧ (openV a d slot).slot = slot := by
  obtain ⟨h1, h2, h3, h4, h5, _⟩ := scan_disk d.seen 0 a d.seen.length slot (curS d.seen slot).1 (curS d.seen slot).2.2.2 (curS d.seen slot).2.2.1.toNat 0 false
  exact ⟨h1, h2, h3, h4, h5, (scan_disk d.seen a 0 d.seen.length slot (curS d.seen slot).1 (curS d.seen slot).2.2.2 (curS d.seen slot).2.2.1.toNat 0 false).2.2.2.2.2⟩
theorem scan_len (xs : List (List UInt8)) : ∀ (f : Nat) (v : WalV), (scanR xs f v).2.length ≤ f
  | 0, _ => Nat.le_refl _
  | f + 1, v => by
    cases h : recAt xs v with
    | none => rw [scanR_stop h]; exact Nat.zero_le _
    | some len =>
      rw [scanR_go h]
      have := scan_len xs f (v.pass xs.length len)
      show (scanR xs f (v.pass xs.length len)).2.length + 1 ≤ f + 1
      omega
theorem fits_same {k : Nat} (hk : k ≤ 24) (slot : Int) : docFits (k : Int) slot = fitsE k slot := by
  unfold docFits fitsE
  rw [Bool.eq_iff_iff]
  simp
  omega
end Go.Proofs.YtlelfakememckaaGreatDoor

namespace Go.Proofs.YtlelfakememckaaGreatDoor
open Go.RowKit

theorem keep_lies {W w : World} {A : Option Addr} {bs : List Bool} (h : KeepB W A bs) (hb : Below W.heap.size W w) : Lies w w.heap.size A (bs.map boolV) := by
  rcases h with rfl | ⟨b, off, hA, hlt, hc⟩
  · exact .inl rfl
  · refine .inr ⟨b, off, hA, Nat.lt_of_lt_of_le hlt hb.size, fun i hi => ?_⟩
    have hi' : i < bs.length := by simpa using hi
    rw [hb.cell (p := ⟨b, off + i, none⟩) hlt, hc i hi', List.getElem_map]
    rfl

section
variable {W wr : World} {F : Nat → Prop} {a X b Y q : Nat} {O : Array Value} {v : WalV} {d e : DSt} {fA aA wA : Option Addr} {fc ac wc : Nat} {G P K U : Int} {ST : ByteArray} {RV : Value}

theorem play_add {L : List UInt8} (h : PlayR W wr F a X b Y q O v d e fA fc aA ac wA wc G P K U ST RV) (hg : ErrCell W) (hl : L.length ≤ 100000) (hlo : d.loose.length ≤ 100000) (hv : (addV v d L).disk = a) :
    Calls Tryz.prog 19 #[.pointer (some ⟨b, 0, none⟩), .string (str L)] wr fun en w' => ∃ u, en = .returned u ∧ Calls Tryz.prog 12 #[u] w' (NumEnd w' (addE v d L)) ∧ ∃ F', PlayR W w' F' a X b Y q O (if addE v d L = 7 then { addV v d L with down := true } else addV v d L) (addD v d L) e fA fc aA ac wA wc G P K U ST RV := by
  refine (Append_any h.st.log h.st.bF L hl hlo).mono ?_
  intro en w' hc
  obtain ⟨he, F', hp⟩ := h.call hc hv
  by_cases hk : addE v d L = 0
  · rw [if_pos hk] at he
    exact ⟨_, he, by rw [hk]; exact num_nil w', F', hp⟩
  · rw [if_neg hk] at he
    obtain ⟨p, he, hf⟩ := he
    exact ⟨_, he, num_fault p _ _ (hg.below hp.st.op.bel hg.pos) hf, F', hp⟩
theorem play_ck {L : List UInt8} (h : PlayR W wr F a X b Y q O v d e fA fc aA ac wA wc G P K U ST RV) (hg : ErrCell W) (hl : L.length ≤ 100000) (hlo : d.loose.length ≤ 100000) (hv : (ckV v d L).disk = a) :
    Calls Tryz.prog 13 #[.pointer (some ⟨b, 0, none⟩), .string (str L)] wr fun en w' => ∃ u, en = .returned u ∧ Calls Tryz.prog 12 #[u] w' (NumEnd w' (ckE v d L)) ∧ ∃ F', PlayR W w' F' a X b Y q O (if ckE v d L = 7 then { ckV v d L with down := true } else ckV v d L) (ckD v d L) e fA fc aA ac wA wc G P K U ST RV := by
  refine (Checkpoint_any h.st.log h.st.bF L hl hlo).mono ?_
  intro en w' hc
  obtain ⟨he, F', hp⟩ := h.call hc hv
  by_cases hk : ckE v d L = 0
  · rw [if_pos hk] at he
    exact ⟨_, he, by rw [hk]; exact num_nil w', F', hp⟩
  · rw [if_neg hk] at he
    obtain ⟨p, he, hf⟩ := he
    exact ⟨_, he, num_fault p _ _ (hg.below hp.st.op.bel hg.pos) hf, F', hp⟩
theorem play_arm (h : PlayR W wr F a X b Y q O v d e fA fc aA ac wA wc G P K U ST RV) (n : Int) (h1 : -9223372036854775808 ≤ n) (h2 : n ≤ 9223372036854775807) :
    Calls Tryz.prog 15 #[.pointer (some ⟨a, 0, none⟩), .int .i64 n] wr fun en w' => en = .returned (.tuple #[]) ∧ ∃ F', PlayR W w' F' a X b Y q O v (d.armD n) e fA fc aA ac wA wc G P K U ST RV :=
  (Arm_any h.st.op.disk n h1 h2).mono fun _ _ hd => h.did hd rfl
theorem play_crash (h : PlayR W wr F a X b Y q O v d e fA fc aA ac wA wc G P K U ST RV) {xA : Option Addr} {bs : List Bool} {xc : Nat} (hk : KeepB W xA bs) (hl : bs.length ≤ 9223372036854775807) (hlo : d.loose.length ≤ 100000) :
    Calls Tryz.prog 17 #[.pointer (some ⟨a, 0, none⟩), .slice xA bs.length xc] wr fun en w' => en = .returned (.tuple #[]) ∧ ∃ F', PlayR W w' F' a X b Y q O v (d.crashD bs) e fA fc aA ac wA wc G P K U ST RV :=
  (Crash_any h.st.op.disk (by omega) (hk.is h.st.op.bel h.st.op.new) rfl hl).mono fun _ _ hd => h.did hd (by
    show (d.crashF bs).length = _
    rw [DSt.crashF_length, h.st.op.disk.1.len])
theorem play_open (h : PlayR W wr F a X b Y q O v d e fA fc aA ac wA wc G P K U ST RV) (s : Nat) (hoff : d.off = false) (hs : 2 ≤ s) (hf : 2 * s + 3 ≤ d.seen.length) (hv : (openV a d s).disk = a) :
    Calls Tryz.prog 7 #[.pointer (some ⟨a, 0, none⟩), .int .i64 s] wr fun en w' => ∃ b' A c, en = .returned (.tuple #[.pointer (some ⟨b', 0, none⟩), .string (str (openS d s)), .slice A (openR a d s).length c, .nilIface]) ∧ Lies w' w'.heap.size A ((openR a d s).map secV) ∧ PlayR W w' F a X b' Y q O (openV a d s) d e fA fc aA ac wA wc G P K U ST RV := by
  refine (Open_ok h.st.op.disk s hoff hs hf).mono ?_
  rintro en w' ⟨b', A, c, he, hl, _, hL, hb, hbw⟩
  exact ⟨b', A, c, he, hl, h.opened hL hv hb hbw⟩
theorem play_refarm (_ho : e.Ok) (n : Int) (w : World) :
    Calls Tryz.prog 16 #[.agg #[.slice fA e.firm.length fc, .slice aA e.loose.length ac, .slice wA e.loose.length wc, .int .i64 e.leftR, .bool e.off], .int .i64 n] w fun en w' => en = .returned (.agg #[.slice fA (e.armD n).firm.length fc, .slice aA (e.armD n).loose.length ac, .slice wA (e.armD n).loose.length wc, .int .i64 (e.armD n).leftR, .bool (e.armD n).off]) ∧ Below w.heap.size w w' := by
  rw [leftR_arm]
  exact RefArm_any _ _ fA fc aA ac wA wc e.leftR e.off n w
theorem play_refcrash {w : World} (ho : e.Ok) (hr : RefAt w w.heap.size e.firm e.loose fA aA ac wA wc) (hlo : e.loose.length ≤ 100000) {xA : Option Addr} {bs : List Bool} {xc : Nat} (hk : Lies w w.heap.size xA (bs.map boolV)) (hl : bs.length ≤ 9223372036854775807) :
    Calls Tryz.prog 18 #[.agg #[.slice fA e.firm.length fc, .slice aA e.loose.length ac, .slice wA e.loose.length wc, .int .i64 e.leftR, .bool e.off], .slice xA bs.length xc] w fun en w' => ∃ fA' fc', en = .returned (.agg #[.slice fA' (e.crashD bs).firm.length fc', .slice none (e.crashD bs).loose.length 0, .slice none (e.crashD bs).loose.length 0, .int .i64 (e.crashD bs).leftR, .bool (e.crashD bs).off]) ∧ RefAt w' w'.heap.size (e.crashD bs).firm (e.crashD bs).loose fA' none 0 none 0 ∧ Below w.heap.size w w' ∧ RefFresh w.heap.size fA aA wA fA' none none := by
  refine (RefCrash_any ho hr (by omega) hk rfl hl e.leftR e.off).mono ?_
  rintro en w' ⟨b', fc', he, hb', hr', hbel⟩
  refine ⟨some ⟨b', 0, none⟩, fc', he, hr', hbel, ?_⟩
  rintro c off (h | h | h)
  · simp only [Option.some.injEq, Addr.mk.injEq] at h; left; omega
  · cases h
  · cases h
/-- The document's Find at a disk of which an Open tells v. -/
theorem play_find {w : World} {s : Nat} (ho : e.Ok) (ht : e.Tru) (hr : RefAt w w.heap.size e.firm e.loose fA aA ac wA wc) (hlo : e.loose = []) (hoff : e.off = false) (hx : ∀ x ∈ e.seen, x.length = 32) (hs : 2 ≤ s) (hf : 2 * s + 3 ≤ e.seen.length) (hv : openV a e s = v) :
    Calls Tryz.prog 8 #[.agg #[.slice fA e.firm.length fc, .slice aA e.loose.length ac, .slice wA e.loose.length wc, .int .i64 e.leftR, .bool e.off], .int .i64 s] w fun en w' => ∃ A c, en = .returned (.agg #[.int .i64 v.gen, .int .i64 v.next, .int .i64 v.num, .int .i64 v.used, .string (str (openS e s)), .slice A (openR a e s).length c]) ∧ Lies w' w'.heap.size A ((openR a e s).map secV) ∧ Below w.heap.size w w' := by
  obtain ⟨h1, h2, h3, h4, h5, _⟩ := open_disk a e s
  refine (DocFind_any ho ht hr (by rw [hlo]; simp) e.leftR s hs hf hoff hx).mono ?_
  rintro en w' ⟨A, c, he, hl, hb⟩
  rw [h1, h2, h3, h4, h5, hv] at he
  rw [h1] at hl
  exact ⟨A, c, he, hl, hb⟩
end

/-- In what state the plays are: the power gone, or on. -/
def Power (dd : Bool) (d : DSt) (s a : Nat) (v : WalV) : Prop := if dd = true then Gone d s a v else Live d s a v
section
variable {dd : Bool} {d : DSt} {s a : Nat} {v : WalV}
theorem Power.disk (h : Power dd d s a v) : v.disk = a := by
  cases dd
  · exact Live.disk h
  · exact Gone.disk h
theorem Power.loose (h : Power dd d s a v) : d.loose.length ≤ 100000 := by
  cases dd
  · rw [Live.loose h]; simp
  · exact Gone.loose h
theorem Power.arm (h : Power dd d s a v) (n : Int) : Power dd (d.armD n) s a v := by
  cases dd
  · exact Live.arm h n
  · exact Gone.arm h n
theorem Power.crash (h : Power dd d s a v) (keep : List Bool) : Live (d.crashD keep) s a (openV a (d.crashD keep) s) := by
  cases dd
  · exact Live.crash h keep
  · exact Gone.crash h keep
end
/-- Between two plays: both disks hold one state; while the power is on the document's log tells what the log knows. -/
def PlaysAt (W wr : World) (s n a X Y : Nat) (dd : Bool) (b : Nat) : Prop :=
  ∃ F v d fA fc aA ac wA wc G P K U ST RV, PlaySt W wr F a X b Y v d d fA fc aA ac wA wc G P K U ST RV ∧ Power dd d s a v ∧ d.seen.length = n ∧ (dd = false → G = v.gen ∧ P = v.next ∧ K = v.num ∧ U = v.used)
/-- Behind the switch. -/
def PlaysQ (W wr : World) (s n a X Y : Nat) (dd : Bool) (b : Nat) : Prop :=
  ∃ F v d fA fc aA ac wA wc G P K U ST RV, PlaySt W wr F a X b Y v d d fA fc aA ac wA wc G P K U ST RV ∧ Power dd d s a v ∧ d.seen.length = n
end Go.Proofs.YtlelfakememckaaGreatDoor
