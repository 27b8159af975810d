/- Contract of the document's Find. -/
import Derived.Test.YtlelfakememckaaGreatDoorWalRefG
import Derived.StillTailTactics
import Derived.Deep.CutRange
namespace Go.Proofs.YtlelfakememckaaGreatDoor
open Go.RowKit

theorem curQ_next {xs : List (List UInt8)} {slot k : Nat} (hk : k < 2) : curQ xs slot (k + 1) = stepS xs slot (k * slot) (curQ xs slot k) := by
  match k, hk with
  | 0, _ => rw [Nat.zero_mul]; rfl
  | 1, _ => rw [Nat.one_mul]; rfl
theorem FindSt.keep {w wr w' : World} {a b c dl e : Value} {gen place num used : Int} {st : ByteArray} {v : Value} (h : FindSt w wr a b c dl e gen place num used st v) (hb : Below (w.heap.size + 1 + 1 + 1) wr w') : FindSt w w' a b c dl e gen place num used st v :=
  ⟨h.five.below hb (by omega), (hb.block _ (by omega)).trans h.res, (hb.block _ (by omega)).trans h.g, h.bel.trans (hb.mono (by omega))⟩
theorem FindSt.big {w wr : World} {a b c dl e : Value} {gen place num used : Int} {st : ByteArray} {v : Value} (h : FindSt w wr a b c dl e gen place num used st v) : w.heap.size + 1 + 1 + 1 ≤ wr.heap.size := by have := heap_lt h.g; omega

/-- What Find leaves. -/
def FindEnd (d : DSt) (slot : Nat) (w : World) (e : Ending) (w' : World) : Prop :=
  ∃ A c, e = .returned (.agg #[.int .i64 (openV 0 d slot).gen, .int .i64 (openV 0 d slot).next, .int .i64 (openV 0 d slot).num, .int .i64 (openV 0 d slot).used, .string (str (openS d slot)), .slice A (openR 0 d slot).length c]) ∧ Lies w' w'.heap.size A ((openR 0 d slot).map secV) ∧ Below w.heap.size w w'

/-- A region whose callees leave what was there, from a later world on. -/
theorem wp_region_in {P : Program} {id : Nat} {Q : Exit → Act → World → Prop} {a : Act} {V w : World} {l : List Oper} (hw : Below V.heap.size V w) (hm : P.follows .mixedOrders = true) (hB : Region.lexB .any l.toArray = true)
    (h : wpQuiet P l.toArray (fun w' => ∃ p : LatW V, w' = p.wd) (fun a' => ∀ w', (∃ p : LatW V, w' = p.wd) → Q .normal a' w') l a) : (Code.region id l.toArray true).wp P Q a w :=
  wp_region_quiet (C := fun w' => ∃ p : LatW V, w' = p.wd) hm hB ⟨⟨w.drew, hw.drew⟩, rfl⟩ (by simpa using h)
theorem logD_desc : Tryz.prog.underlying 38 = some (.struct ((match Tryz.prog.underlying 38 with | some (.struct fs) => fs | _ => #[]))) := by kernel_rfl
theorem FindSt.rcs {w wr : World} {a b c dl e : Value} {gen place num used : Int} {st : ByteArray} {v : Value} (h : FindSt w wr a b c dl e gen place num used st v) (x : Value) : FindSt w (wr.setCell ⟨w.heap.size + 1 + 1, 5, none⟩ x) a b c dl e gen place num used st x :=
  ⟨h.five.far (by show w.heap.size ≠ w.heap.size + 1 + 1; omega) _, h.res.far (by show w.heap.size + 1 ≠ w.heap.size + 1 + 1; omega) _, h.g.set5 _, h.bel.setCell (by show w.heap.size ≤ w.heap.size + 1 + 1; omega) _⟩
theorem FindSt.use {w wr : World} {a b c dl e : Value} {gen place num used : Int} {st : ByteArray} {v : Value} (h : FindSt w wr a b c dl e gen place num used st v) (x : Int) : FindSt w (wr.setCell ⟨w.heap.size + 1 + 1, 3, none⟩ (.int .i64 x)) a b c dl e gen place num x st v :=
  ⟨h.five.far (by show w.heap.size ≠ w.heap.size + 1 + 1; omega) _, h.res.far (by show w.heap.size + 1 ≠ w.heap.size + 1 + 1; omega) _, h.g.set3 _, h.bel.setCell (by show w.heap.size ≤ w.heap.size + 1 + 1; omega) _⟩
theorem FindSt.pl {w wr : World} {a b c dl e : Value} {gen place num used : Int} {st : ByteArray} {v : Value} (h : FindSt w wr a b c dl e gen place num used st v) (x : Int) : FindSt w (wr.setCell ⟨w.heap.size + 1 + 1, 1, none⟩ (.int .i64 x)) a b c dl e gen x num used st v :=
  ⟨h.five.far (by show w.heap.size ≠ w.heap.size + 1 + 1; omega) _, h.res.far (by show w.heap.size + 1 ≠ w.heap.size + 1 + 1; omega) _, h.g.set1 _, h.bel.setCell (by show w.heap.size ≤ w.heap.size + 1 + 1; omega) _⟩
theorem FindSt.nu {w wr : World} {a b c dl e : Value} {gen place num used : Int} {st : ByteArray} {v : Value} (h : FindSt w wr a b c dl e gen place num used st v) (x : Int) : FindSt w (wr.setCell ⟨w.heap.size + 1 + 1, 2, none⟩ (.int .i64 x)) a b c dl e gen place x used st v :=
  ⟨h.five.far (by show w.heap.size ≠ w.heap.size + 1 + 1; omega) _, h.res.far (by show w.heap.size + 1 ≠ w.heap.size + 1 + 1; omega) _, h.g.set2 _, h.bel.setCell (by show w.heap.size ≤ w.heap.size + 1 + 1; omega) _⟩
theorem own_setBelow {w : World} {base : Nat} {e : TypeId} {size n : Nat} {v : Value} {xs : List Value} (h : w.ownsRow base e size v n xs) {p : Addr} (hp : p.block < base) (u : Value) : (w.setCell p u).ownsRow base e size v n xs :=
  h.kept (row := some p.block) ⟨rfl, rfl, rfl, by simp, fun i _ hne => Below.heap_setCell _ _ _ _ (fun e => hne (by rw [e]))⟩ (by
    cases hv : v.ownBlock with
    | none => exact Or.inl rfl
    | some b => refine Or.inr (fun e => ?_); cases e; have := (h.lt _ hv).1; omega)
theorem around_tl (slot m place k : Nat) : (aroundL slot m place (1 + k)).tail.length = k := by simp [aroundL]
theorem around_lt {n slot M place k : Nat} (hf : 2 * slot + 3 ≤ n) (hM : n - 2 * slot = M) {y : Nat} (hy : y ∈ (aroundL slot M place (1 + k)).tail) : y < n := by
  have := List.mem_of_mem_tail hy
  unfold aroundL at this
  obtain ⟨j, _, rfl⟩ := List.mem_map.1 this
  have := Nat.mod_lt (place + j) (show 0 < M by omega)
  show 2 * slot + (place + j) % M < n
  omega
theorem find_end {w wr : World} {d : DSt} {slot : Nat} {a b c0 dl e : Value} {gen num : Int} {next used vd vs : Nat} {dn : Bool} {ST : ByteArray} {A : Option Addr} {c : Nat} {pre : List (List UInt8)} {V0 : WalV} {f : Nat} {base : Nat}
    (hG : FindSt w wr a b c0 dl e gen next num used ST (.slice A pre.length c)) (hO : wr.ownsRow base 9 1 (.slice A pre.length c) pre.length (pre.map secV)) (hbase : w.heap.size + 1 < base)
    (hR : openR 0 d slot = (scanR d.seen d.seen.length V0).2) (hV : openV 0 d slot = (scanR d.seen d.seen.length V0).1) (hS : str (openS d slot) = ST)
    (hsc : scanR d.seen d.seen.length V0 = ((scanR d.seen f ⟨vd, vs, gen, num, next, used, dn⟩).1, pre ++ (scanR d.seen f ⟨vd, vs, gen, num, next, used, dn⟩).2)) (hst : scanR d.seen f ⟨vd, vs, gen, num, next, used, dn⟩ = (⟨vd, vs, gen, num, next, used, dn⟩, [])) :
    FindEnd d slot w (.returned (.agg #[.int .i64 gen, .int .i64 next, .int .i64 num, .int .i64 used, .string ST, .slice A pre.length c])) ((((((wr.setCell ⟨w.heap.size + 1, 0, none⟩ (.int .i64 gen)).setCell ⟨w.heap.size + 1, 1, none⟩ (.int .i64 next)).setCell ⟨w.heap.size + 1, 2, none⟩ (.int .i64 num)).setCell ⟨w.heap.size + 1, 3, none⟩ (.int .i64 used)).setCell ⟨w.heap.size + 1, 4, none⟩ (.string ST)).setCell ⟨w.heap.size + 1, 5, none⟩ (.slice A pre.length c)) := by
  rw [hst, List.append_nil] at hsc
  have eR : openR 0 d slot = pre := by rw [hR, hsc]
  have eV : openV 0 d slot = ⟨vd, vs, gen, num, next, used, dn⟩ := by rw [hV, hsc]
  have hb : ∀ j, w.heap.size ≤ (⟨w.heap.size + 1, j, none⟩ : Addr).block := fun j => by show w.heap.size ≤ w.heap.size + 1; omega
  refine ⟨A, c, by rw [eR, eV, hS], ?_, (((((hG.bel.setCell (hb _) _).setCell (hb _) _).setCell (hb _) _).setCell (hb _) _).setCell (hb _) _).setCell (hb _) _⟩
  rw [eR]
  obtain ⟨A2, c2, e2, _, hl⟩ := own_lies hO
  simp only [Value.slice.injEq] at e2
  obtain ⟨rfl, _, rfl⟩ := e2
  rcases hl with hl | ⟨b2, o2, hA, hlt, hcl⟩
  · exact .inl hl
  · have hbb : b2 ≠ w.heap.size + 1 := by
      have := own_fresh hO ⟨b2, o2, none⟩ hA
      simp only at this
      omega
    refine .inr ⟨b2, o2, hA, by simpa using hlt, fun i hi => ?_⟩
    rw [← hcl i hi]
    have hne : ∀ j, b2 ≠ (⟨w.heap.size + 1, j, none⟩ : Addr).block := fun j => hbb
    exact World.cell?_of_block (a := ⟨b2, o2 + i, none⟩) ((Below.heap_setCell _ _ _ _ (hne 5)).trans ((Below.heap_setCell _ _ _ _ (hne 4)).trans ((Below.heap_setCell _ _ _ _ (hne 3)).trans ((Below.heap_setCell _ _ _ _ (hne 2)).trans ((Below.heap_setCell _ _ _ _ (hne 1)).trans (Below.heap_setCell _ _ _ _ (hne 0)))))))

set_option maxHeartbeats 16000000 in
set_option maxRecDepth 100000 in
theorem DocFind_any {w : World} {d : DSt} (ho : d.Ok) (ht : d.Tru) {fA aA wA : Option Addr} {fc ac wc : Nat} (h : RefAt w w.heap.size d.firm d.loose fA aA ac wA wc) (hl : d.loose.length ≤ 1000001) (L : Int) (slot : Nat) (hs : 2 ≤ slot) (hf : 2 * slot + 3 ≤ d.seen.length)
    (hoff : d.off = false) (hx : ∀ x ∈ d.seen, x.length = 32) :
    Calls Tryz.prog 8 #[.agg #[.slice fA d.firm.length fc, .slice aA d.loose.length ac, .slice wA d.loose.length wc, .int .i64 L, .bool d.off], .int .i64 slot] w (FindEnd d slot w) := by
  have hlen := ho.len
  have hn4 := ho.le
  have HSY := Lib.hid (fun w' (hb : Below w.heap.size w w') k (hk : k ≤ 1) hy => DocSlotOf_st (fc := fc) (ac := ac) (wc := wc) ho ht (h.next hb) hl L slot k hs hk hf hoff hx hy)
  have HSN : Hid (∀ w', Below w.heap.size w w' → ∀ k, k ≤ 1 → ¬ DocSlot (d.seen.getD (k * slot) []) d.seen.length slot k → Calls Tryz.prog 35 #[.agg #[.slice fA d.firm.length fc, .slice aA d.loose.length ac, .slice wA d.loose.length wc, .int .i64 L, .bool d.off], .int .i64 slot, .int .i64 k] w' fun e w'' => e = .returned (.tuple #[.agg #[.int .i64 0, .int .i64 0, .int .i64 0, .int .i64 0, .string ⟨#[]⟩, .slice none 0 0], .bool false]) ∧ Below w'.heap.size w' w'') := Lib.hid (fun w' hb k hk hno => by
    have hks : k * slot ≤ slot := by
      calc k * slot ≤ 1 * slot := Nat.mul_le_mul_right _ hk
        _ = slot := Nat.one_mul _
    have hr := readB_on (x := k * slot) hoff (by omega)
    exact DocSlotOf_no (fc := fc) (ac := ac) (wc := wc) ho ht (h.next hb) hl L slot k hs hk (by omega) (by rw [hr]; exact getD_32 hx (by omega)) (by rw [hr, hlen]; exact hno))
  have HStep := Lib.hid (fun k (hk : k ≤ 1) cur => step_doc (xs := d.seen) (cur := cur) hs hk hf hx)
  have HRd := Lib.hid (fun k (hk : k ≤ 1) => readB_on (d := d) (x := k * slot) hoff (by
    have : k * slot ≤ slot := by
      calc k * slot ≤ 1 * slot := Nat.mul_le_mul_right _ hk
        _ = slot := Nat.one_mul _
    omega))
  have HSt := Lib.hid (FindSt.start w (.slice fA d.firm.length fc) (.slice aA d.loose.length ac) (.slice wA d.loose.length wc) (.int .i64 L) (.bool d.off))
  have HQ0 : Hid (str (stateOf d.seen slot ((0 : Int)).toNat ((0 : Int)).toNat) = ⟨#[]⟩) := Lib.hid rfl

  have HSec : Hid (∀ w', Below w.heap.size w w' → ∀ x : Nat, x < d.seen.length → Calls Tryz.prog 36 #[.agg #[.slice fA d.firm.length fc, .slice aA d.loose.length ac, .slice wA d.loose.length wc, .int .i64 L, .bool d.off], .int .i64 (x : Int)] w' fun e w'' => e = .returned (.string (str (d.seen.getD x []))) ∧ Below w'.heap.size w' w'') := Lib.hid (fun w' hb x hxl => by
    have := DocSector_any (fc := fc) (ac := ac) (wc := wc) ho ht (h.next hb) hl x L
    rw [readB_on hoff hxl] at this
    exact this)
  have HBy : Hid (∀ (w' : World) (A : Option Addr) (c n : Nat) (l : List Nat), Below w.heap.size w w' → Lies w' w'.heap.size A (l.map natV) → (∀ x ∈ l, x < d.seen.length) → n ≤ 32 * l.length → l.length ≤ 10000 → Calls Tryz.prog 41 #[.agg #[.slice fA d.firm.length fc, .slice aA d.loose.length ac, .slice wA d.loose.length wc, .int .i64 L, .bool d.off], .int .i64 n, .slice A l.length c] w' fun e w'' => e = .returned (.string (str ((readsL d l).take n))) ∧ Below w'.heap.size w' w'') := Lib.hid (fun w' A c n l hb hA hxl hn hll =>
    DocBytes_any (c := c) (fc := fc) (ac := ac) (wc := wc) ho ht (h.next hb) hl L n l hA (fun x hx' => readB_32 hoff hx (hxl x hx')) hn hll)
  have HAr : Hid (∀ (w' : World) (place n : Nat), place < d.seen.length - 2 * slot → n ≤ 5000 → Calls Tryz.prog 40 #[.agg #[.slice fA d.firm.length fc, .slice aA d.loose.length ac, .slice wA d.loose.length wc, .int .i64 L, .bool d.off], .int .i64 slot, .int .i64 place, .int .i64 n] w' fun e w'' => ∃ A c, e = .returned (.slice A n c) ∧ Lies w'' w''.heap.size A ((aroundL slot (d.seen.length - 2 * slot) place n).map natV) ∧ n ≤ c ∧ Below w'.heap.size w' w'') := Lib.hid (fun w' place n hp hn => DocAround_any _ slot (d.seen.length - 2 * slot) place n fc fA _ _ _ _ (by omega) (by omega) (by omega) hp hn w')
  have HV0 := Lib.hid (slotV_ok (a := 0) (d := d) hn4 hs hf)
  have HCu := Lib.hid (curS_ok (xs := d.seen) hs hf)
  have HX := Lib.hid hx
  have HRecL := Lib.hid (fun (v : WalV) (hv : v.Ok d.seen.length) len => rec_link hoff hv len)
  obtain ⟨i0, hi0, hz0, hz1, hz2⟩ := info_parts Tryz.infoStr5
  have HOff := Lib.hid hoff
  clear hx
  generalize d.firm.length = N at *
  generalize d.loose.length = ml at *
  generalize d.off = o at *
  have HLen := Lib.hid hlen
  clear ho ht h hl hlen hoff
  go_enter Tryz.func8, Tryz.ntmps8
  go_wp2_with fail
  go_loopg [6] 2 (fun kx i wr => ∃ (k : Nat) (cur : Hd), k ≤ 2 ∧ 2 - k ≤ kx ∧ i = .int .i64 k ∧ Hid (curQ d.seen slot k = cur) ∧ Hid (FindSt w wr (.slice fA N fc) (.slice aA ml ac) (.slice wA ml wc) (.int .i64 L) (.bool o) cur.1 cur.2.2.1 cur.2.2.2 0 (str (stateOf d.seen slot cur.1.toNat cur.2.1.toNat)) (.slice none 0 0)))
  case atStart => exact ⟨0, (0, 0, 0, 1), Nat.zero_le _, by omega, rfl, Lib.hid rfl, HSt⟩
  case round =>
    obtain ⟨k, cur, hk, hkx, rfl, HC, HS⟩ := hrel
    obtain ⟨c0, c1, c2, c3, c4, _⟩ := HS.out.five.cells
    have hk0 : (0 : Int) ≤ (k : Int) := Int.natCast_nonneg _
    by_cases hlt : k < 2
    · have hltz : (k : Int) < 2 := by omega
      have HN := Lib.hid (curQ_next (xs := d.seen) (slot := slot) hlt)
      by_cases hy : DocSlot (d.seen.getD (k * slot) []) d.seen.length slot k
      · have HCall := Lib.hid (HSY.out wr HS.out.bel k (by omega) hy)
        have HStp := Lib.hid (HStep.out k (by omega) cur)
        have hrd := HRd.out k (by omega)
        unfold slotYes at HCall
        rw [hrd] at HCall
        have hy2 := Lib.hid hy
        clear hrd hy
        generalize d.seen.getD (k * slot) [] = X at *
        obtain ⟨gy, hgy⟩ : ∃ gy, fld X 1 9 = gy := ⟨_, rfl⟩
        obtain ⟨ly, hly⟩ : ∃ ly, fld X 9 13 = ly := ⟨_, rfl⟩
        obtain ⟨py, hpy⟩ : ∃ py, fld X 13 17 = py := ⟨_, rfl⟩
        obtain ⟨ny, hny⟩ : ∃ ny, fld X 17 25 = ny := ⟨_, rfl⟩
        rw [hgy, hly, hpy, hny] at HCall HStp
        clear hgy hly hpy hny
        obtain ⟨sy, hsy⟩ : ∃ sy, str (stateOf d.seen slot gy.toNat ly.toNat) = sy := ⟨_, rfl⟩
        rw [hsy] at HCall
        have HSy := Lib.hid hsy
        clear hsy
        by_cases hgt : cur.1 < gy
        · have HNew := Lib.hid (HStp.out.1 ⟨hy2.out, hgt⟩)
          clear HStp
          obtain ⟨g1, g2, g3, g4⟩ := cur
          simp only at hgt HS HNew
          have hgtb : decide (g1 < gy) = true := decide_eq_true hgt
          clear hgt
          go_wp2_with fail
          refine HCall.out.mono ?_
          rintro e w2 ⟨rfl, hb2⟩
          have HS2 := Lib.hid (HS.out.next hb2)
          clear hb2
          have HS3 := Lib.hid (fun o => HS2.out.next ((Below.refl _ _).alloc (Nat.le_refl _) o))
          have e0 := fun o => (HS3.out o).g.cells.1
          have e1 := fun o => (HS3.out o).g.cells.2.1
          have e2 := fun o => (HS3.out o).g.cells.2.2.1
          have e3 := fun o => (HS3.out o).g.cells.2.2.2.1
          have e4 := fun o => (HS3.out o).g.cells.2.2.2.2.1
          have e5 := fun o => (HS3.out o).g.cells.2.2.2.2.2.1
          have e6 := fun o => (HS3.out o).g.cells.2.2.2.2.2.2
          clear c0 c1 c2 c3 c4
          go_wp2_with fail
          go_roundg (2 - (k + 1))
          case measure => omega
          case rel => exact ⟨k + 1, (gy, ly, py, ny), by omega, Nat.le_refl _, by go_num, Lib.hid (by rw [HN.out, HC.out]; exact HNew.out), Lib.hid (by rw [HSy.out]; exact (HS3.out _).put _ _ _ _ _ _)⟩
        · have HNew := Lib.hid (HStp.out.2 (fun h => hgt h.2))
          clear HStp
          obtain ⟨g1, g2, g3, g4⟩ := cur
          simp only at hgt HS HNew
          have hgtb : decide (g1 < gy) = false := decide_eq_false hgt
          clear hgt
          go_wp2_with fail
          refine HCall.out.mono ?_
          rintro e w2 ⟨rfl, hb2⟩
          have HS2 := Lib.hid (HS.out.next hb2)
          clear hb2
          have HS3 := Lib.hid (fun o => HS2.out.next ((Below.refl _ _).alloc (Nat.le_refl _) o))
          have e0 := fun o => (HS3.out o).g.cells.1
          clear c0 c1 c2 c3 c4
          go_wp2_with fail
          go_roundg (2 - (k + 1))
          case measure => omega
          case rel => exact ⟨k + 1, (g1, g2, g3, g4), by omega, Nat.le_refl _, by go_num, Lib.hid (by rw [HN.out, HC.out]; exact HNew.out), Lib.hid (HS3.out _)⟩
      · have HCall := Lib.hid (HSN.out wr HS.out.bel k (by omega) hy)
        have HNew := Lib.hid ((HStep.out k (by omega) cur).2 (fun h => hy h.1))
        clear hy
        go_wp2_with fail
        refine HCall.out.mono ?_
        rintro e w2 ⟨rfl, hb2⟩
        have HS2 := Lib.hid (HS.out.next hb2)
        clear hb2
        have HS3 := Lib.hid (fun o => HS2.out.next ((Below.refl _ _).alloc (Nat.le_refl _) o))
        clear c0 c1 c2 c3 c4
        go_wp2_with fail
        go_roundg (2 - (k + 1))
        case measure => omega
        case rel => exact ⟨k + 1, cur, by omega, Nat.le_refl _, by go_num, Lib.hid (by rw [HN.out, HC.out]; exact HNew.out), Lib.hid (HS3.out _)⟩
    · have hltz : ¬ (k : Int) < 2 := by omega
      obtain rfl : k = 2 := by omega
      obtain ⟨g1, g2, g3, g4⟩ := cur
      simp only at HS
      have HV := HV0
      have hcu := HC.out
      have hco := HCu.out
      unfold slotV at HV
      have hcq : curS d.seen slot = (g1, g2, g3, g4) := hcu
      have HOR : Hid (openR 0 d slot = (scanR d.seen d.seen.length ⟨0, slot, g1, g4, g3.toNat, 0, false⟩).2) := Lib.hid (by unfold openR slotV; rw [hcq])
      have HOV : Hid (openV 0 d slot = (scanR d.seen d.seen.length ⟨0, slot, g1, g4, g3.toNat, 0, false⟩).1) := Lib.hid (by unfold openV slotV; rw [hcq])
      have HOS : Hid (openS d slot = stateOf d.seen slot g1.toNat g2.toNat) := Lib.hid (by unfold openS; rw [hcq])
      rw [hcq] at HV
      rw [hcq] at hco
      have hp0 : 0 ≤ g3 := hco.p0
      have HK1 : Hid (g4 ≤ 1099511627776) := Lib.hid hco.k1
      simp only at HV
      clear hcu hco hcq HC HCu HV0 HStep HSY HSN HSt HQ0 HRd
      obtain ⟨q, rfl⟩ := Int.eq_ofNat_of_zero_le hp0
      clear hp0
      rw [Int.toNat_natCast] at HV HOR HOV
      obtain ⟨M, hM⟩ : ∃ M, d.seen.length - 2 * slot = M := ⟨_, rfl⟩
      have hMz : (N : Int) - 2 * (slot : Int) = (M : Int) := by have := HLen.out; omega
      have hM3 : 3 ≤ M := by omega
      have hM4 : M ≤ 4096 := by omega
      have HM := Lib.hid hM
      rw [hM] at HAr
      obtain ⟨ST, hST⟩ : ∃ ST, str (stateOf d.seen slot g1.toNat g2.toNat) = ST := ⟨_, rfl⟩
      rw [hST] at HS
      have HST : Hid (str (openS d slot) = ST) := Lib.hid (by rw [HOS.out]; exact hST)
      have HNl := Lib.hid hf
      have HN4 := Lib.hid hn4
      have hsl : slot ≤ 2048 := by omega
      obtain ⟨d0, d1, d2, d3, d4, _⟩ := HS.out.five.cells
      clear hST hM hf hn4 c0 c1 c2 c3 c4 HOS
      go_wp2_with fail
      clear d0 d1 d2 d3 d4
      go_loopg [10] M (fun kx s10 wr => ∃ (v : WalV) (pre : List (List UInt8)) (f : Nat) (A : Option Addr) (c : Nat), v.slot = slot ∧ M - v.used ≤ kx ∧ Hid (v.Ok d.seen.length) ∧ Hid (v.num ≤ 1099511627776 + v.used) ∧ Hid (scanR d.seen d.seen.length ⟨0, slot, g1, g4, q, 0, false⟩ = ((scanR d.seen f v).1, pre ++ (scanR d.seen f v).2)) ∧ Hid (M ≤ f + v.used) ∧ Hid (pre.length ≤ v.used) ∧ Hid (FindSt w wr (.slice fA N fc) (.slice aA ml ac) (.slice wA ml wc) (.int .i64 L) (.bool o) v.gen v.next v.num v.used ST (.slice A pre.length c)) ∧ Hid (wr.ownsRow (w.heap.size + 1 + 1 + 1) 9 1 (.slice A pre.length c) pre.length (pre.map secV)))
      case atStart => exact ⟨⟨0, slot, g1, g4, q, 0, false⟩, [], d.seen.length, none, 0, rfl, by omega, HV, Lib.hid (by have := HK1.out; show g4 ≤ 1099511627776 + ((0 : Nat) : Int); omega), Lib.hid (by simp), Lib.hid (by have := HM.out; omega), Lib.hid (Nat.zero_le _), HS, Lib.hid (World.ownsRow_nil _ _ _ _)⟩
      case round =>
        obtain ⟨v, pre, f, A, c, hvs, hvk, HOk, HNum, HSc, HF, HPl, HG, HO⟩ := hrel
        -- LOOP2
        obtain ⟨d0, d1, d2, d3, d4, _⟩ := HG.out.five.cells
        obtain ⟨z0, z1, z2, z3, z4, z5, _⟩ := HG.out.g.cells
        have hu := HOk.out.used
        have hnx := HOk.out.next
        have HPlace : Hid (v.place d.seen.length 0 = v.next) := Lib.hid (by unfold WalV.place; rw [Nat.add_zero]; exact Nat.mod_eq_of_lt hnx)
        have HRec := Lib.hid (rec_doc HOk.out HX.out (by have := HOk.out.k1; omega) (by have := HOk.out.k2; omega))
        rw [HPlace.out, hvs, HM.out] at HRec
        rw [hvs, HM.out] at hu hnx
        have hk2 := HOk.out.k2
        have hk1 := HOk.out.k1
        have HSecC := HSec.out wr HG.out.bel (2 * slot + v.next) (by have := HNl.out; have := HM.out; omega)
        have hxl : (d.seen.getD (2 * slot + v.next) []).length = 32 := getD_32 HX.out (by have := HNl.out; have := HM.out; omega)
        rw [show (((2 * slot + v.next : Nat)) : Int) = 2 * (slot : Int) + (v.next : Int) from by omega] at HSecC
        obtain ⟨x, hxx⟩ : ∃ x, d.seen.getD (2 * slot + v.next) [] = x := ⟨_, rfl⟩
        rw [hxx] at HSecC hxl HRec
        clear hxx
        obtain ⟨Z, hz, hz9⟩ := getN_four (l := (x.drop 9).take (13 - 9)) (by rw [List.length_take]; omega)
        have hfz : fld x 9 13 = (Z : Int) := hz
        have HGet := Lib.hid (fun w' => by
          have t := DocGet_any (str x) 9 13 (by rw [str_size]; omega) (by omega) (by rw [str_size]; omega) w'
          rw [str_list] at t
          rw [show getN ((x.drop 9).take (13 - 9)) = (Z : Int) from hz] at t
          exact t)
        rw [hfz, Int.toNat_natCast] at HRec
        have HDoc : Hid (DocRec x M v.used v.num ↔ (x = padB (recHead v.num (Z : Int)) ∧ (Z : Int) ≤ 32 * (M : Int) ∧ v.used + 1 + secs Z < M)) := Lib.hid (by unfold DocRec; rw [hfz, Int.toNat_natCast])
        have HRH := Lib.hid (fun w' => DocRecordHead_any v.num (Z : Int) w' (by omega) (by omega))
        have hseq : (str x).toList = (str (padB (recHead v.num (Z : Int)))).toList ↔ x = padB (recHead v.num (Z : Int)) := ⟨fun e => by rwa [Lib.toList_data, str_list, Lib.toList_data, str_list] at e, fun e => by rw [← e]⟩
        have HSeq := Lib.hid hseq
        obtain ⟨S, hS⟩ : ∃ S, str x = S := ⟨_, rfl⟩
        obtain ⟨S2, hS2⟩ : ∃ S, str (padB (recHead v.num (Z : Int))) = S := ⟨_, rfl⟩
        rw [hS] at HSecC HSeq HGet
        rw [hS2] at HRH HSeq
        have HSecC2 := Lib.hid HSecC
        have HVs := Lib.hid hvs
        clear HSecC hseq hS hS2 hz hfz hxl hvs
        have hZ0 : (0 : Int) ≤ (Z : Int) := Int.natCast_nonneg _
        have hu0 : (0 : Int) ≤ (v.used : Int) := Int.natCast_nonneg _
        have hn0 : (0 : Int) ≤ (v.next : Int) := Int.natCast_nonneg _
        have hnM : (v.next : Int) < (M : Int) := by omega
        have huM : (v.used : Int) < (M : Int) := by omega
        have hsz : (0 : Int) ≤ (slot : Int) := Int.natCast_nonneg _
        obtain ⟨vd, vs, vg, vn, vx, vu, vdn⟩ := v
        simp only at *
        have wM : IntKind.i64.wrap (32 * (M : Int)) = 32 * (M : Int) := by rw [IntKind.wrap_i64]; omega
        have wU : IntKind.i64.wrap ((vu : Int) + 1) = (vu : Int) + 1 := by rw [IntKind.wrap_i64]; omega
        by_cases q0 : S.toList = S2.toList
        case neg =>
          have HNone := Lib.hid (HRec.out.2 (fun h => q0 (HSeq.out.2 (HDoc.out.1 h).1)))
          go_wp2_with fail
          refine HSecC2.out.mono ?_
          rintro e w1 ⟨rfl, hb1⟩
          have HG1 := Lib.hid (HG.out.next hb1)
          have HO1 := Lib.hid (own_kept HO.out hb1)
          clear hb1 d0 d1 d2 d3 d4 z0 z1 z2 z3 z4 z5
          go_wp2_with fail
          refine (HGet.out _).mono ?_
          rintro e w' ⟨rfl, rfl⟩
          go_wp2_with fail
          have y2 := fun (z : LatW w1) => (HG1.out.next z.bel).g.cells.2.2.1
          have y3 := fun (z : LatW w1) => (HG1.out.next z.bel).g.cells.2.2.2.1
          refine wp_region_in (V := w1) (Below.refl _ _) (by kernel_rfl) (by kernel_rfl) ?_
          repeat (first | go_big_quiet_skip | quiet_step (first | (go_at_call 38; exact Calls.later_of (HRH.out _)) | (go_at_call 39; exact Calls.later_same (HCeil.out _))) | (go_big_quiet_want; go_big_quiet_op; go_big_quiet_on))
          refine wpQuiet_nil ?_
          intro w9 hw9
          obtain ⟨p9, hw9'⟩ := hw9
          subst hw9'
          have HG9 := Lib.hid (HG1.out.next p9.bel)
          obtain ⟨z0, z1, z2, z3, z4, z5, _⟩ := HG9.out.g.cells
          obtain ⟨r0, r1, r2, r3, r4, r5, r6⟩ := HG9.out.res.cells
          have HEnd := Lib.hid (find_end HG9.out ((own_kept HO1.out p9.bel)) (by omega) HOR.out HOV.out HST.out HSc.out (scanR_stop HNone.out f))
          clear y2 y3
          go_wp2_with fail
          (try simp only [Exit.inBlock, Exit.then])
          have HR := (HG9.out.res.set vg vx vn vu ST (.slice A pre.length c))
          refine bodyPost_ret (v := .agg #[.int .i64 vg, .int .i64 vx, .int .i64 vn, .int .i64 vu, .string ST, .slice A pre.length c]) (results_cell_row rfl _ _ (w.heap.size + 1) 38 #[.int .i64 vg, .int .i64 vx, .int .i64 vn, .int .i64 vu, .string ST, .slice A pre.length c] (0, 0) _ rfl HR logD_desc rfl (by kernel_rfl)) rfl HEnd.out
        by_cases q1 : (Z : Int) ≤ 32 * (M : Int)
        case neg =>
          have HNone := Lib.hid (HRec.out.2 (fun h => q1 (HDoc.out.1 h).2.1))
          have q1b : decide (32 * (M : Int) < (Z : Int)) = true := by rw [decide_eq_true_iff]; omega
          clear q1
          go_wp2_with fail
          refine HSecC2.out.mono ?_
          rintro e w1 ⟨rfl, hb1⟩
          have HG1 := Lib.hid (HG.out.next hb1)
          have HO1 := Lib.hid (own_kept HO.out hb1)
          clear hb1 d0 d1 d2 d3 d4 z0 z1 z2 z3 z4 z5
          go_wp2_with fail
          refine (HGet.out _).mono ?_
          rintro e w' ⟨rfl, rfl⟩
          go_wp2_with fail
          have y2 := fun (z : LatW w1) => (HG1.out.next z.bel).g.cells.2.2.1
          have y3 := fun (z : LatW w1) => (HG1.out.next z.bel).g.cells.2.2.2.1
          refine wp_region_in (V := w1) (Below.refl _ _) (by kernel_rfl) (by kernel_rfl) ?_
          repeat (first | go_big_quiet_skip | quiet_step (first | (go_at_call 38; exact Calls.later_of (HRH.out _)) | (go_at_call 39; exact Calls.later_same (HCeil.out _))) | (go_big_quiet_want; go_big_quiet_op; go_big_quiet_on))
          refine wpQuiet_nil ?_
          intro w9 hw9
          obtain ⟨p9, hw9'⟩ := hw9
          subst hw9'
          have HG9 := Lib.hid (HG1.out.next p9.bel)
          obtain ⟨z0, z1, z2, z3, z4, z5, _⟩ := HG9.out.g.cells
          obtain ⟨r0, r1, r2, r3, r4, r5, r6⟩ := HG9.out.res.cells
          have HEnd := Lib.hid (find_end HG9.out ((own_kept HO1.out p9.bel)) (by omega) HOR.out HOV.out HST.out HSc.out (scanR_stop HNone.out f))
          clear y2 y3
          go_wp2_with fail
          (try simp only [Exit.inBlock, Exit.then])
          have HR := (HG9.out.res.set vg vx vn vu ST (.slice A pre.length c))
          refine bodyPost_ret (v := .agg #[.int .i64 vg, .int .i64 vx, .int .i64 vn, .int .i64 vu, .string ST, .slice A pre.length c]) (results_cell_row rfl _ _ (w.heap.size + 1) 38 #[.int .i64 vg, .int .i64 vx, .int .i64 vn, .int .i64 vu, .string ST, .slice A pre.length c] (0, 0) _ rfl HR logD_desc rfl (by kernel_rfl)) rfl HEnd.out
        have q1b : decide (32 * (M : Int) < (Z : Int)) = false := by rw [decide_eq_false_iff_not]; omega
        have HCeil := Lib.hid (fun w' => DocCeil_any Z (by omega) w')
        have HZ1 := Lib.hid (le_secs Z)
        have hsc : secs Z ≤ 4096 := by unfold secs; omega
        obtain ⟨cz, hcz⟩ : ∃ cz, secs Z = cz := ⟨_, rfl⟩
        rw [hcz] at HCeil HZ1 hsc HDoc
        have HCz := Lib.hid hcz
        clear hcz
        have hcz0 : (0 : Int) ≤ (cz : Int) := Int.natCast_nonneg _
        have wC : IntKind.i64.wrap ((vu : Int) + 1 + (cz : Int)) = (vu : Int) + 1 + (cz : Int) := by rw [IntKind.wrap_i64]; omega
        by_cases q2 : vu + 1 + cz < M
        case neg =>
          have HNone := Lib.hid (HRec.out.2 (fun h => q2 (HDoc.out.1 h).2.2))
          have q2b : decide ((M : Int) ≤ (vu : Int) + 1 + (cz : Int)) = true := by rw [decide_eq_true_iff]; omega
          clear q2
          go_wp2_with fail
          refine HSecC2.out.mono ?_
          rintro e w1 ⟨rfl, hb1⟩
          have HG1 := Lib.hid (HG.out.next hb1)
          have HO1 := Lib.hid (own_kept HO.out hb1)
          clear hb1 d0 d1 d2 d3 d4 z0 z1 z2 z3 z4 z5
          go_wp2_with fail
          refine (HGet.out _).mono ?_
          rintro e w' ⟨rfl, rfl⟩
          go_wp2_with fail
          have y2 := fun (z : LatW w1) => (HG1.out.next z.bel).g.cells.2.2.1
          have y3 := fun (z : LatW w1) => (HG1.out.next z.bel).g.cells.2.2.2.1
          refine wp_region_in (V := w1) (Below.refl _ _) (by kernel_rfl) (by kernel_rfl) ?_
          repeat (first | go_big_quiet_skip | quiet_step (first | (go_at_call 38; exact Calls.later_of (HRH.out _)) | (go_at_call 39; exact Calls.later_same (HCeil.out _))) | (go_big_quiet_want; go_big_quiet_op; go_big_quiet_on))
          refine wpQuiet_nil ?_
          intro w9 hw9
          obtain ⟨p9, hw9'⟩ := hw9
          subst hw9'
          have HG9 := Lib.hid (HG1.out.next p9.bel)
          obtain ⟨z0, z1, z2, z3, z4, z5, _⟩ := HG9.out.g.cells
          obtain ⟨r0, r1, r2, r3, r4, r5, r6⟩ := HG9.out.res.cells
          have HEnd := Lib.hid (find_end HG9.out ((own_kept HO1.out p9.bel)) (by omega) HOR.out HOV.out HST.out HSc.out (scanR_stop HNone.out f))
          clear y2 y3
          go_wp2_with fail
          (try simp only [Exit.inBlock, Exit.then])
          have HR := (HG9.out.res.set vg vx vn vu ST (.slice A pre.length c))
          refine bodyPost_ret (v := .agg #[.int .i64 vg, .int .i64 vx, .int .i64 vn, .int .i64 vu, .string ST, .slice A pre.length c]) (results_cell_row rfl _ _ (w.heap.size + 1) 38 #[.int .i64 vg, .int .i64 vx, .int .i64 vn, .int .i64 vu, .string ST, .slice A pre.length c] (0, 0) _ rfl HR logD_desc rfl (by kernel_rfl)) rfl HEnd.out
        have q2b : decide ((M : Int) ≤ (vu : Int) + 1 + (cz : Int)) = false := by rw [decide_eq_false_iff_not]; omega
        have HSome := Lib.hid (HRec.out.1 (HDoc.out.2 ⟨HSeq.out.1 q0, q1, q2⟩))
        go_wp2_with fail
        refine HSecC2.out.mono ?_
        rintro e w1 ⟨rfl, hb1⟩
        have HG1 := Lib.hid (HG.out.next hb1)
        have HO1 := Lib.hid (own_kept HO.out hb1)
        clear hb1 d0 d1 d2 d3 d4 z0 z1 z2 z3 z4 z5
        go_wp2_with fail
        refine (HGet.out _).mono ?_
        rintro e w' ⟨rfl, rfl⟩
        go_wp2_with fail
        have y2 := fun (z : LatW w1) => (HG1.out.next z.bel).g.cells.2.2.1
        have y3 := fun (z : LatW w1) => (HG1.out.next z.bel).g.cells.2.2.2.1
        refine wp_region_in (V := w1) (Below.refl _ _) (by kernel_rfl) (by kernel_rfl) ?_
        repeat (first | go_big_quiet_skip | quiet_step (first | (go_at_call 38; exact Calls.later_of (HRH.out _)) | (go_at_call 39; exact Calls.later_same (HCeil.out _))) | (go_big_quiet_want; go_big_quiet_op; go_big_quiet_on))
        refine wpQuiet_nil ?_
        intro w9 hw9
        obtain ⟨p9, hw9'⟩ := hw9
        subst hw9'
        have HG9 := Lib.hid (HG1.out.next p9.bel)
        have HO9 := Lib.hid (own_kept HO1.out p9.bel)
        clear y2 y3
        have w1c : IntKind.i64.wrap (1 + (cz : Int)) = 1 + (cz : Int) := by rw [IntKind.wrap_i64]; omega
        have HArC := Lib.hid (fun w' => by
          have t := HAr.out w' vx (1 + cz) hnx (by omega)
          rw [show ((1 + cz : Nat) : Int) = 1 + (cz : Int) from by omega] at t
          exact t)
        have hbig := HG9.out.big
        go_wp2_with fail
        refine wp_region_held_drew (S := fun w' => Below (w.heap.size + 1 + 1 + 1) p9.wd w') (by kernel_rfl) (Below.refl _ _).drew (fun hHeld => ?_)
        refine wpAnyH_take (i := 0) (oi := { dst := some 72, op := Op.load 30 (Operand.tmp 2), type := 30, pos := "ref.go:109", after := #[], guard := none }) (v := .agg #[.slice fA N fc, .slice aA ml ac, .slice wA ml wc, .int .i64 L, .bool o]) rfl (by kernel_rfl) (by kernel_rfl) (by kernel_rfl) (fun _ _ _ h => h) (Or.inl ⟨by rfl, fun w hS => by obtain ⟨s0, s1, s2, s3, s4, _⟩ := (HG9.out.keep hS).five.cells; go_simp⟩) hHeld ?_
        try simp only [Act.put, List.setIfInBounds_toArray, List.set_cons_zero, List.set_cons_succ]
        refine wpAnyH_take (i := 1) (oi := { dst := some 73, op := Op.move (Operand.tmp 1), type := 3, pos := "ref.go:109", after := #[], guard := none }) (v := .int .i64 slot) rfl (by kernel_rfl) (by kernel_rfl) (by kernel_rfl) (fun _ _ _ h => h) (Or.inl ⟨by rfl, fun w hS => by go_simp⟩) hHeld ?_
        try simp only [Act.put, List.setIfInBounds_toArray, List.set_cons_zero, List.set_cons_succ]
        refine wpAnyH_take (i := 2) (oi := { dst := some 74, op := Op.fieldAddr 38 (Operand.tmp 5) 1, type := 0, pos := "ref.go:109", after := #[], guard := none }) (v := .pointer (some ⟨w.heap.size + 1 + 1, 1, none⟩)) rfl (by kernel_rfl) (by kernel_rfl) (by kernel_rfl) (fun _ _ _ h => h) (Or.inl ⟨by rfl, fun w hS => by go_simp⟩) hHeld ?_
        try simp only [Act.put, List.setIfInBounds_toArray, List.set_cons_zero, List.set_cons_succ]
        refine wpAnyH_take (i := 3) (oi := { dst := some 75, op := Op.load 3 (Operand.tmp 74), type := 3, pos := "ref.go:109", after := #[{ on := 2, ground := Ground.data }], guard := none }) (v := .int .i64 vx) rfl (by kernel_rfl) (by kernel_rfl) (by kernel_rfl) (fun _ _ _ h => h) (Or.inl ⟨by rfl, fun w hS => by obtain ⟨s0, s1, s2, s3, s4, s5, _⟩ := (HG9.out.keep hS).g.cells; go_simp⟩) hHeld ?_
        try simp only [Act.put, List.setIfInBounds_toArray, List.set_cons_zero, List.set_cons_succ]
        refine wpAnyH_take (i := 4) (oi := { dst := some 76, op := Op.move (Operand.tmp 11), type := 3, pos := "ref.go:109", after := #[], guard := none }) (v := .int .i64 Z) rfl (by kernel_rfl) (by kernel_rfl) (by kernel_rfl) (fun _ _ _ h => h) (Or.inl ⟨by rfl, fun w hS => by go_simp⟩) hHeld ?_
        try simp only [Act.put, List.setIfInBounds_toArray, List.set_cons_zero, List.set_cons_succ]
        have HBd : Hid (Below p9.wd.heap.size p9.wd p9.wd.drew) := Lib.hid (Below.refl _ _).drew
        generalize p9.wd.drew = W at *
        refine wpAnyH_ready (rs := [5]) (by kernel_rfl) (by simp) ?_
        refine AllReadyH.cons (o := { dst := some 77, op := Op.call { callee := Callee.value (Operand.func 39), args := #[Operand.tmp 76], argTypes := #[3] }, type := 3, pos := "ref.go:109", after := #[{ on := 4, ground := Ground.data }], guard := none }) rfl (fun K hK => ?_) AllReadyH.nil
        rw [if_pos (by rfl)]
        go_simp
        refine (HCeil.out _).mono ?_
        rintro e w9 ⟨rfl, rfl⟩
        go_wp2_with fail
        refine hK.out _ _ hHeld (fun hHeld1 => ?_)
        clear hK K
        try simp only [Act.put, List.setIfInBounds_toArray, List.set_cons_zero, List.set_cons_succ]
        refine wpAnyH_take (i := 6) (oi := { dst := some 78, op := Op.binOp BinOp.add 3 (Operand.const (Value.int IntKind.i64 1)) (Operand.tmp 77) 3, type := 3, pos := "ref.go:109", after := #[{ on := 5, ground := Ground.data }], guard := none }) (v := .int .i64 (1 + (cz : Int))) rfl (by kernel_rfl) (by kernel_rfl) (by kernel_rfl) (fun _ _ _ h => h) (Or.inl ⟨by rfl, fun w hS => by go_simp⟩) hHeld1 ?_
        try simp only [Act.put, List.setIfInBounds_toArray, List.set_cons_zero, List.set_cons_succ]
        refine wpAnyH_ready (rs := [7]) (by kernel_rfl) (by simp) ?_
        refine AllReadyH.cons (o := { dst := some 79, op := Op.call { callee := Callee.value (Operand.func 40), args := #[Operand.tmp 72, Operand.tmp 73, Operand.tmp 75, Operand.tmp 78], argTypes := #[30, 3, 3, 3] }, type := 28, pos := "ref.go:109", after := #[{ on := 0, ground := Ground.data }, { on := 1, ground := Ground.data }, { on := 3, ground := Ground.data }, { on := 6, ground := Ground.data }, { on := 5, ground := Ground.chain }], guard := none }) rfl (fun K hK => ?_) AllReadyH.nil
        rw [if_pos (by rfl)]
        go_simp
        refine (HArC.out _).mono ?_
        rintro e w5 ⟨A4, c4, rfl, hl4, hcap4, hb4⟩
        go_wp2_with fail
        have HB5 := Lib.hid (below_next HBd.out hb4)
        have HG5 := Lib.hid (HG9.out.next HB5.out)
        have HO5 := Lib.hid (own_kept HO9.out HB5.out)
        obtain ⟨b4, f4, hA4, hlt4, hc4⟩ := hl4.at_ (by intro e; have := congrArg List.length e; simp [aroundL] at this)
        subst hA4
        obtain ⟨A5, hA5⟩ : ∃ A5 : Option Addr, (if c4 = 1 then some (⟨b4, f4, none⟩ : Addr) else some ⟨b4, f4 + 1, none⟩) = A5 := ⟨_, rfl⟩
        have HL4 : Hid (Lies w5 w5.heap.size A5 ((aroundL slot M vx (1 + cz)).tail.map natV)) := Lib.hid (by
          have t := hl4.part 1 (1 + cz)
          rw [List.take_of_length_le (by simp [aroundL])] at t
          rw [List.map_tail, ← List.drop_one]
          by_cases h1 : c4 = 1
          · left
            rw [List.drop_eq_nil_of_le]
            simp [aroundL]; omega
          · rw [← hA5, if_neg h1]; exact t)
        clear hl4 hb4 hlt4 hc4 hcap4
        have h1c : (1 : Int) ≤ 1 + (cz : Int) := by omega
        refine hK.out _ _ (HB5.out.mono hbig) (fun hHeld2 => ?_)
        clear hK K
        try simp only [Act.put, List.setIfInBounds_toArray, List.set_cons_zero, List.set_cons_succ]
        refine wpAnyH_take (i := 8) (oi := { dst := some 12, op := Op.assign (Operand.tmp 79), type := 28, pos := "ref.go:109", after := #[{ on := 7, ground := Ground.data }, { on := 7, ground := Ground.chain }, { on := 0, ground := Ground.phase }, { on := 1, ground := Ground.phase }, { on := 2, ground := Ground.phase }, { on := 3, ground := Ground.phase }, { on := 4, ground := Ground.phase }, { on := 5, ground := Ground.phase }, { on := 6, ground := Ground.phase }, { on := 7, ground := Ground.phase }], guard := none }) (v := .slice (some ⟨b4, f4, none⟩) (1 + cz) c4) rfl (by kernel_rfl) (by kernel_rfl) (by kernel_rfl) (fun _ _ _ h => h) (Or.inl ⟨by rfl, fun w hS => by go_simp⟩) hHeld2 ?_
        try simp only [Act.put, List.setIfInBounds_toArray, List.set_cons_zero, List.set_cons_succ]
        refine wpAnyH_done (by kernel_rfl) ?_ _
        clear hHeld hHeld1 hHeld2
        have hbig5 := HG5.out.big
        go_upto_region 14 with fail
        go_cut [12] from 40 to 109 (fun v wx => v = .slice (some ⟨b4, f4, none⟩) (1 + cz) c4 ∧ ∃ (g8 cap8 : Nat), Hid (FindSt w wx (.slice fA N fc) (.slice aA ml ac) (.slice wA ml wc) (.int .i64 L) (.bool o) vg vx vn vu ST (.slice (some ⟨g8, 0, none⟩) (pre.length + 1) cap8)) ∧ Hid (wx.ownsRow (w.heap.size + 1 + 1 + 1) 9 1 (.slice (some ⟨g8, 0, none⟩) (pre.length + 1) cap8) (pre.length + 1) ((pre ++ [recB d.seen ⟨vd, slot, vg, vn, vx, vu, vdn⟩ Z]).map secV)))
        case first =>
          refine wp_region_held_drew (S := fun w' => Below (w.heap.size + 1 + 1) w5 w') (by kernel_rfl) (Below.refl _ _).drew (fun hHeld => ?_)
          have HDk := Lib.hid (fun w' (hb : Below (w.heap.size + 1 + 1) w5 w') => (HG5.out.five.below hb (by omega)).cells)
          refine wpAnyH_take (i := 0) (oi := { dst := some 80, op := Op.fieldAddr 38 (Operand.tmp 5) 5, type := 0, pos := "ref.go:110", after := #[], guard := none }) (v := .pointer (some ⟨w.heap.size + 1 + 1, 5, none⟩)) rfl (by kernel_rfl) (by kernel_rfl) (by kernel_rfl) (fun _ _ _ h => h) (Or.inl ⟨by rfl, fun w hS => by go_simp⟩) hHeld ?_
          try simp only [Act.put, List.setIfInBounds_toArray, List.set_cons_zero, List.set_cons_succ]
          refine wpAnyH_take (i := 2) (oi := { dst := some 82, op := Op.load 30 (Operand.tmp 2), type := 30, pos := "ref.go:110", after := #[], guard := none }) (v := .agg #[.slice fA N fc, .slice aA ml ac, .slice wA ml wc, .int .i64 L, .bool o]) rfl (by kernel_rfl) (by kernel_rfl) (by kernel_rfl) (fun _ _ _ h => h) (Or.inl ⟨by rfl, fun w hS => by obtain ⟨s0, s1, s2, s3, s4, _⟩ := HDk.out w hS; go_simp⟩) hHeld ?_
          try simp only [Act.put, List.setIfInBounds_toArray, List.set_cons_zero, List.set_cons_succ]
          refine wpAnyH_take (i := 3) (oi := { dst := some 83, op := Op.move (Operand.tmp 11), type := 3, pos := "ref.go:110", after := #[], guard := none }) (v := .int .i64 Z) rfl (by kernel_rfl) (by kernel_rfl) (by kernel_rfl) (fun _ _ _ h => h) (Or.inl ⟨by rfl, fun w hS => by go_simp⟩) hHeld ?_
          try simp only [Act.put, List.setIfInBounds_toArray, List.set_cons_zero, List.set_cons_succ]
          refine wpAnyH_take (i := 4) (oi := { dst := some 84, op := Op.move (Operand.tmp 12), type := 28, pos := "ref.go:110", after := #[], guard := none }) (v := .slice (some ⟨b4, f4, none⟩) (1 + cz) c4) rfl (by kernel_rfl) (by kernel_rfl) (by kernel_rfl) (fun _ _ _ h => h) (Or.inl ⟨by rfl, fun w hS => by go_simp⟩) hHeld ?_
          try simp only [Act.put, List.setIfInBounds_toArray, List.set_cons_zero, List.set_cons_succ]
          refine wpAnyH_take (i := 5) (oi := { dst := some 85, op := Op.slice 28 (Operand.tmp 84) (some (Operand.const (Value.int IntKind.i64 1))) none none, type := 28, pos := "ref.go:110", after := #[{ on := 4, ground := Ground.data }], guard := none }) (v := .slice A5 cz (c4 - 1)) rfl (by kernel_rfl) (by kernel_rfl) (by kernel_rfl) (fun _ _ _ h => h) (Or.inl ⟨by rfl, fun w hS => by go_simp; done⟩) hHeld ?_
          try simp only [Act.put, List.setIfInBounds_toArray, List.set_cons_zero, List.set_cons_succ]
          have HReC := Lib.hid (fun w' c (hb : Below w.heap.size w w') (hl : Lies w' w'.heap.size A5 ((aroundL slot M vx (1 + cz)).tail.map natV)) => HBy.out w' A5 c Z ((aroundL slot M vx (1 + cz)).tail) hb hl (fun y hy => around_lt HNl.out HM.out hy) (by rw [around_tl]; exact HZ1.out) (by rw [around_tl]; omega))
          have hRec : (readsL d ((aroundL slot M vx (1 + cz)).tail)).take Z = recB d.seen ⟨vd, slot, vg, vn, vx, vu, vdn⟩ Z := by
            have t := HRecL.out ⟨vd, slot, vg, vn, vx, vu, vdn⟩ (by have := HOk.out; rw [HVs.out] at this; exact this) Z
            simp only at t
            rw [HM.out, HCz.out] at t
            exact t
          obtain ⟨RE, hRE⟩ : ∃ RE, recB d.seen ⟨vd, slot, vg, vn, vx, vu, vdn⟩ Z = RE := ⟨_, rfl⟩
          rw [hRec, around_tl, hRE] at HReC
          have HRE := Lib.hid hRE
          clear hRec hRE
          have HBd5 : Hid (Below w5.heap.size w5 w5.drew) := Lib.hid (Below.refl _ _).drew
          have HL5 := Lib.hid (HL4.out.next HBd5.out)
          have HO5d := Lib.hid (own_kept HO5.out HBd5.out)
          generalize w5.drew = W5 at *
          have z5W := (HG5.out.next HBd5.out).g.cells.2.2.2.2.2.1
          refine wpAnyH_ready (rs := [1, 6]) (by kernel_rfl) (by simp) ?_
          refine AllReadyH.cons (o := { dst := some 81, op := Op.load 27 (Operand.tmp 80), type := 27, pos := "ref.go:110", after := #[{ on := 0, ground := Ground.data }], guard := none }) rfl (fun K hK => ?_) (AllReadyH.cons (o := { dst := some 86, op := Op.call { callee := Callee.value (Operand.func 41), args := #[Operand.tmp 82, Operand.tmp 83, Operand.tmp 85], argTypes := #[30, 3, 28] }, type := 9, pos := "ref.go:110", after := #[{ on := 2, ground := Ground.data }, { on := 3, ground := Ground.data }, { on := 5, ground := Ground.data }], guard := none }) rfl (fun K hK => ?_) AllReadyH.nil)
          · have zL : W5.cell? ⟨w.heap.size + 1 + 1, 5, none⟩ = some (.slice A pre.length c) := (HG5.out.next HBd5.out).g.cells.2.2.2.2.2.1
            rw [if_pos (by rfl)]
            go_simp
            clear zL
            refine hK.out _ _ (HBd5.out.mono (by show w.heap.size + 1 + 1 ≤ w5.heap.size; omega)) (fun hA1 => ?_)
            clear hK K
            try simp only [Act.put, List.setIfInBounds_toArray, List.set_cons_zero, List.set_cons_succ]
            refine wpAnyH_ready (rs := [6]) (by kernel_rfl) (by simp) ?_
            refine AllReadyH.cons (o := { dst := some 86, op := Op.call { callee := Callee.value (Operand.func 41), args := #[Operand.tmp 82, Operand.tmp 83, Operand.tmp 85], argTypes := #[30, 3, 28] }, type := 9, pos := "ref.go:110", after := #[{ on := 2, ground := Ground.data }, { on := 3, ground := Ground.data }, { on := 5, ground := Ground.data }], guard := none }) rfl (fun K hK => ?_) AllReadyH.nil
            rw [if_pos (by rfl)]
            go_simp
            refine (HReC.out _ _ (HG5.out.bel.trans (HBd5.out.mono HG5.out.bel.size)) HL5.out).mono ?_
            rintro e w6 ⟨rfl, hb6⟩
            go_wp2_with fail
            have HB6 := Lib.hid (below_next HBd5.out hb6)
            have HO6 := Lib.hid (own_kept HO5d.out hb6)
            clear hb6
            refine hK.out _ _ (HB6.out.mono (by show w.heap.size + 1 + 1 ≤ w5.heap.size; omega)) (fun hA2 => ?_)
            clear hK K
            try simp only [Act.put, List.setIfInBounds_toArray, List.set_cons_zero, List.set_cons_succ]
            refine wpAnyH_ready (rs := [7]) (by kernel_rfl) (by simp) ?_
            refine AllReadyH.cons (o := { dst := some 87, op := Op.buildSlice 27 1 #[(0, Operand.tmp 86)], type := 27, pos := "ref.go:110", after := #[{ on := 6, ground := Ground.data }], guard := none }) rfl (fun K hK => ?_) AllReadyH.nil
            rw [if_pos (by rfl)]
            go_simp
            have HO7 := Lib.hid (HO6.out.alloc (.cells #[.string (str RE)] 9))
            have hnew7 : ∀ j u, ([.string (str RE)] : List Value)[j]? = some u → (w6.alloc (.cells #[.string (str RE)] 9)).cell? ((⟨w6.heap.size, 0, none⟩ : Addr).add j) = some u := World.news_of_block (cs := #[.string (str RE)]) (t := 9) (fr := (0, 0)) (heap_alloc_new w6 _)
            have HNew7 := Lib.hid hnew7
            have HB7 := Lib.hid (HB6.out.alloc HB6.out.size (.cells #[.string (str RE)] 9))
            clear hnew7
            refine hK.out _ _ (HB7.out.mono (by show w.heap.size + 1 + 1 ≤ w5.heap.size; omega)) (fun hA3 => ?_)
            clear hK K
            try simp only [Act.put, List.setIfInBounds_toArray, List.set_cons_zero, List.set_cons_succ]
            generalize w6.alloc (.cells #[.string (str RE)] 9) = w7 at *
            generalize w6.heap.size = q7 at *
            have hbig7 : w.heap.size + 1 + 1 + 1 ≤ w7.heap.size := Nat.le_trans hbig5 HB7.out.size
            have hpl : pre.length ≤ 4096 := by have := HPl.out; omega
            refine wpAnyH_ready (rs := [8]) (by kernel_rfl) (by simp) ?_
            refine AllReadyH.cons (o := { dst := some 88, op := Op.call { callee := Callee.builtin Builtin.append, args := #[Operand.tmp 81, Operand.tmp 87], argTypes := #[27, 27] }, type := 27, pos := "ref.go:110", after := #[{ on := 1, ground := Ground.data }, { on := 7, ground := Ground.data }, { on := 6, ground := Ground.chain }], guard := none }) rfl (fun K hK => ?_) AllReadyH.nil
            refine step_append_lies _ (by rfl) _ _ _ (by rfl) (w.heap.size + 1 + 1 + 1) 9 i0 (.string ByteArray.empty) 1 16 Tryz.underlying27 hi0 hz0 hz1 hz2 rfl (by decide) (.slice A pre.length c) pre.length (pre.map secV) (by rfl) HO7.out ⟨q7, 0, none⟩ 1 1 [.string (str RE)] (by rfl) (by rfl) HNew7.out (by simp [Value.oneCell']) (by omega) (by unfold maxLen; omega) (by omega) hbig7 w7.heap.size rfl ?_
            intro g8 cap8 w8 hown8 hg8 _ _
            have HB8 : Hid (Below (w.heap.size + 1 + 1 + 1) w5 w8) := Lib.hid ((HB7.out.mono hbig5).grown hg8 hbig7 (fun k hk => (HO7.out.lt k hk).1))
            have HG8 := Lib.hid (HG5.out.keep HB8.out)
            have HO8 : Hid (w8.ownsRow (w.heap.size + 1 + 1 + 1) 9 1 (.slice (some ⟨g8, 0, none⟩) (pre.length + 1) cap8) (pre.length + 1) ((pre ++ [RE]).map secV)) := Lib.hid (by rw [List.map_append]; exact hown8)
            clear hown8 hg8
            refine hK.out _ _ (HB8.out.mono (Nat.le_succ _)) (fun hA3x => ?_)
            clear hK K
            try simp only [Act.put, List.setIfInBounds_toArray, List.set_cons_zero, List.set_cons_succ]
            refine wpAnyH_take (i := 9) (oi := { dst := some 89, op := Op.fieldAddr 38 (Operand.tmp 5) 5, type := 0, pos := "ref.go:110", after := #[{ on := 0, ground := Ground.phase }, { on := 1, ground := Ground.phase }, { on := 2, ground := Ground.phase }, { on := 3, ground := Ground.phase }, { on := 4, ground := Ground.phase }, { on := 5, ground := Ground.phase }, { on := 6, ground := Ground.phase }, { on := 7, ground := Ground.phase }, { on := 8, ground := Ground.phase }], guard := none }) (v := .pointer (some ⟨w.heap.size + 1 + 1, 5, none⟩)) rfl (by kernel_rfl) (by kernel_rfl) (by kernel_rfl) (fun _ _ _ h => h) (Or.inl ⟨by rfl, fun w hS => by go_simp⟩) hA3x ?_
            try simp only [Act.put, List.setIfInBounds_toArray, List.set_cons_zero, List.set_cons_succ]
            have m5 := HG8.out.g.cells.2.2.2.2.2.1
            have m6 := HG8.out.g.cells.2.2.2.2.2.2
            refine wpAnyH_ready (rs := [10]) (by kernel_rfl) (by simp) ?_
            refine AllReadyH.cons (o := { dst := none, op := Op.store 27 (Operand.tmp 89) (Operand.tmp 88), type := 0, pos := "ref.go:110", after := #[{ on := 9, ground := Ground.data }, { on := 8, ground := Ground.data }, { on := 8, ground := Ground.chain }, { on := 0, ground := Ground.phase }, { on := 1, ground := Ground.phase }, { on := 2, ground := Ground.phase }, { on := 3, ground := Ground.phase }, { on := 4, ground := Ground.phase }, { on := 5, ground := Ground.phase }, { on := 6, ground := Ground.phase }, { on := 7, ground := Ground.phase }, { on := 8, ground := Ground.phase }], guard := none }) rfl (fun K hK => ?_) AllReadyH.nil
            rw [if_pos (by rfl)]
            go_simp
            have HGa := Lib.hid (HG8.out.rcs (.slice (some ⟨g8, 0, none⟩) (pre.length + 1) cap8))
            have HOa := Lib.hid (own_setBelow HO8.out (p := ⟨w.heap.size + 1 + 1, 5, none⟩) (by show w.heap.size + 1 + 1 < w.heap.size + 1 + 1 + 1; omega) (.slice (some ⟨g8, 0, none⟩) (pre.length + 1) cap8))
            have HSa : Hid (Below (w.heap.size + 1 + 1) w5 (w8.setCell ⟨w.heap.size + 1 + 1, 5, none⟩ (.slice (some ⟨g8, 0, none⟩) (pre.length + 1) cap8))) := Lib.hid ((HB8.out.mono (Nat.le_succ _)).setCell (Nat.le_refl _) _)
            clear m5 m6
            refine hK.out _ _ HSa.out (fun hA3y => ?_)
            clear hK K
            try simp only [Act.put, List.setIfInBounds_toArray, List.set_cons_zero, List.set_cons_succ]
            refine wpAnyH_done (by kernel_rfl) ?_ _
            generalize w8.setCell ⟨w.heap.size + 1 + 1, 5, none⟩ (.slice (some ⟨g8, 0, none⟩) (pre.length + 1) cap8) = wA at *
            go_wp2_with fail
            go_meet
            case rel => exact ⟨rfl, g8, cap8, HGa, by rw [HRE.out]; exact HOa⟩
          · rw [if_pos (by rfl)]
            go_simp
            refine (HReC.out _ _ (HG5.out.bel.trans (HBd5.out.mono HG5.out.bel.size)) HL5.out).mono ?_
            rintro e w6 ⟨rfl, hb6⟩
            go_wp2_with fail
            have HB6 := Lib.hid (below_next HBd5.out hb6)
            have HO6 := Lib.hid (own_kept HO5d.out hb6)
            clear hb6
            refine hK.out _ _ (HB6.out.mono (by show w.heap.size + 1 + 1 ≤ w5.heap.size; omega)) (fun hA1 => ?_)
            clear hK K
            try simp only [Act.put, List.setIfInBounds_toArray, List.set_cons_zero, List.set_cons_succ]
            refine wpAnyH_ready (rs := [1, 7]) (by kernel_rfl) (by simp) ?_
            refine AllReadyH.cons (o := { dst := some 81, op := Op.load 27 (Operand.tmp 80), type := 27, pos := "ref.go:110", after := #[{ on := 0, ground := Ground.data }], guard := none }) rfl (fun K hK => ?_) (AllReadyH.cons (o := { dst := some 87, op := Op.buildSlice 27 1 #[(0, Operand.tmp 86)], type := 27, pos := "ref.go:110", after := #[{ on := 6, ground := Ground.data }], guard := none }) rfl (fun K hK => ?_) AllReadyH.nil)
            · have zL : w6.cell? ⟨w.heap.size + 1 + 1, 5, none⟩ = some (.slice A pre.length c) := (HG5.out.next HB6.out).g.cells.2.2.2.2.2.1
              rw [if_pos (by rfl)]
              go_simp
              clear zL
              refine hK.out _ _ (HB6.out.mono (by show w.heap.size + 1 + 1 ≤ w5.heap.size; omega)) (fun hA2 => ?_)
              clear hK K
              try simp only [Act.put, List.setIfInBounds_toArray, List.set_cons_zero, List.set_cons_succ]
              refine wpAnyH_ready (rs := [7]) (by kernel_rfl) (by simp) ?_
              refine AllReadyH.cons (o := { dst := some 87, op := Op.buildSlice 27 1 #[(0, Operand.tmp 86)], type := 27, pos := "ref.go:110", after := #[{ on := 6, ground := Ground.data }], guard := none }) rfl (fun K hK => ?_) AllReadyH.nil
              rw [if_pos (by rfl)]
              go_simp
              have HO7 := Lib.hid (HO6.out.alloc (.cells #[.string (str RE)] 9))
              have hnew7 : ∀ j u, ([.string (str RE)] : List Value)[j]? = some u → (w6.alloc (.cells #[.string (str RE)] 9)).cell? ((⟨w6.heap.size, 0, none⟩ : Addr).add j) = some u := World.news_of_block (cs := #[.string (str RE)]) (t := 9) (fr := (0, 0)) (heap_alloc_new w6 _)
              have HNew7 := Lib.hid hnew7
              have HB7 := Lib.hid (HB6.out.alloc HB6.out.size (.cells #[.string (str RE)] 9))
              clear hnew7
              refine hK.out _ _ (HB7.out.mono (by show w.heap.size + 1 + 1 ≤ w5.heap.size; omega)) (fun hA3 => ?_)
              clear hK K
              try simp only [Act.put, List.setIfInBounds_toArray, List.set_cons_zero, List.set_cons_succ]
              generalize w6.alloc (.cells #[.string (str RE)] 9) = w7 at *
              generalize w6.heap.size = q7 at *
              have hbig7 : w.heap.size + 1 + 1 + 1 ≤ w7.heap.size := Nat.le_trans hbig5 HB7.out.size
              have hpl : pre.length ≤ 4096 := by have := HPl.out; omega
              refine wpAnyH_ready (rs := [8]) (by kernel_rfl) (by simp) ?_
              refine AllReadyH.cons (o := { dst := some 88, op := Op.call { callee := Callee.builtin Builtin.append, args := #[Operand.tmp 81, Operand.tmp 87], argTypes := #[27, 27] }, type := 27, pos := "ref.go:110", after := #[{ on := 1, ground := Ground.data }, { on := 7, ground := Ground.data }, { on := 6, ground := Ground.chain }], guard := none }) rfl (fun K hK => ?_) AllReadyH.nil
              refine step_append_lies _ (by rfl) _ _ _ (by rfl) (w.heap.size + 1 + 1 + 1) 9 i0 (.string ByteArray.empty) 1 16 Tryz.underlying27 hi0 hz0 hz1 hz2 rfl (by decide) (.slice A pre.length c) pre.length (pre.map secV) (by rfl) HO7.out ⟨q7, 0, none⟩ 1 1 [.string (str RE)] (by rfl) (by rfl) HNew7.out (by simp [Value.oneCell']) (by omega) (by unfold maxLen; omega) (by omega) hbig7 w7.heap.size rfl ?_
              intro g8 cap8 w8 hown8 hg8 _ _
              have HB8 : Hid (Below (w.heap.size + 1 + 1 + 1) w5 w8) := Lib.hid ((HB7.out.mono hbig5).grown hg8 hbig7 (fun k hk => (HO7.out.lt k hk).1))
              have HG8 := Lib.hid (HG5.out.keep HB8.out)
              have HO8 : Hid (w8.ownsRow (w.heap.size + 1 + 1 + 1) 9 1 (.slice (some ⟨g8, 0, none⟩) (pre.length + 1) cap8) (pre.length + 1) ((pre ++ [RE]).map secV)) := Lib.hid (by rw [List.map_append]; exact hown8)
              clear hown8 hg8
              refine hK.out _ _ (HB8.out.mono (Nat.le_succ _)) (fun hA3x => ?_)
              clear hK K
              try simp only [Act.put, List.setIfInBounds_toArray, List.set_cons_zero, List.set_cons_succ]
              refine wpAnyH_take (i := 9) (oi := { dst := some 89, op := Op.fieldAddr 38 (Operand.tmp 5) 5, type := 0, pos := "ref.go:110", after := #[{ on := 0, ground := Ground.phase }, { on := 1, ground := Ground.phase }, { on := 2, ground := Ground.phase }, { on := 3, ground := Ground.phase }, { on := 4, ground := Ground.phase }, { on := 5, ground := Ground.phase }, { on := 6, ground := Ground.phase }, { on := 7, ground := Ground.phase }, { on := 8, ground := Ground.phase }], guard := none }) (v := .pointer (some ⟨w.heap.size + 1 + 1, 5, none⟩)) rfl (by kernel_rfl) (by kernel_rfl) (by kernel_rfl) (fun _ _ _ h => h) (Or.inl ⟨by rfl, fun w hS => by go_simp⟩) hA3x ?_
              try simp only [Act.put, List.setIfInBounds_toArray, List.set_cons_zero, List.set_cons_succ]
              have m5 := HG8.out.g.cells.2.2.2.2.2.1
              have m6 := HG8.out.g.cells.2.2.2.2.2.2
              refine wpAnyH_ready (rs := [10]) (by kernel_rfl) (by simp) ?_
              refine AllReadyH.cons (o := { dst := none, op := Op.store 27 (Operand.tmp 89) (Operand.tmp 88), type := 0, pos := "ref.go:110", after := #[{ on := 9, ground := Ground.data }, { on := 8, ground := Ground.data }, { on := 8, ground := Ground.chain }, { on := 0, ground := Ground.phase }, { on := 1, ground := Ground.phase }, { on := 2, ground := Ground.phase }, { on := 3, ground := Ground.phase }, { on := 4, ground := Ground.phase }, { on := 5, ground := Ground.phase }, { on := 6, ground := Ground.phase }, { on := 7, ground := Ground.phase }, { on := 8, ground := Ground.phase }], guard := none }) rfl (fun K hK => ?_) AllReadyH.nil
              rw [if_pos (by rfl)]
              go_simp
              have HGa := Lib.hid (HG8.out.rcs (.slice (some ⟨g8, 0, none⟩) (pre.length + 1) cap8))
              have HOa := Lib.hid (own_setBelow HO8.out (p := ⟨w.heap.size + 1 + 1, 5, none⟩) (by show w.heap.size + 1 + 1 < w.heap.size + 1 + 1 + 1; omega) (.slice (some ⟨g8, 0, none⟩) (pre.length + 1) cap8))
              have HSa : Hid (Below (w.heap.size + 1 + 1) w5 (w8.setCell ⟨w.heap.size + 1 + 1, 5, none⟩ (.slice (some ⟨g8, 0, none⟩) (pre.length + 1) cap8))) := Lib.hid ((HB8.out.mono (Nat.le_succ _)).setCell (Nat.le_refl _) _)
              clear m5 m6
              refine hK.out _ _ HSa.out (fun hA3y => ?_)
              clear hK K
              try simp only [Act.put, List.setIfInBounds_toArray, List.set_cons_zero, List.set_cons_succ]
              refine wpAnyH_done (by kernel_rfl) ?_ _
              generalize w8.setCell ⟨w.heap.size + 1 + 1, 5, none⟩ (.slice (some ⟨g8, 0, none⟩) (pre.length + 1) cap8) = wA at *
              go_wp2_with fail
              go_meet
              case rel => exact ⟨rfl, g8, cap8, HGa, by rw [HRE.out]; exact HOa⟩
            · rw [if_pos (by rfl)]
              go_simp
              have HO7 := Lib.hid (HO6.out.alloc (.cells #[.string (str RE)] 9))
              have hnew7 : ∀ j u, ([.string (str RE)] : List Value)[j]? = some u → (w6.alloc (.cells #[.string (str RE)] 9)).cell? ((⟨w6.heap.size, 0, none⟩ : Addr).add j) = some u := World.news_of_block (cs := #[.string (str RE)]) (t := 9) (fr := (0, 0)) (heap_alloc_new w6 _)
              have HNew7 := Lib.hid hnew7
              have HB7 := Lib.hid (HB6.out.alloc HB6.out.size (.cells #[.string (str RE)] 9))
              clear hnew7
              refine hK.out _ _ (HB7.out.mono (by show w.heap.size + 1 + 1 ≤ w5.heap.size; omega)) (fun hA2 => ?_)
              clear hK K
              try simp only [Act.put, List.setIfInBounds_toArray, List.set_cons_zero, List.set_cons_succ]
              generalize w6.alloc (.cells #[.string (str RE)] 9) = w7 at *
              generalize w6.heap.size = q7 at *
              refine wpAnyH_ready (rs := [1]) (by kernel_rfl) (by simp) ?_
              refine AllReadyH.cons (o := { dst := some 81, op := Op.load 27 (Operand.tmp 80), type := 27, pos := "ref.go:110", after := #[{ on := 0, ground := Ground.data }], guard := none }) rfl (fun K hK => ?_) AllReadyH.nil
              have zL : w7.cell? ⟨w.heap.size + 1 + 1, 5, none⟩ = some (.slice A pre.length c) := (HG5.out.next HB7.out).g.cells.2.2.2.2.2.1
              rw [if_pos (by rfl)]
              go_simp
              clear zL
              refine hK.out _ _ (HB7.out.mono (by show w.heap.size + 1 + 1 ≤ w5.heap.size; omega)) (fun hA3 => ?_)
              clear hK K
              try simp only [Act.put, List.setIfInBounds_toArray, List.set_cons_zero, List.set_cons_succ]
              have hbig7 : w.heap.size + 1 + 1 + 1 ≤ w7.heap.size := Nat.le_trans hbig5 HB7.out.size
              have hpl : pre.length ≤ 4096 := by have := HPl.out; omega
              refine wpAnyH_ready (rs := [8]) (by kernel_rfl) (by simp) ?_
              refine AllReadyH.cons (o := { dst := some 88, op := Op.call { callee := Callee.builtin Builtin.append, args := #[Operand.tmp 81, Operand.tmp 87], argTypes := #[27, 27] }, type := 27, pos := "ref.go:110", after := #[{ on := 1, ground := Ground.data }, { on := 7, ground := Ground.data }, { on := 6, ground := Ground.chain }], guard := none }) rfl (fun K hK => ?_) AllReadyH.nil
              refine step_append_lies _ (by rfl) _ _ _ (by rfl) (w.heap.size + 1 + 1 + 1) 9 i0 (.string ByteArray.empty) 1 16 Tryz.underlying27 hi0 hz0 hz1 hz2 rfl (by decide) (.slice A pre.length c) pre.length (pre.map secV) (by rfl) HO7.out ⟨q7, 0, none⟩ 1 1 [.string (str RE)] (by rfl) (by rfl) HNew7.out (by simp [Value.oneCell']) (by omega) (by unfold maxLen; omega) (by omega) hbig7 w7.heap.size rfl ?_
              intro g8 cap8 w8 hown8 hg8 _ _
              have HB8 : Hid (Below (w.heap.size + 1 + 1 + 1) w5 w8) := Lib.hid ((HB7.out.mono hbig5).grown hg8 hbig7 (fun k hk => (HO7.out.lt k hk).1))
              have HG8 := Lib.hid (HG5.out.keep HB8.out)
              have HO8 : Hid (w8.ownsRow (w.heap.size + 1 + 1 + 1) 9 1 (.slice (some ⟨g8, 0, none⟩) (pre.length + 1) cap8) (pre.length + 1) ((pre ++ [RE]).map secV)) := Lib.hid (by rw [List.map_append]; exact hown8)
              clear hown8 hg8
              refine hK.out _ _ (HB8.out.mono (Nat.le_succ _)) (fun hA3x => ?_)
              clear hK K
              try simp only [Act.put, List.setIfInBounds_toArray, List.set_cons_zero, List.set_cons_succ]
              refine wpAnyH_take (i := 9) (oi := { dst := some 89, op := Op.fieldAddr 38 (Operand.tmp 5) 5, type := 0, pos := "ref.go:110", after := #[{ on := 0, ground := Ground.phase }, { on := 1, ground := Ground.phase }, { on := 2, ground := Ground.phase }, { on := 3, ground := Ground.phase }, { on := 4, ground := Ground.phase }, { on := 5, ground := Ground.phase }, { on := 6, ground := Ground.phase }, { on := 7, ground := Ground.phase }, { on := 8, ground := Ground.phase }], guard := none }) (v := .pointer (some ⟨w.heap.size + 1 + 1, 5, none⟩)) rfl (by kernel_rfl) (by kernel_rfl) (by kernel_rfl) (fun _ _ _ h => h) (Or.inl ⟨by rfl, fun w hS => by go_simp⟩) hA3x ?_
              try simp only [Act.put, List.setIfInBounds_toArray, List.set_cons_zero, List.set_cons_succ]
              have m5 := HG8.out.g.cells.2.2.2.2.2.1
              have m6 := HG8.out.g.cells.2.2.2.2.2.2
              refine wpAnyH_ready (rs := [10]) (by kernel_rfl) (by simp) ?_
              refine AllReadyH.cons (o := { dst := none, op := Op.store 27 (Operand.tmp 89) (Operand.tmp 88), type := 0, pos := "ref.go:110", after := #[{ on := 9, ground := Ground.data }, { on := 8, ground := Ground.data }, { on := 8, ground := Ground.chain }, { on := 0, ground := Ground.phase }, { on := 1, ground := Ground.phase }, { on := 2, ground := Ground.phase }, { on := 3, ground := Ground.phase }, { on := 4, ground := Ground.phase }, { on := 5, ground := Ground.phase }, { on := 6, ground := Ground.phase }, { on := 7, ground := Ground.phase }, { on := 8, ground := Ground.phase }], guard := none }) rfl (fun K hK => ?_) AllReadyH.nil
              rw [if_pos (by rfl)]
              go_simp
              have HGa := Lib.hid (HG8.out.rcs (.slice (some ⟨g8, 0, none⟩) (pre.length + 1) cap8))
              have HOa := Lib.hid (own_setBelow HO8.out (p := ⟨w.heap.size + 1 + 1, 5, none⟩) (by show w.heap.size + 1 + 1 < w.heap.size + 1 + 1 + 1; omega) (.slice (some ⟨g8, 0, none⟩) (pre.length + 1) cap8))
              have HSa : Hid (Below (w.heap.size + 1 + 1) w5 (w8.setCell ⟨w.heap.size + 1 + 1, 5, none⟩ (.slice (some ⟨g8, 0, none⟩) (pre.length + 1) cap8))) := Lib.hid ((HB8.out.mono (Nat.le_succ _)).setCell (Nat.le_refl _) _)
              clear m5 m6
              refine hK.out _ _ HSa.out (fun hA3y => ?_)
              clear hK K
              try simp only [Act.put, List.setIfInBounds_toArray, List.set_cons_zero, List.set_cons_succ]
              refine wpAnyH_done (by kernel_rfl) ?_ _
              generalize w8.setCell ⟨w.heap.size + 1 + 1, 5, none⟩ (.slice (some ⟨g8, 0, none⟩) (pre.length + 1) cap8) = wA at *
              go_wp2_with fail
              go_meet
              case rel => exact ⟨rfl, g8, cap8, HGa, by rw [HRE.out]; exact HOa⟩
        case rest =>
          obtain ⟨rfl, g8, cap8, HGa, HOa⟩ := hcut
          have HRE : Hid (recB d.seen ⟨vd, slot, vg, vn, vx, vu, vdn⟩ Z = recB d.seen ⟨vd, slot, vg, vn, vx, vu, vdn⟩ Z) := Lib.hid rfl
          obtain ⟨RE, hRE⟩ : ∃ RE, recB d.seen ⟨vd, slot, vg, vn, vx, vu, vdn⟩ Z = RE := ⟨_, rfl⟩
          rw [hRE] at HOa
          replace HRE := Lib.hid hRE
          clear hRE
          generalize wc = wA at *
          go_wp2_with fail
          have HGb := Lib.hid (HGa.out.next (Below.refl _ _).drew)
          have HOb := Lib.hid (own_kept HOa.out (Below.refl _ _).drew)
          obtain ⟨n0, n1, n2, n3, n4, n5, n6⟩ := HGa.out.g.cells
          have wV1 : IntKind.i64.wrap ((vx : Int) + 1) = (vx : Int) + 1 := by rw [IntKind.wrap_i64]; omega
          have wV2 : IntKind.i64.wrap ((vx : Int) + 1 + (cz : Int)) = (vx : Int) + 1 + (cz : Int) := by rw [IntKind.wrap_i64]; omega
          have wN1 : IntKind.i64.wrap (vn + 1) = vn + 1 := by rw [IntKind.wrap_i64]; omega
          obtain ⟨X, hX⟩ : ∃ X : Nat, (vx + (1 + cz)) % M = X := ⟨_, rfl⟩
          have hXt : ((vx : Int) + 1 + (cz : Int)) % (M : Int) = (X : Int) := by rw [← hX, show (vx : Int) + 1 + (cz : Int) = ((vx + (1 + cz) : Nat) : Int) from by omega]; simp
          have hXt2 : Int.tmod ((vx : Int) + 1 + (cz : Int)) (M : Int) = (X : Int) := by rw [Int.tmod_eq_emod_of_nonneg (by omega)]; exact hXt
          have hmne : ¬ (M : Int) = 0 := by omega
          have HXX := Lib.hid hX
          clear hX
          clear n0 n1 n2 n3 n4 n5 n6
          obtain ⟨n0, n1, n2, n3, n4, n5, n6⟩ := HGb.out.g.cells
          go_upto_region 15 with fail
          go_cut [12] from 40 to 109 (fun v wx => v = .slice (some ⟨b4, f4, none⟩) (1 + cz) c4 ∧ wx = wA.drew.setCell ⟨w.heap.size + 1 + 1, 3, none⟩ (.int .i64 ((vu : Int) + 1 + (cz : Int))))
          case first =>
            go_region_with (go_at_call 39; refine (HCeil.out _).mono ?_; rintro e w' ⟨rfl, rfl⟩)
            all_goals
              go_wp2_with fail
              go_meet
              case rel => exact ⟨rfl, rfl⟩
          case rest =>
            obtain ⟨rfl, rfl⟩ := hcut
            have HGc := Lib.hid (HGb.out.use ((vu : Int) + 1 + (cz : Int)))
            have HOc := Lib.hid (own_setBelow HOb.out (p := ⟨w.heap.size + 1 + 1, 3, none⟩) (by show w.heap.size + 1 + 1 < w.heap.size + 1 + 1 + 1; omega) (.int .i64 ((vu : Int) + 1 + (cz : Int))))
            clear n0 n1 n2 n3 n4 n5 n6
            generalize wA.drew.setCell ⟨w.heap.size + 1 + 1, 3, none⟩ (.int .i64 ((vu : Int) + 1 + (cz : Int))) = wC at *
            have HGd := Lib.hid (HGc.out.next (Below.refl _ _).drew)
            have HOd := Lib.hid (own_kept HOc.out (Below.refl _ _).drew)
            obtain ⟨n0, n1, n2, n3, n4, n5, n6⟩ := HGc.out.g.cells
            clear n0 n1 n2 n3 n4 n5 n6
            obtain ⟨n0, n1, n2, n3, n4, n5, n6⟩ := HGd.out.g.cells
            go_upto_region 16 with fail
            go_cut [12] from 40 to 109 (fun v wx => v = .slice (some ⟨b4, f4, none⟩) (1 + cz) c4 ∧ wx = wC.drew.setCell ⟨w.heap.size + 1 + 1, 1, none⟩ (.int .i64 (X : Int)))
            case first =>
              go_region_with (go_at_call 39; refine (HCeil.out _).mono ?_; rintro e w' ⟨rfl, rfl⟩)
              all_goals
                go_wp2_with fail
                go_meet
                case rel => exact ⟨rfl, rfl⟩
            case rest =>
              obtain ⟨rfl, rfl⟩ := hcut
              have HGe := Lib.hid (HGd.out.pl (X : Int))
              have HOe := Lib.hid (own_setBelow HOd.out (p := ⟨w.heap.size + 1 + 1, 1, none⟩) (by show w.heap.size + 1 + 1 < w.heap.size + 1 + 1 + 1; omega) (.int .i64 (X : Int)))
              clear n0 n1 n2 n3 n4 n5 n6
              generalize wC.drew.setCell ⟨w.heap.size + 1 + 1, 1, none⟩ (.int .i64 (X : Int)) = wE at *
              have k2 := HGe.out.g.cells.2.2.1
              have k6 := HGe.out.g.cells.2.2.2.2.2.2
              go_wp2_with fail
              have HGf := Lib.hid (HGe.out.nu (vn + 1))
              have HOf := Lib.hid (own_setBelow HOe.out (p := ⟨w.heap.size + 1 + 1, 2, none⟩) (by show w.heap.size + 1 + 1 < w.heap.size + 1 + 1 + 1; omega) (.int .i64 (vn + 1)))
              obtain ⟨f2, rfl⟩ : ∃ f2, f = f2 + 1 := ⟨f - 1, by have := HF.out; omega⟩
              have hpass := pass_ok (v := ⟨vd, slot, vg, vn, vx, vu, vdn⟩) (by have := HOk.out; rw [HVs.out] at this; exact this) (by show 1 + secs Z < d.seen.length - 2 * slot - vu; rw [HM.out, HCz.out]; omega) HNum.out
              have hgo := scanR_go (xs := d.seen) (v := ⟨vd, slot, vg, vn, vx, vu, vdn⟩) (by have := HSome.out; rw [HVs.out] at this; exact this) f2
              have hpv : WalV.pass ⟨vd, slot, vg, vn, vx, vu, vdn⟩ d.seen.length Z = ⟨vd, slot, vg, vn + 1, X, vu + (1 + cz), vdn⟩ := by
                unfold WalV.pass WalV.place
                simp only
                rw [HM.out, HCz.out, HXX.out]
              rw [hpv] at hpass hgo
              rw [HRE.out] at hgo
              have HP := Lib.hid hpass
              have HGo := Lib.hid hgo
              clear hpass hgo hpv
              go_roundg (M - (vu + (1 + cz)))
              case measure => omega
              case rel => exact ⟨⟨vd, slot, vg, vn + 1, X, vu + (1 + cz), vdn⟩, pre ++ [RE], f2, some ⟨g8, 0, none⟩, cap8, rfl, Nat.le_refl _, Lib.hid HP.out.1, Lib.hid HP.out.2, Lib.hid (by have t := HSc.out; rw [HVs.out, HGo.out] at t; rw [t]; simp), Lib.hid (by have := HF.out; show M ≤ f2 + (vu + (1 + cz)); omega), Lib.hid (by have := HPl.out; show (pre ++ [RE]).length ≤ vu + (1 + cz); simp; omega), Lib.hid (by have t := HGf.out; rw [show (vu : Int) + 1 + (cz : Int) = ((vu + (1 + cz) : Nat) : Int) from by omega] at t; rw [List.length_append]; exact t), Lib.hid (by rw [List.length_append]; exact HOf.out)⟩
end Go.Proofs.YtlelfakememckaaGreatDoor
