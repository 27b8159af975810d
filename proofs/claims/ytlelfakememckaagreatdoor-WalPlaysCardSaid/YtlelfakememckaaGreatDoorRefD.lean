/- The document's disk in memory, and the contracts of Pad, Copy, spend, Arm, New, Read of counterfoilref05. -/
import Derived.Test.YtlelfakememckaaGreatDoorDiskP
import Derived.Test.YtlelfakememckaaGreatDoorDiskL
import Derived.Laws.OwnMore
import Derived.Deep.QuietTactic
import Derived.BigQuiet
namespace Go.Proofs.YtlelfakememckaaGreatDoor
open Go.RowKit

theorem Tryz.infoStr5 : (Tryz.prog.info? 9).map (fun i => (i.zero, i.size, i.bytes)) = some (some (.string ByteArray.empty), 1, 16) := by kernel_rfl
theorem Tryz.infoInt5 : (Tryz.prog.info? 3).map (fun i => (i.zero, i.size, i.bytes)) = some (some (.int .i64 0), 1, 8) := by kernel_rfl

def secV (x : List UInt8) : Value := .string (str x)
def atV (p : Nat × List UInt8) : Value := .int .i64 (p.1 : Int)
def whatV (p : Nat × List UInt8) : Value := .string (str p.2)
theorem secV_one (l : List (List UInt8)) : ∀ u ∈ l.map secV, u.oneCell' = true := by
  intro u hu; obtain ⟨x, _, rfl⟩ := List.mem_map.1 hu; rfl
theorem atV_one (l : List (Nat × List UInt8)) : ∀ u ∈ l.map atV, u.oneCell' = true := by
  intro u hu; obtain ⟨x, _, rfl⟩ := List.mem_map.1 hu; rfl
theorem whatV_one (l : List (Nat × List UInt8)) : ∀ u ∈ l.map whatV, u.oneCell' = true := by
  intro u hu; obtain ⟨x, _, rfl⟩ := List.mem_map.1 hu; rfl

/-- A whole slice is appended to nil. -/
theorem wpList_append_all {P : Program} {w : World} {ops : Array Oper} {rest : List Oper} {o : Oper} {a : Act} {Q : Exit → Act → World → Prop} (hgd : o.guard = none) (s x : Operand) (t : TypeId)
    (ho : o.op = .call { callee := .builtin .append, args := #[s, x], argTypes := #[t, t] })
    (e : TypeId) (i : TypeInfo) (z : Value) (size bytes : Nat) (ht : P.underlying t = some (.slice e)) (hi : P.info? e = some i) (hz : i.zero = some z)
    (hsize : i.size = size) (hby : i.bytes = bytes) (hzs : z.cells.size = size) (hsz : 0 < size)
    (hs : a.eval s = .slice none 0 0) (A : Option Addr) (m c : Nat) (news : List Value) (hx : a.eval x = .slice A m c) (hl : news.length = m * size) (B : Nat) (hlies : Lies w B A news) (hnil : m = 0 → A = none ∧ c = 0)
    (h1 : ∀ u ∈ news, u.oneCell' = true) (h63 : m ≤ maxLen) (hbytes : m * bytes ≤ 140737488355328)
    (h : ∀ A' c' w', w'.ownsRow w.heap.size e size (.slice A' m c') m news → Below w.heap.size w w' → (m = 0 → A' = none ∧ c' = 0) → ((Value.slice A' m c').ownBlock = none ∨ (Value.slice A' m c').ownBlock = some w.heap.size) → wpList P ops Q rest (a.put o.dst (.slice A' m c')) w') : wpList P ops Q (o :: rest) a w := by
  by_cases hm : m = 0
  · obtain ⟨rfl, rfl⟩ := hnil hm
    subst hm
    have hnews : news = [] := List.eq_nil_of_length_eq_zero (by omega)
    subst hnews
    have hrun := run_append_owned_none (P := P) (w := w) w.heap.size t o.type e i size ht hi _ 0 [] (World.ownsRow_nil _ _ _ _)
    refine wpList_plain hgd fun K hK => ?_
    unfold Oper.wp
    simp only [execOp, ho, resolve, invoke, builtin, hs, hx, hrun, Sem.run_bind, Sem.run_pure, Result.andThen_ok, List.map_toArray, List.map_cons, List.map_nil]
    exact hK _ _ (h none 0 w (World.ownsRow_nil _ _ _ _) (Below.refl _ _) (fun _ => ⟨rfl, rfl⟩) (.inl rfl))
  · obtain ⟨b, off, rfl, hb, hc⟩ := hlies.at_ (fun e => by
      subst e
      rw [List.length_nil] at hl
      rcases Nat.mul_eq_zero.1 hl.symm with h0 | h0 <;> omega)
    obtain ⟨v', w', hr, h2, h3, h4, h5⟩ := run_append_own_at (P := P) w w.heap.size t o.type e i z size bytes ht hi hz hsize hby hzs hsz (.slice none 0 0) 0 [] (World.ownsRow_nil _ _ _ _) ⟨b, off, none⟩ m c news hl
      (fun j u hu => by
        rw [WideShapes.add_plain]
        have := (List.getElem?_eq_some_iff.1 hu)
        rw [hc j this.1, this.2]) h1 (by omega) (by simpa using hbytes) (Nat.le_refl _)
    rw [Nat.zero_add, List.nil_append] at h2
    obtain ⟨g, cap, rfl, hg1, hg2⟩ := h2.form (by omega)
    refine wpList_plain hgd fun K hK => ?_
    unfold Oper.wp
    simp only [execOp, ho, resolve, invoke, builtin, hs, hx, hr, Sem.run_bind, Sem.run_pure, Result.andThen_ok, List.map_toArray, List.map_cons, List.map_nil]
    refine hK _ _ (h _ cap w' h2 ⟨h3.os, h3.tape, h3.output, h3.size, fun k hk => h3.block k hk (by simp [Value.ownBlock])⟩ (fun h0 => absurd h0 hm) ?_)
    rcases h5 with h5 | h5
    · exact .inl h5
    · exact .inr h5

/-- The document's disk: three slices that lie below block B. -/
structure RefAt (w : World) (B : Nat) (F : List (List UInt8)) (l : List (Nat × List UInt8)) (fA aA : Option Addr) (ac : Nat) (wA : Option Addr) (wc : Nat) : Prop where
  firm : Lies w B fA (F.map secV)
  at_ : Lies w B aA (l.map atV)
  what : Lies w B wA (l.map whatV)
  none_ : l = [] → aA = none ∧ ac = 0 ∧ wA = none ∧ wc = 0
theorem RefAt.below {w w' : World} {B : Nat} {F : List (List UInt8)} {l : List (Nat × List UInt8)} {fA aA wA : Option Addr} {ac wc : Nat} (h : RefAt w B F l fA aA ac wA wc) (hb : Below B w w') : RefAt w' B F l fA aA ac wA wc :=
  ⟨h.firm.below hb, h.at_.below hb, h.what.below hb, h.none_⟩
theorem RefAt.more {w : World} {B B' : Nat} {F : List (List UInt8)} {l : List (Nat × List UInt8)} {fA aA wA : Option Addr} {ac wc : Nat} (h : RefAt w B F l fA aA ac wA wc) (hB : B ≤ B') : RefAt w B' F l fA aA ac wA wc :=
  ⟨h.firm.more hB, h.at_.more hB, h.what.more hB, h.none_⟩
theorem RefAt.next {w w' : World} {F : List (List UInt8)} {l : List (Nat × List UInt8)} {fA aA wA : Option Addr} {ac wc : Nat} (h : RefAt w w.heap.size F l fA aA ac wA wc) (hb : Below w.heap.size w w') : RefAt w' w'.heap.size F l fA aA ac wA wc := (h.below hb).more hb.size

/-- Likewise, in rows of the call's own. -/
structure RefOwn (w : World) (base : Nat) (F : List (List UInt8)) (l : List (Nat × List UInt8)) (fA : Option Addr) (fc : Nat) (aA : Option Addr) (ac : Nat) (wA : Option Addr) (wc : Nat) : Prop where
  firm : w.ownsRow base 9 1 (.slice fA F.length fc) F.length (F.map secV)
  at_ : w.ownsRow base 3 1 (.slice aA l.length ac) l.length (l.map atV)
  what : w.ownsRow base 9 1 (.slice wA l.length wc) l.length (l.map whatV)
  fa : ∀ k, (Value.slice fA F.length fc).ownBlock = some k → (Value.slice aA l.length ac).ownBlock ≠ some k
  fw : ∀ k, (Value.slice fA F.length fc).ownBlock = some k → (Value.slice wA l.length wc).ownBlock ≠ some k
  aw : ∀ k, (Value.slice aA l.length ac).ownBlock = some k → (Value.slice wA l.length wc).ownBlock ≠ some k
  none_ : l = [] → aA = none ∧ ac = 0 ∧ wA = none ∧ wc = 0

theorem own_lies_ {w : World} {base : Nat} {e : TypeId} {n c : Nat} {A : Option Addr} {cs : List Value} (h : w.ownsRow base e 1 (.slice A n c) n cs) : Lies w w.heap.size A cs := by
  obtain ⟨A', c', he, _, hl⟩ := own_lies h
  simp only [Value.slice.injEq] at he
  rw [he.1]; exact hl
theorem RefOwn.at_low {w : World} {base : Nat} {F : List (List UInt8)} {l : List (Nat × List UInt8)} {fA aA wA : Option Addr} {fc ac wc : Nat} (h : RefOwn w base F l fA fc aA ac wA wc) : RefAt w w.heap.size F l fA aA ac wA wc :=
  ⟨own_lies_ h.firm, own_lies_ h.at_, own_lies_ h.what, h.none_⟩
theorem RefOwn.below {w w' : World} {base : Nat} {F : List (List UInt8)} {l : List (Nat × List UInt8)} {fA aA wA : Option Addr} {fc ac wc : Nat} (h : RefOwn w base F l fA fc aA ac wA wc) (hb : Below w.heap.size w w') : RefOwn w' base F l fA fc aA ac wA wc :=
  ⟨own_kept h.firm hb, own_kept h.at_ hb, own_kept h.what hb, h.fa, h.fw, h.aw, h.none_⟩

theorem own_set {w : World} {base : Nat} {e : TypeId} {size n : Nat} {v : Value} {xs : List Value} (h : w.ownsRow base e size v n xs) {p : Addr} (hp : v.ownBlock ≠ some p.block) (u : Value) : (w.setCell p u).ownsRow base e size v n xs :=
  h.kept (row := some p.block) ⟨rfl, rfl, rfl, by simp [World.setCell], fun k _ hk => Below.heap_setCell _ _ _ _ (fun e => hk (by rw [e]))⟩ (by cases hv : v.ownBlock with | none => simp | some k => rw [hv] at hp; simpa [eq_comm] using hp)

theorem own_lt {w : World} {base : Nat} {e : TypeId} {size n : Nat} {v : Value} {xs : List Value} (h : w.ownsRow base e size v n xs) : ∀ k, v.ownBlock = some k → base ≤ k ∧ k < w.heap.size := fun k hk => h.lt k hk

theorem own_keptB {w w' : World} {base B : Nat} {e : TypeId} {size n : Nat} {v : Value} {xs : List Value} (h : w.ownsRow base e size v n xs) (hb : Below B w w') (hB : ∀ k, v.ownBlock = some k → k < B) : w'.ownsRow base e size v n xs := by
  obtain ⟨h1, h2⟩ := h
  refine ⟨h1, h2.imp id ?_⟩
  rintro ⟨g, cap, cur, rfl, hb0, hg, hr⟩
  exact ⟨g, cap, cur, rfl, hb0, by rw [hb.block g (hB g rfl)]; exact hg, hr⟩
theorem own_base {w : World} {base base' : Nat} {e : TypeId} {size n : Nat} {v : Value} {xs : List Value} (h : w.ownsRow base e size v n xs) (hb : base' ≤ base) : w.ownsRow base' e size v n xs := by
  obtain ⟨h1, h2⟩ := h
  refine ⟨h1, h2.imp id ?_⟩
  rintro ⟨g, cap, cur, rfl, hb0, hg, hr⟩
  exact ⟨g, cap, cur, rfl, Nat.le_trans hb hb0, hg, hr⟩

/-- Its rows lie from block B on. -/
def RefLow (F : List (List UInt8)) (l : List (Nat × List UInt8)) (fA : Option Addr) (fc : Nat) (aA : Option Addr) (ac : Nat) (wA : Option Addr) (wc B : Nat) : Prop :=
  ∀ k, Value.ownBlock (.slice fA F.length fc) = some k ∨ Value.ownBlock (.slice aA l.length ac) = some k ∨ Value.ownBlock (.slice wA l.length wc) = some k → B ≤ k
theorem RefOwn.setLow {w : World} {base B : Nat} {F : List (List UInt8)} {l : List (Nat × List UInt8)} {fA aA wA : Option Addr} {fc ac wc : Nat} (h : RefOwn w base F l fA fc aA ac wA wc) (hl : RefLow F l fA fc aA ac wA wc B) {p : Addr} (hp : p.block < B) (u : Value) : RefOwn (w.setCell p u) base F l fA fc aA ac wA wc :=
  ⟨own_set h.firm (fun e => by have := hl _ (.inl e); omega) u, own_set h.at_ (fun e => by have := hl _ (.inr (.inl e)); omega) u, own_set h.what (fun e => by have := hl _ (.inr (.inr e)); omega) u, h.fa, h.fw, h.aw, h.none_⟩
theorem RefOwn.low {w : World} {base : Nat} {F : List (List UInt8)} {l : List (Nat × List UInt8)} {fA aA wA : Option Addr} {fc ac wc : Nat} (h : RefOwn w base F l fA fc aA ac wA wc) : RefLow F l fA fc aA ac wA wc base := by
  rintro k (e | e | e)
  · exact (own_lt h.firm k e).1
  · exact (own_lt h.at_ k e).1
  · exact (own_lt h.what k e).1
theorem RefOwn.base_ {w : World} {base base' : Nat} {F : List (List UInt8)} {l : List (Nat × List UInt8)} {fA aA wA : Option Addr} {fc ac wc : Nat} (h : RefOwn w base F l fA fc aA ac wA wc) (hb : base' ≤ base) : RefOwn w base' F l fA fc aA ac wA wc :=
  ⟨own_base h.firm hb, own_base h.at_ hb, own_base h.what hb, h.fa, h.fw, h.aw, h.none_⟩

/-! ### Pad -/

def padN (l : List UInt8) (k : Nat) : List UInt8 := l ++ List.replicate k 0
theorem padN_zero (l : List UInt8) : padN l 0 = l := by simp [padN]
theorem str_append0 (l : List UInt8) (k : Nat) : str (padN l k) ++ ⟨#[0]⟩ = str (padN l (k + 1)) := by
  have h1 : str (padN l k) ++ ⟨#[0]⟩ = str (padN l k) ++ str [0] := rfl
  rw [h1, str_cat]
  congr 1
  simp [padN, List.replicate_succ']

set_option maxHeartbeats 400000 in
theorem RefPad_any (s : List UInt8) (h : s.length ≤ 32) (w : World) : Calls Tryz.prog 28 #[.string (str s)] w fun e w' => e = .returned (.string (str (padB s))) ∧ w = w' := by
  go_enter Tryz.func28, Tryz.ntmps28
  go_wp2
  go_loopw [0] (fun v wr => (∃ k : Nat, s.length + k ≤ 32 ∧ v = .string (str (padN s k))) ∧ wr = w) (fun v _ => match v with | .string b => 32 - b.size | _ => 0)
  case atStart => exact ⟨⟨0, by omega, by rw [padN_zero]⟩, rfl⟩
  case round =>
    obtain ⟨⟨k, hk, rfl⟩, rfl⟩ := hrel
    have hsz : (str (padN s k)).size = s.length + k := by rw [str_size]; simp [padN]
    have HA := Lib.hid (str_append0 s k)
    by_cases hlt : s.length + k < 32
    · have h5 : ((str (padN s k)).size : Int) < 32 := by rw [hsz]; omega
      have HZ := Lib.hid hsz
      generalize str (padN s k) = S at *
      clear hsz
      go_wp2
      go_roundw
      case rel => exact ⟨⟨k + 1, by omega, by rw [HA.out]⟩, trivial⟩
      case measure =>
        have := HZ.out
        simp only [ByteArray.size_append']
        have e1 : (ByteArray.mk #[0]).size = 1 := rfl
        rw [e1]; omega
    · have h5 : decide (((str (padN s k)).size : Int) < 32) = false := by rw [decide_eq_false_iff_not, hsz]; omega
      have HE : Hid (padN s k = padB s) := Lib.hid (by unfold padN padB; congr 2; omega)
      rw [HE.out] at h5 ⊢
      clear hsz HA
      go_wp2
      go_ret
      exact ⟨rfl, rfl⟩

/-! ### Copy, spend, Arm -/

theorem heap_lt {w : World} {H : Nat} {o : Obj} (h : w.heap[H]? = some o) : H < w.heap.size := by
  rcases Nat.lt_or_ge H w.heap.size with h1 | h1
  · exact h1
  · rw [Array.getElem?_eq_none h1] at h; cases h

/-- What a struct's block holds. -/
def Five (w : World) (H : Nat) (a b c d e : Value) : Prop := w.heap[H]? = some (.cells #[a, b, c, d, e] 30 (0, 0))
theorem Five.cells {w : World} {H : Nat} {a b c d e : Value} (h : Five w H a b c d e) : w.cell? ⟨H, 0, none⟩ = some a ∧ w.cell? ⟨H, 1, none⟩ = some b ∧ w.cell? ⟨H, 2, none⟩ = some c ∧ w.cell? ⟨H, 3, none⟩ = some d ∧ w.cell? ⟨H, 4, none⟩ = some e ∧ (∀ j, w.frozen? ⟨H, j, none⟩ = false) := by
  refine ⟨?_, ?_, ?_, ?_, ?_, fun j => Lib.frozen_of_heap h j⟩ <;> rw [Lib.cell_of_heap h] <;> rfl
theorem Five.below {w w' : World} {H : Nat} {a b c d e : Value} (h : Five w H a b c d e) {B : Nat} (hb : Below B w w') (hB : H < B) : Five w' H a b c d e :=
  (hb.block H hB).trans h
theorem Five.set0 {w : World} {H : Nat} {a b c d e : Value} (h : Five w H a b c d e) (v : Value) : Five (w.setCell ⟨H, 0, none⟩ v) H v b c d e := by have := row_set h 0 v; simpa [Five] using this
theorem Five.set1 {w : World} {H : Nat} {a b c d e : Value} (h : Five w H a b c d e) (v : Value) : Five (w.setCell ⟨H, 1, none⟩ v) H a v c d e := by have := row_set h 1 v; simpa [Five] using this
theorem Five.set2 {w : World} {H : Nat} {a b c d e : Value} (h : Five w H a b c d e) (v : Value) : Five (w.setCell ⟨H, 2, none⟩ v) H a b v d e := by have := row_set h 2 v; simpa [Five] using this
theorem Five.set3 {w : World} {H : Nat} {a b c d e : Value} (h : Five w H a b c d e) (v : Value) : Five (w.setCell ⟨H, 3, none⟩ v) H a b c v e := by have := row_set h 3 v; simpa [Five] using this
theorem Five.set4 {w : World} {H : Nat} {a b c d e : Value} (h : Five w H a b c d e) (v : Value) : Five (w.setCell ⟨H, 4, none⟩ v) H a b c d v := by have := row_set h 4 v; simpa [Five] using this
theorem Five.far {w : World} {H : Nat} {a b c d e : Value} (h : Five w H a b c d e) {p : Addr} (hp : H ≠ p.block) (u : Value) : Five (w.setCell p u) H a b c d e := (Below.heap_setCell _ _ _ _ hp).trans h
theorem Five.alloc {w : World} {H : Nat} {a b c d e : Value} (h : Five w H a b c d e) (o : Obj) : Five (w.alloc o) H a b c d e := (Below.heap_alloc _ _ _ (heap_lt h)).trans h
theorem Five.new (w : World) (a b c d e : Value) : Five (w.alloc (.cells #[a, b, c, d, e] 30)) w.heap.size a b c d e := heap_alloc_new _ _

/-- What Copy leaves. -/
def CopyEnd (F : List (List UInt8)) (l : List (Nat × List UInt8)) (L : Int) (g : Bool) (w : World) (e : Ending) (w' : World) : Prop :=
  ∃ fA fc aA ac wA wc, e = .returned (.agg #[.slice fA F.length fc, .slice aA l.length ac, .slice wA l.length wc, .int .i64 L, .bool g]) ∧ RefOwn w' w.heap.size F l fA fc aA ac wA wc ∧ Below w.heap.size w w'

set_option maxHeartbeats 1600000 in
set_option maxRecDepth 100000 in
theorem RefCopy_any {w : World} {F : List (List UInt8)} {l : List (Nat × List UInt8)} {fA aA wA : Option Addr} {fc ac wc : Nat} (h : RefAt w w.heap.size F l fA aA ac wA wc) (hF : 0 < F.length) (hF2 : F.length ≤ 4096) (hl : l.length ≤ 1000001) (L : Int) (g : Bool) :
    Calls Tryz.prog 50 #[.agg #[.slice fA F.length fc, .slice aA l.length ac, .slice wA l.length wc, .int .i64 L, .bool g]] w (CopyEnd F l L g w) := by
  obtain ⟨i0, hi0, hz0, hz1, hz2⟩ := info_parts Tryz.infoStr5
  obtain ⟨i1, hi1, hy0, hy1, hy2⟩ := info_parts Tryz.infoInt5
  have HR := Lib.hid h
  have HS1 := Lib.hid (secV_one F)
  have HS2 := Lib.hid (atV_one l)
  have HS3 := Lib.hid (whatV_one l)
  obtain ⟨n, hn⟩ : ∃ n, F.length = n := ⟨_, rfl⟩
  obtain ⟨m, hm⟩ : ∃ m, l.length = m := ⟨_, rfl⟩
  have HN := Lib.hid hn
  have HM := Lib.hid hm
  have HNil : Hid (m = 0 → aA = none ∧ ac = 0 ∧ wA = none ∧ wc = 0) := Lib.hid (fun h0 => h.none_ (List.eq_nil_of_length_eq_zero (by omega)))
  rw [hn] at hF hF2 ⊢
  rw [hm] at hl ⊢
  clear h hn hm
  have HB0 : Hid (Below w.heap.size w ((w.alloc (.cells #[.slice fA n fc, .slice aA m ac, .slice wA m wc, .int .i64 L, .bool g] 30)).alloc (.cells #[.slice none 0 0, .slice none 0 0, .slice none 0 0, .int .i64 0, .bool false] 30))) := Lib.hid (((Below.refl _ _).alloc (Nat.le_refl _) _).alloc (by simp) _)
  go_enter Tryz.func50, Tryz.ntmps50
  go_wp2_with (at_builtin; refine wpList_append_all rfl (.tmp 6) (.tmp 8) 27 rfl 9 i0 _ 1 16 Tryz.underlying27 hi0 hz0 hz1 hz2 rfl (by decide) rfl fA n fc (F.map secV) rfl ?c1 w.heap.size (HR.out.firm.below HB0.out) ?c3 HS1.out ?c4 ?c5 ?_)
  case c1 => rw [List.length_map, HN.out, Nat.mul_one]
  case c3 => intro h0; omega
  case c4 => unfold maxLen; omega
  case c5 => omega
  intro fA1 fc1 w1 hown1 hb1 hnil1 hat1
  have H5 : Hid (Five w1 w.heap.size (.slice fA n fc) (.slice aA m ac) (.slice wA m wc) (.int .i64 L) (.bool g) ∧ Five w1 (w.heap.size + 1) (.slice none 0 0) (.slice none 0 0) (.slice none 0 0) (.int .i64 0) (.bool false)) :=
    Lib.hid ⟨((Five.new _ _ _ _ _ _).alloc _).below hb1 (by omega), (by have := Five.new (w.alloc (.cells #[.slice fA n fc, .slice aA m ac, .slice wA m wc, .int .i64 L, .bool g] 30)) (.slice none 0 0) (.slice none 0 0) (.slice none 0 0) (.int .i64 0) (.bool false); simpa using this.below hb1 (by simp))⟩
  have HB1 : Hid (Below w.heap.size w w1) := Lib.hid (HB0.out.trans (hb1.mono (by omega)))
  have HO1 := Lib.hid hown1
  have HA1 := Lib.hid hat1
  have HLt1 : Hid (w.heap.size + 2 ≤ w1.heap.size) := Lib.hid (by have := hb1.size; simp at this; omega)
  clear hown1 hb1 hnil1 hat1
  obtain ⟨c0, c1, c2, c3, c4, hf⟩ := H5.out.1.cells
  have HBs : Hid (Below w.heap.size w (w1.setCell ⟨w.heap.size, 0, none⟩ (.slice fA1 n fc1))) := Lib.hid (HB1.out.setCell (by simp) _)
  go_wp2_with (at_builtin; refine wpList_append_all rfl (.tmp 11) (.tmp 13) 28 rfl 3 i1 _ 1 8 Tryz.underlying28 hi1 hy0 hy1 hy2 rfl (by decide) rfl aA m ac (l.map atV) rfl ?c1 w.heap.size (HR.out.at_.below HBs.out) ?c3 HS2.out ?c4 ?c5 ?_)
  case c1 => rw [List.length_map, HM.out, Nat.mul_one]
  case c3 => intro h0; exact ⟨(HNil.out h0).1, (HNil.out h0).2.1⟩
  case c4 => unfold maxLen; omega
  case c5 => omega
  intro aA1 ac1 w2 hown2 hb2 hnil2 hat2
  have hw1 := HLt1.out
  have H52 : Hid (Five w2 w.heap.size (.slice fA1 n fc1) (.slice aA m ac) (.slice wA m wc) (.int .i64 L) (.bool g) ∧ Five w2 (w.heap.size + 1) (.slice none 0 0) (.slice none 0 0) (.slice none 0 0) (.int .i64 0) (.bool false)) :=
    Lib.hid ⟨(H5.out.1.set0 _).below hb2 (by omega), (H5.out.2.far (by simp) _).below hb2 (by omega)⟩
  have HB2 : Hid (Below w.heap.size w w2) := Lib.hid (HBs.out.trans (hb2.mono (by omega)))
  have HF1 : Hid (∀ k, Value.ownBlock (.slice fA1 n fc1) = some k → w.heap.size + 2 ≤ k ∧ k < w1.heap.size) := Lib.hid (own_lt HO1.out)
  have HO12 : Hid (w2.ownsRow (w.heap.size + 2) 9 1 (.slice fA1 n fc1) n (F.map secV)) := Lib.hid (own_keptB (own_set HO1.out (fun e => by have h9 : _ ≤ w.heap.size := (own_lt HO1.out _ e).1; omega) _) hb2 (fun k hk => (HF1.out k hk).2))
  have HO2 := Lib.hid hown2
  have HLt2 : Hid (w1.heap.size ≤ w2.heap.size) := Lib.hid (by have := hb2.size; simp at this; omega)
  have HNil2 := Lib.hid hnil2
  clear hown2 hb2 hnil2 hat2 hw1 c0 c1 c2 c3 c4 hf HBs HO1 HB1 H5
  obtain ⟨c0, c1, c2, c3, c4, hf⟩ := H52.out.1.cells
  have HBs : Hid (Below w.heap.size w (w2.setCell ⟨w.heap.size, 1, none⟩ (.slice aA1 m ac1))) := Lib.hid (HB2.out.setCell (by simp) _)
  go_wp2_with (at_builtin; refine wpList_append_all rfl (.tmp 16) (.tmp 18) 27 rfl 9 i0 _ 1 16 Tryz.underlying27 hi0 hz0 hz1 hz2 rfl (by decide) rfl wA m wc (l.map whatV) rfl ?c1 w.heap.size (HR.out.what.below HBs.out) ?c3 HS3.out ?c4 ?c5 ?_)
  case c1 => rw [List.length_map, HM.out, Nat.mul_one]
  case c3 => intro h0; exact (HNil.out h0).2.2
  case c4 => unfold maxLen; omega
  case c5 => omega
  intro wA1 wc1 w3 hown3 hb3 hnil3 hat3
  have hw1 := HLt1.out
  have hw2 := HLt2.out
  have H53 : Hid (Five w3 w.heap.size (.slice fA1 n fc1) (.slice aA1 m ac1) (.slice wA m wc) (.int .i64 L) (.bool g) ∧ Five w3 (w.heap.size + 1) (.slice none 0 0) (.slice none 0 0) (.slice none 0 0) (.int .i64 0) (.bool false)) :=
    Lib.hid ⟨(H52.out.1.set1 _).below hb3 (by omega), (H52.out.2.far (by simp) _).below hb3 (by omega)⟩
  have HB3 : Hid (Below w.heap.size w w3) := Lib.hid (HBs.out.trans (hb3.mono (by omega)))
  have HF2 : Hid (∀ k, Value.ownBlock (.slice aA1 m ac1) = some k → w1.heap.size ≤ k ∧ k < w2.heap.size) := Lib.hid (own_lt HO2.out)
  have HO13 := own_keptB (own_set HO12.out (p := ⟨w.heap.size, 1, none⟩) (fun e => by have h9 : _ ≤ w.heap.size := (own_lt HO12.out _ e).1; omega) (.slice aA1 m ac1)) hb3 (fun k hk => Nat.lt_of_lt_of_le (HF1.out k hk).2 hw2)
  have HO23 := own_keptB (own_set HO2.out (p := ⟨w.heap.size, 1, none⟩) (fun e => by have h9 : _ ≤ w.heap.size := (own_lt HO2.out _ e).1; omega) (.slice aA1 m ac1)) hb3 (fun k hk => (HF2.out k hk).2)
  have HW : Hid (w.heap.size + 2 ≤ w3.heap.size) := Lib.hid (by have := hb3.size; simp at this; omega)
  have HOwn : Hid (RefOwn w3 w.heap.size F l fA1 fc1 aA1 ac1 wA1 wc1 ∧ RefLow F l fA1 fc1 aA1 ac1 wA1 wc1 (w.heap.size + 2)) := by
    have hF3 : ∀ k, Value.ownBlock (.slice wA1 m wc1) = some k → w2.heap.size ≤ k := fun k hk => (own_lt hown3 k hk).1
    refine Lib.hid ⟨?_, ?_⟩
    · refine ⟨?_, ?_, ?_, ?_, ?_, ?_, fun h0 => ?_⟩ <;> try rw [HN.out]
      · exact own_base HO13 (by omega)
      · rw [HM.out]; exact own_base HO23 (by omega)
      · rw [HM.out]; exact own_base hown3 (by omega)
      · rw [HM.out]; intro k h1 h2; have := (HF1.out k h1).2; have := (HF2.out k h2).1; omega
      · rw [HM.out]; intro k h1 h2; have := (HF1.out k h1).2; have := hF3 k h2; omega
      · rw [HM.out]; intro k h1 h2; have := (HF2.out k h1).2; have := hF3 k h2; omega
      · have h00 : m = 0 := by rw [← HM.out, h0]; rfl
        exact ⟨(HNil2.out h00).1, (HNil2.out h00).2, (hnil3 h00).1, (hnil3 h00).2⟩
    · unfold RefLow
      rw [HN.out, HM.out]
      rintro k (h | h | h)
      · exact (HF1.out k h).1
      · have := (HF2.out k h).1; omega
      · have := hF3 k h; omega
  clear hown3 hb3 hnil3 hat3 c0 c1 c2 c3 c4 hf HBs HO12 HO2 HO13 HO23 HB2 H52 hw1 hw2
  obtain ⟨c0, c1, c2, c3, c4, hf⟩ := H53.out.1.cells
  obtain ⟨d0, d1, d2, d3, d4, hg⟩ := H53.out.2.cells
  go_wp2
  exact bodyPost_ret (v := .agg #[.slice fA1 n fc1, .slice aA1 m ac1, .slice wA1 m wc1, .int .i64 L, .bool g]) (by simp [results, Tryz.results50, go_sem, d0, d1, d2, d3, d4]) rfl
    (by
      obtain ⟨ho, hlo⟩ := HOwn.out
      refine ⟨fA1, fc1, aA1, ac1, wA1, wc1, by rw [HN.out, HM.out], ?_, ?_⟩
      · exact (((((ho.setLow hlo (by simp) _).setLow hlo (by simp) _).setLow hlo (by simp) _).setLow hlo (by simp) _).setLow hlo (by simp) _).setLow hlo (by simp) _
      · exact (((((HB3.out.setCell (by simp) _).setCell (by simp) _).setCell (by simp) _).setCell (by simp) _).setCell (by simp) _).setCell (by simp) _)

/-! ### spend, Arm -/

def SpendEnd (n m : Nat) (fA : Option Addr) (fc : Nat) (aA : Option Addr) (ac : Nat) (wA : Option Addr) (wc : Nat) (L : Int) (g ok : Bool) (w : World) (e : Ending) (w' : World) : Prop :=
  e = .returned (.tuple #[.agg #[.slice fA n fc, .slice aA m ac, .slice wA m wc, .int .i64 L, .bool g], .bool ok]) ∧ Below w.heap.size w w'

set_option maxHeartbeats 800000 in
theorem RefSpend_any (n m : Nat) (fA : Option Addr) (fc : Nat) (aA : Option Addr) (ac : Nat) (wA : Option Addr) (wc : Nat) (L : Int) (g : Bool) (hL : -1 ≤ L) (hL2 : L ≤ 9223372036854775807) (w : World) :
    Calls Tryz.prog 92 #[.agg #[.slice fA n fc, .slice aA m ac, .slice wA m wc, .int .i64 L, .bool g]] w
      (SpendEnd n m fA fc aA ac wA wc (if 0 < L then L - 1 else L) (if L = 0 then true else g) (decide (L ≠ 0)) w) := by
  by_cases h0 : L = 0
  · subst h0
    go_enter Tryz.func92, Tryz.ntmps92
    go_wp2
    exact bodyPost_ret (v := .tuple #[.agg #[.slice fA n fc, .slice aA m ac, .slice wA m wc, .int .i64 0, .bool true], .bool false]) (by simp [results, Tryz.results92, go_sem]) rfl ⟨rfl, ((Below.refl _ _).alloc (Nat.le_refl _) _).alloc (by simp) _⟩
  · have h1 : (L == 0) = false := by rw [beq_eq_false_iff_ne]; exact h0
    rw [if_neg h0, show decide (L ≠ 0) = true from by simpa using h0]
    clear h0
    by_cases h2 : 0 < L
    · rw [if_pos h2]
      go_enter Tryz.func92, Tryz.ntmps92
      go_wp2
      exact bodyPost_ret (v := .tuple #[.agg #[.slice fA n fc, .slice aA m ac, .slice wA m wc, .int .i64 (L - 1), .bool g], .bool true]) (by simp [results, Tryz.results92, go_sem]) rfl ⟨rfl, ((Below.refl _ _).alloc (Nat.le_refl _) _).alloc (by simp) _⟩
    · have h3 : decide (0 < L) = false := by simpa using h2
      rw [if_neg h2]
      go_enter Tryz.func92, Tryz.ntmps92
      go_wp2
      exact bodyPost_ret (v := .tuple #[.agg #[.slice fA n fc, .slice aA m ac, .slice wA m wc, .int .i64 L, .bool g], .bool true]) (by simp [results, Tryz.results92, go_sem]) rfl ⟨rfl, ((Below.refl _ _).alloc (Nat.le_refl _) _).alloc (by simp) _⟩
end Go.Proofs.YtlelfakememckaaGreatDoor
