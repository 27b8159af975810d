/- A region that draws its order and makes memory: what each operation leaves in its slot is said by a predicate that stays true in later worlds; each operation is shown once, of any frame whose slots that it looks at are so: then every order is served. No program in sight. -/
import Derived.Test.YtkpoeigoocbgeaaMem
import Derived.Lib.Builder
namespace Go.Proofs.Ytkpoeigoocbgeaa
open Go.RowKit

def uponV (P : Program) (R : Value → World → Prop) : Result Next → Prop
  | .ok (.value v) w' => R v w'
  | .ok (.enter f args) w' => Calls P f args w' fun e w'' => ∃ v, e = .returned v ∧ R v w''
  | _ => False
/-- One operation, whatever else has come up. -/
def SlotStep (P : Program) (ops : Array Oper) (C : World → Prop) (L : World → World → Prop) (S : Tmp → World → Value → Prop) (o : Oper) : Prop :=
  ∀ (a : Act) (w : World), C w → (∀ t ∈ o.looksAt ops, S t w (a.eval (.tmp t))) →
    uponV P (fun v w' => C w' ∧ L w w' ∧ ∀ d, o.dst = some d → S d w' v) ((execOp a.eval o).run P w)
/-- No guards; each operation waits for those whose slots it looks at, and for earlier ones alone. -/
def slotsB (n : Nat) (ops : Array Oper) : Bool :=
  (List.range ops.size).all fun j => match ops[j]? with
    | none => true
    | some o => o.guard.isNone && (match o.dst with | some d => decide (d < n) | none => true) && o.after.all (fun e => decide (e.on < j)) &&
      (o.looksAt ops).all fun t => (List.range ops.size).all fun k => match ops[k]? with
        | none => true
        | some ok => ok.dst != some t || o.after.any fun e => Region.binds .any e && e.on == k
structure SlotsOk (n : Nat) (ops : Array Oper) : Prop where
  guard : ∀ (j : Nat) (o : Oper), ops[j]? = some o → o.guard = none
  dst : ∀ (j : Nat) (o : Oper), ops[j]? = some o → ∀ d, o.dst = some d → d < n
  after : ∀ (j : Nat) (o : Oper), ops[j]? = some o → ∀ e ∈ o.after, e.on < j
  looks : ∀ (j : Nat) (o : Oper), ops[j]? = some o → ∀ t ∈ o.looksAt ops, ∀ (k : Nat) (ok : Oper), ops[k]? = some ok → ok.dst = some t → ∃ e ∈ o.after, Region.binds .any e = true ∧ e.on = k
theorem slotsB_ok {n : Nat} {ops : Array Oper} (h : slotsB n ops = true) : SlotsOk n ops := by
  unfold slotsB at h
  rw [List.all_eq_true] at h
  have key : ∀ (j : Nat) (o : Oper), ops[j]? = some o → (o.guard.isNone && (match o.dst with | some d => decide (d < n) | none => true) && o.after.all (fun e => decide (e.on < j)) &&
      (o.looksAt ops).all fun t => (List.range ops.size).all fun k => match ops[k]? with
        | none => true
        | some ok => ok.dst != some t || o.after.any fun e => Region.binds .any e && e.on == k) = true := fun j o ho => by
    have := h j (List.mem_range.2 (Array.getElem?_eq_some_iff.1 ho).1)
    rw [ho] at this
    exact this
  refine ⟨fun j o ho => ?_, fun j o ho d hd => ?_, fun j o ho e he => ?_, fun j o ho t ht k ok hk hd => ?_⟩
  · have := key j o ho
    simp only [Bool.and_eq_true, Option.isNone_iff_eq_none] at this
    exact this.1.1.1
  · have := key j o ho
    simp only [Bool.and_eq_true] at this
    have h2 := this.1.1.2
    rw [hd] at h2
    simpa using h2
  · have := key j o ho
    simp only [Bool.and_eq_true] at this
    have h2 := this.1.2
    have := Array.all_eq_true_iff_forall_mem.1 h2 e he
    simpa using this
  · have := key j o ho
    simp only [Bool.and_eq_true] at this
    have h2 := List.all_eq_true.1 this.2 t ht
    have h3 := List.all_eq_true.1 h2 k (List.mem_range.2 (Array.getElem?_eq_some_iff.1 hk).1)
    rw [hk] at h3
    simp only [hd, Bool.or_eq_true] at h3
    rcases h3 with h3 | h3
    · simp at h3
    · obtain ⟨e, he, hb⟩ := Array.any_eq_true'.1 h3
      rw [Bool.and_eq_true, beq_iff_eq] at hb
      exact ⟨e, he, hb.1, hb.2⟩

theorem eval_put_self17 (a : Act) (d : Tmp) (v : Value) (h : d < a.tmps.size) : (a.put (some d) v).eval (.tmp d) = v := by
  simp [Act.eval, Act.put, h]
section
variable {P : Program} {ops : Array Oper} {Q : Exit → Act → World → Prop} {C : World → Prop} {L : World → World → Prop} {S : Tmp → World → Value → Prop}

theorem wpAny_slots {n : Nat} {a0 : Act} (hB : SlotsOk n ops) (hmono : ∀ t w w' v, C w → L w w' → S t w v → S t w' v)
    (hstep : ∀ (j : Nat) (o : Oper), ops[j]? = some o → SlotStep P ops C L S o)
    (hend : ∀ tmps w, tmps.size = n → C w → (∀ t, S t w (Act.eval { a0 with tmps := tmps } (.tmp t))) → Q .normal { a0 with tmps := tmps } w) :
    ∀ (fuel : Nat) (listed : Array Bool) (tmps : Array Value) (w : World), tmps.size = n → listed.size = ops.size →
      (∃ l : List Nat, l.length ≤ fuel ∧ ∀ j, j < ops.size → listed.getD j true = false → j ∈ l) → C w →
      (∀ t, (∀ (j : Nat) (o : Oper), ops[j]? = some o → o.dst = some t → listed.getD j false = true) → S t w (Act.eval { a0 with tmps := tmps } (.tmp t))) →
      wpAny P .any ops Q fuel listed { a0 with tmps := tmps } w := by
  have hAll : ∀ (listed : Array Bool), listed.size = ops.size → Region.ready .any ops listed = [] → ∀ (j : Nat), j < ops.size → listed.getD j false = true := by
    intro listed hls hr j
    induction j using Nat.strongRecOn with
    | ind j ih =>
      intro hj
      rcases hb : listed.getD j false with _ | _
      · exfalso
        have ho : ops[j]? = some ops[j] := Array.getElem?_eq_getElem hj
        have : j ∈ Region.ready .any ops listed := by
          rw [mem_ready]
          refine ⟨?_, _, ho, fun e he _ => ih e.on (hB.after j _ ho e he) (Nat.lt_trans (hB.after j _ ho e he) hj)⟩
          have hlt : j < listed.size := by omega
          simp only [Array.getD, hlt, dif_pos] at hb ⊢
          exact hb
        rw [hr] at this
        cases this
      · rfl
  have hFin : ∀ (listed : Array Bool) (tmps : Array Value) (w : World), tmps.size = n → listed.size = ops.size → C w → Region.ready .any ops listed = [] →
      (∀ t, (∀ (j : Nat) (o : Oper), ops[j]? = some o → o.dst = some t → listed.getD j false = true) → S t w (Act.eval { a0 with tmps := tmps } (.tmp t))) → Q .normal { a0 with tmps := tmps } w :=
    fun listed tmps w hn hls hC hr hS => hend tmps w hn hC fun t => hS t fun j o ho _ => hAll listed hls hr j (Array.getElem?_eq_some_iff.1 ho).1
  intro fuel
  induction fuel with
  | zero =>
    intro listed tmps w hn hls ⟨l, hl, hm⟩ hC hS
    have hr : Region.ready .any ops listed = [] := by
      rw [List.eq_nil_iff_forall_not_mem]
      intro j hj
      obtain ⟨h0, o, ho, _⟩ := mem_ready.1 hj
      have := hm j (Array.getElem?_eq_some_iff.1 ho).1 h0
      have hl0 : l = [] := List.length_eq_zero_iff.1 (by omega)
      rw [hl0] at this
      cases this
    exact ⟨hr, hFin listed tmps w hn hls hC hr hS⟩
  | succ fuel ih =>
    intro listed tmps w hn hls ⟨l, hl, hm⟩ hC hS
    refine ⟨fun hr => hFin listed tmps w hn hls hC hr hS, fun i hi => ?_⟩
    obtain ⟨h0, o, ho, hall⟩ := mem_ready.1 hi
    have hil : i < ops.size := (Array.getElem?_eq_some_iff.1 ho).1
    have hst := hstep i o ho { a0 with tmps := tmps } w hC (fun t ht => hS t fun k ok hk hd => by
      obtain ⟨e, he, hb, rfl⟩ := hB.looks i o ho t ht k ok hk hd
      exact hall e he hb)
    have hnext : ∀ v w', C w' → L w w' → (∀ d, o.dst = some d → S d w' v) → wpAny P .any ops Q fuel (listed.setIfInBounds i true) (Act.put { a0 with tmps := tmps } o.dst v) w' := by
      intro v w' hC' hL hd
      have hput : ∃ tmps', tmps'.size = n ∧ Act.put { a0 with tmps := tmps } o.dst v = { a0 with tmps := tmps' } := by
        cases o.dst with
        | none => exact ⟨tmps, hn, rfl⟩
        | some d => exact ⟨tmps.setIfInBounds d v, by simpa using hn, rfl⟩
      have hval : ∀ t, (o.dst = some t → (Act.put { a0 with tmps := tmps } o.dst v).eval (.tmp t) = v) ∧ (o.dst ≠ some t → (Act.put { a0 with tmps := tmps } o.dst v).eval (.tmp t) = Act.eval { a0 with tmps := tmps } (.tmp t)) := by
        intro t
        refine ⟨fun e => ?_, fun e => Act.eval_put fun d hd he => e (by rw [hd]; congr 1; simpa using he.symm)⟩
        have hlt := hB.dst i o ho t e
        rw [e]
        exact eval_put_self17 _ _ _ (by show t < tmps.size; rw [hn]; exact hlt)
      obtain ⟨tmps', hn', he⟩ := hput
      rw [he] at hval ⊢
      refine ih _ tmps' w' hn' (by simpa using hls) ⟨l.erase i, ?_, fun j hj hu => ?_⟩ hC' fun t ht => ?_
      · have := hm i hil h0
        rw [List.length_erase_of_mem this]
        omega
      · have hne : j ≠ i := by
          rintro rfl
          simp [Array.getD] at hu
        rw [getD_set_ne true (Ne.symm hne)] at hu
        exact (List.mem_erase_of_ne hne).2 (hm j hj hu)
      · by_cases e : o.dst = some t
        · rw [(hval t).1 e]
          exact hd t e
        · rw [(hval t).2 e]
          refine hmono t w w' _ hC hL (hS t fun j oj hj hdj => ?_)
          have hji : j ≠ i := by
            rintro rfl
            rw [ho] at hj
            cases hj
            exact e hdj
          have := ht j oj hj hdj
          rw [getD_set_ne false (Ne.symm hji)] at this
          exact this
    unfold wpOp
    rw [ho]
    dsimp only
    have hw : Region.wanted o (yielded ops ({ a0 with tmps := tmps } : Act).tmps) = true := by unfold Region.wanted; rw [hB.guard i o ho]
    rw [if_pos hw]
    refine .inl ?_
    unfold Oper.wp
    generalize (execOp (Act.eval { a0 with tmps := tmps }) o).run P w = r at hst
    cases r with
    | halt x w' => exact hst.elim
    | ok nx w' =>
      cases nx <;> first | exact hst.elim | skip
      case value v => exact hnext v w' hst.1 hst.2.1 hst.2.2
      case enter f args =>
        refine Calls.mono hst ?_
        rintro e w'' ⟨v, rfl, h1, h2, h3⟩
        exact hnext v w'' h1 h2 h3
end
/-- **Every order is served.** -/
theorem wp_region_slots {P : Program} {id n : Nat} {Q : Exit → Act → World → Prop} {a : Act} {w : World} {l : List Oper} {C : World → Prop} {L : World → World → Prop} {S : Tmp → World → Value → Prop}
    (hm : P.follows .mixedOrders = true) (hB : slotsB n l.toArray = true) (hn : a.tmps.size = n) (hC : C { w with drawn := w.drawn + 1 })
    (hmono : ∀ t w w' v, C w → L w w' → S t w v → S t w' v)
    (h0 : ∀ t, (∀ o ∈ l, o.dst ≠ some t) → S t { w with drawn := w.drawn + 1 } (a.eval (.tmp t)))
    (hstep : ∀ o ∈ l, SlotStep P l.toArray C L S o)
    (hend : ∀ tmps w', tmps.size = n → C w' → (∀ t, S t w' (Act.eval { a with tmps := tmps } (.tmp t))) → Q .normal { a with tmps := tmps } w') :
    (Code.region id l.toArray true).wp P Q a w := by
  refine wp_region_any hm ?_
  refine wpAny_slots (a0 := a) (slotsB_ok hB) hmono (fun j o ho => hstep o (by simpa using Array.mem_of_getElem? ho)) hend _ _ a.tmps _ hn (by simp) ⟨List.range l.toArray.size, by simp, fun j hj _ => List.mem_range.2 hj⟩ hC fun t ht => ?_
  refine h0 t fun o ho hd => ?_
  obtain ⟨j, hj, rfl⟩ := List.getElem_of_mem ho
  have := ht j l[j] (by simp [hj]) hd
  simp [Array.getD] at this

theorem below_next17 {w w1 w2 : World} (h1 : Below w.heap.size w w1) (h2 : Below w1.heap.size w1 w2) : Below w.heap.size w w2 := h1.trans (h2.mono h1.size)
/-- One operation, of any frame whose operands' slots are as S says. -/
def SlotOp (P : Program) (C : World → Prop) (L : World → World → Prop) (S : Tmp → World → Value → Prop) (o : Oper) : Prop :=
  ∀ (a : Act) (w : World), C w → (∀ t, Operand.tmp t ∈ o.op.operands.toList → S t w (a.eval (.tmp t))) →
    uponV P (fun v w' => C w' ∧ L w w' ∧ ∀ d, o.dst = some d → S d w' v) ((execOp a.eval o).run P w)
theorem SlotOp.step {P : Program} {ops : Array Oper} {C : World → Prop} {L : World → World → Prop} {S : Tmp → World → Value → Prop} {o : Oper} (h : SlotOp P C L S o) : SlotStep P ops C L S o :=
  fun a w hC hs => h a w hC fun t ht => hs t (List.mem_append_left _ (List.mem_filterMap.2 ⟨.tmp t, ht, rfl⟩))
/-- A slice of the call's own, of numbers. -/
def SlW (w : World) (v : Value) (l : List Int) : Prop := ∃ g, v = .slice (some ⟨g, 0, none⟩) l.length l.length ∧ Lies w w.heap.size (some ⟨g, 0, none⟩) (l.map (Value.int .i64))
/-- What stands in a slot: a value, or a slice of such numbers wherever it lies. -/
def slotP (f : Tmp → Value ⊕ List Int) (t : Tmp) (w : World) (v : Value) : Prop :=
  match f t with
  | .inl u => v = u
  | .inr l => SlW w v l
theorem slotP_mono {f : Tmp → Value ⊕ List Int} {t : Tmp} {w w' : World} {v : Value} (hb : Below w.heap.size w w') (h : slotP f t w v) : slotP f t w' v := by
  unfold slotP at h ⊢
  split at h
  · exact h
  · obtain ⟨g, h1, h2⟩ := h
    exact ⟨g, h1, h2.next hb⟩
def tblF (tbl : List (Nat × (Value ⊕ List Int))) (a : Act) (t : Tmp) : Value ⊕ List Int := (tbl.lookup t).getD (.inl (a.eval (.tmp t)))
theorem lookup_none17 {β : Type} : ∀ {l : List (Nat × β)} {t : Nat}, (∀ p ∈ l, p.1 ≠ t) → l.lookup t = none
  | [], _, _ => rfl
  | p :: l, t, h => by
    have h1 := h p (by simp)
    rw [List.lookup_cons]
    have : (t == p.1) = false := by rw [beq_eq_false_iff_ne]; exact fun e => h1 e.symm
    rw [this]
    exact lookup_none17 fun q hq => h q (List.mem_cons_of_mem _ hq)
/-- A region over a table of slots. -/
theorem wp_region_table {P : Program} {id n : Nat} {Q : Exit → Act → World → Prop} {a : Act} {U : World} {l : List Oper} (tbl : List (Nat × (Value ⊕ List Int)))
    (hm : P.follows .mixedOrders = true) (hB : slotsB n l.toArray = true) (hn : a.tmps.size = n) (hk : (tbl.map (·.1)).all (fun k => l.any fun o => o.dst == some k) = true)
    (hstep : ∀ o ∈ l, SlotOp P (fun w => Below U.heap.size U w) (fun w w' => Below w.heap.size w w') (slotP (tblF tbl a)) o)
    (hend : ∀ tmps w', tmps.size = n → Below U.heap.size U w' → (∀ t, slotP (tblF tbl a) t w' (Act.eval { a with tmps := tmps } (.tmp t))) → Q .normal { a with tmps := tmps } w') :
    (Code.region id l.toArray true).wp P Q a U := by
  refine wp_region_slots (C := fun w => Below U.heap.size U w) (L := fun w w' => Below w.heap.size w w') (S := slotP (tblF tbl a)) hm hB hn ((Below.refl _ _).drew) (fun t w w' v _ hL h => slotP_mono hL h) (fun t ht => ?_) (fun o ho => (hstep o ho).step) hend
  have hl : tbl.lookup t = none := lookup_none17 fun p hp e => by
    have := List.all_eq_true.1 hk p.1 (List.mem_map_of_mem hp)
    obtain ⟨o, ho, hd⟩ := List.any_eq_true.1 this
    exact ht o ho (by rw [← e]; simpa using hd)
  unfold slotP tblF
  rw [hl]
  rfl
section
variable {P : Program} {U : World} {f : Tmp → Value ⊕ List Int} {o : Oper}
/-- An operation that leaves the world alone and yields the value that the table says. -/
theorem SlotOp.val {d : Tmp} {u : Value} (hd : o.dst = some d) (hf : f d = .inl u)
    (h : ∀ (a : Act) (w : World), Below U.heap.size U w → (∀ t, Operand.tmp t ∈ o.op.operands.toList → slotP f t w (a.eval (.tmp t))) → (execOp a.eval o).run P w = .ok (.value u) w) :
    SlotOp P (fun w => Below U.heap.size U w) (fun w w' => Below w.heap.size w w') (slotP f) o := by
  intro a w hC hs
  rw [h a w hC hs]
  refine ⟨hC, Below.refl _ _, fun d' hd' => ?_⟩
  rw [hd] at hd'
  cases hd'
  unfold slotP
  rw [hf]
/-- A call that yields the value that the table says. -/
theorem SlotOp.call {d : Tmp} {u : Value} (hd : o.dst = some d) (hf : f d = .inl u)
    (h : ∀ (a : Act) (w : World), Below U.heap.size U w → (∀ t, Operand.tmp t ∈ o.op.operands.toList → slotP f t w (a.eval (.tmp t))) → ∃ fn args, (execOp a.eval o).run P w = .ok (.enter fn args) w ∧ Calls P fn args w fun e w' => e = .returned u ∧ Below w.heap.size w w') :
    SlotOp P (fun w => Below U.heap.size U w) (fun w w' => Below w.heap.size w w') (slotP f) o := by
  intro a w hC hs
  obtain ⟨fn, args, h1, h2⟩ := h a w hC hs
  rw [h1]
  refine h2.mono ?_
  rintro e w' ⟨rfl, hb⟩
  refine ⟨u, rfl, below_next17 hC hb, hb, fun d' hd' => ?_⟩
  rw [hd] at hd'
  cases hd'
  unfold slotP
  rw [hf]
/-- A slice of numbers, made. -/
theorem SlotOp.made {d : Tmp} {l : List Int} {e : TypeId} (hd : o.dst = some d) (hf : f d = .inr l)
    (h : ∀ (a : Act) (w : World), Below U.heap.size U w → (∀ t, Operand.tmp t ∈ o.op.operands.toList → slotP f t w (a.eval (.tmp t))) → (execOp a.eval o).run P w = .ok (.value (.slice (some ⟨w.heap.size, 0, none⟩) l.length l.length)) (w.alloc (.cells (l.map (Value.int .i64)).toArray e))) :
    SlotOp P (fun w => Below U.heap.size U w) (fun w w' => Below w.heap.size w w') (slotP f) o := by
  intro a w hC hs
  rw [h a w hC hs]
  have hb := below_one w (.cells (l.map (Value.int .i64)).toArray e)
  refine ⟨below_next17 hC hb, hb, fun d' hd' => ?_⟩
  rw [hd] at hd'
  cases hd'
  unfold slotP
  rw [hf]
  refine ⟨w.heap.size, rfl, .inr ⟨w.heap.size, 0, rfl, by simp, fun i hi => ?_⟩⟩
  rw [Lib.cell_of_heap (heap_new w _), Nat.zero_add]
  simp at hi ⊢
end
end Go.Proofs.Ytkpoeigoocbgeaa
