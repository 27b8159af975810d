/- The walks of LagJudges and LagLess. -/
import Derived.Test.YthajgoigmkkbgaaLagC
namespace Go.Proofs.Ythajgoigmkkbgaa
open Go.Shelf Go.RowKit Go.Lib Go.Sort

theorem wp_region_in {P : Program} {id : Nat} {Q : Exit → Act → World → Prop} {a : Act} {V w : World} {l : List Oper} (hw : Below V.heap.size V w) (hm : P.follows .mixedOrders = true) (hB : Region.lexB .any l.toArray = true)
    (h : wpQuiet P l.toArray (fun w' => ∃ p : LatW V, w' = p.wd) (fun a' => ∀ w', (∃ p : LatW V, w' = p.wd) → Q .normal a' w') l a) : (Code.region id l.toArray true).wp P Q a w :=
  wp_region_quiet (C := fun w' => ∃ p : LatW V, w' = p.wd) hm hB ⟨⟨w.drew, hw.drew⟩, rfl⟩ (by simpa using h)

theorem bytesW_le (ws : List Wr) (h : ∀ x ∈ ws, x.data.size ≤ 140737488351232) : bytesW ws ≤ ws.length * 140737488351240 := by
  induction ws with
  | nil => exact Nat.zero_le _
  | cons x ws ih =>
    have h1 := h x (by simp)
    have h2 := ih (fun y hy => h y (by simp [hy]))
    rw [bytesW_cons, List.length_cons]; omega
theorem joinS_len {l : List SetV} {b : Nat} (h : ∀ x ∈ l, x.ws.length ≤ b) : (joinS l).length ≤ l.length * b := by
  unfold joinS plainS
  induction l with
  | nil => simp
  | cons x l ih =>
    have h1 := h x (by simp)
    have h2 := ih (fun y hy => h y (by simp [hy]))
    simp only [List.map_cons, List.flatMap_cons, List.length_append, List.length_cons]
    have e : (l.length + 1) * b = l.length * b + b := Nat.succ_mul _ _
    have : (SetV.set x).ws.length ≤ b := h1
    omega
theorem quJoined_bytes {q : QuV} (h : ∀ x ∈ q.sets, ∀ u ∈ x.ws, u.data.size ≤ 140737488351232) (h2 : ∀ u ∈ q.opn, u.data.size ≤ 140737488351232) : ∀ u ∈ quJoined q.qu, u.data.size ≤ 140737488351232 := by
  intro u hu
  rw [quJoined_is] at hu
  rcases List.mem_append.1 hu with hu | hu
  · unfold joinS plainS at hu
    obtain ⟨s, hs, hu⟩ := List.mem_flatMap.1 hu
    obtain ⟨x, hx, rfl⟩ := List.mem_map.1 hs
    exact h x hx u hu
  · exact h2 u hu

/-- What a small queue is. -/
structure LagIn (q : QuV) : Prop where
  fine : QuFine q
  sets : q.sets.length ≤ 500
  joined : (joinS q.sets).length + q.opn.length ≤ 4000
  bytes : bytesW (quJoined q.qu) ≤ 562949953404960000
theorem bytes_lot {ws : List Wr} (h : ws.length ≤ 4000) (hx : ∀ x ∈ ws, x.data.size ≤ 140737488351232) : bytesW ws ≤ 562949953404960000 := by
  have h1 := bytesW_le ws hx
  generalize ws.length = m at h h1
  omega
theorem LagIn.of {q : QuV} (h : smallQ q = true) (hx : ∀ x ∈ q.sets, ∀ u ∈ x.ws, u.data.size ≤ 140737488351232) (ho : ∀ u ∈ q.opn, u.data.size ≤ 140737488351232) : LagIn q := by
  have hU := smU_small h
  have h1 := joinS_len (hU.each rfl)
  have h2 := hU.sets (q := q) rfl
  have h3 := hU.opn (q := q) rfl
  have hj : (joinS q.sets).length + q.opn.length ≤ 4000 := by
    have : q.sets.length * 60 ≤ 20 * 60 := Nat.mul_le_mul_right _ h2
    omega
  exact ⟨hU.fine rfl (by omega) (by omega), by omega, hj, bytes_lot (by rw [quJoined_is, List.length_append]; exact hj) (quJoined_bytes hx ho)⟩

set_option maxHeartbeats 8000000 in
set_option maxRecDepth 100000 in
theorem LagJudges_walk {w : World} (b : Bd) {q : QuV} {A3 : Option Addr} {c3 : Nat} {ws : List Wr} (h : QuAt w w.heap.size q) (hs : q.sets.length ≤ 9223372036854775807) (hx : ∀ x ∈ q.sets, x.ws.length ≤ 9223372036854775807 ∧ ∀ u ∈ x.ws, u.data.size ≤ 140737488351232) (ho : q.opn.length ≤ 9223372036854775807 ∧ ∀ u ∈ q.opn, u.data.size ≤ 140737488351232) (hw : WrsAt w w.heap.size A3 ws) (hy : ws.length ≤ 9223372036854775807 ∧ (A3 = none → c3 = 0)) (hd : ∀ x ∈ ws, x.data.size ≤ 140737488351232) :
    Calls Try.prog 3 #[b.val, q.val, .slice A3 ws.length c3] w fun e w' => e = .returned (.bool true) ∧ Below w.heap.size w w' := by
  obtain ⟨V1, V, hV1, hV, hs1, hb, hX, hF, hQ⟩ := boxed2 b h
  have HV1 := Lib.hid hV1
  have HV := Lib.hid hV
  have HBV := Lib.hid hb
  have HX := Lib.hid hX
  have HF := Lib.hid hF
  have HSm : Hid (LatCalls Try.prog V 8 #[q.val] (.bool (smallQ q))) := Lib.hid (LatCalls.of fun z => SmallQ_any (hQ z) hs (fun x h => (hx x h).1) ho.1)
  have HAw : Hid (LatCalls Try.prog V 9 #[] (.bool true)) := Lib.hid (LatCalls.of fun z => awake13_any z.wd)
  have HR1 : Hid (LatCalls Try.prog V 12 #[b.val] (.bool (bdOk b))) := Lib.hid (LatCalls.of fun z => LRight_any b z.wd)
  have HR2 : Hid (LatCalls Try.prog V 13 #[b.val] (.bool (bdOk b))) := Lib.hid (LatCalls.of fun z => DLRight_any b z.wd)
  have HJ : Hid (smallQ q = true → ws.length ≤ 60 → LatCalls Try.prog V 10 #[b.val, q.val, .slice A3 ws.length c3] (.int .i64 (judgeB b q.qu ws)) ∧ LatCalls Try.prog V 11 #[b.val, q.val, .slice A3 ws.length c3] (.int .i64 (judgeB b q.qu ws))) := Lib.hid (fun e h60 => by
    have hI := LagIn.of e (fun x h => (hx x h).2) ho.2
    have h2 := bytes_lot (Nat.le_trans h60 (by omega)) hd
    have h1 := hI.bytes
    exact ⟨LatCalls.of fun z => Judge_any b (hQ z) hI.fine hI.joined ((hw.next hb).next z.bel) hy.1 (by omega), LatCalls.of fun z => DJudge_any b (hQ z) hI.fine hI.joined ((hw.next hb).next z.bel) (by omega) hy.2 (by omega)⟩)
  have HEnd : Hid (∀ z : LatW V, Below w.heap.size w z.wd) := Lib.hid (fun z => lat_end HBV.out z)
  clear hV1 hV hs1 hb hX hF hQ h hs hx ho hw hy hd HBV
  unfold QuV.val Bd.val at *
  generalize judgeB b q.qu ws = J at HJ
  generalize bdOk b = R at HR1 HR2
  generalize smallQ q = S at HSm HJ
  generalize q.sets.length = n at HV HF HSm HJ ⊢
  generalize q.opn.length = m at HV HF HSm HJ ⊢
  generalize ws.length = m3 at HJ ⊢
  obtain ⟨A, c, l, A2, c2, us, f, tt⟩ := q
  obtain ⟨t, y, hd⟩ := b
  simp only at HV1 HV HF HX HR1 HR2 HSm HJ ⊢
  have x0 := fun z : LatW V => (HX.out.lat z).c0
  have x1 := fun z : LatW V => (HX.out.lat z).c1
  have x2 := fun z : LatW V => (HX.out.lat z).c2
  have y0 := fun z : LatW V => (HF.out.lat z).c0
  have y1 := fun z : LatW V => (HF.out.lat z).c1
  have y2 := fun z : LatW V => (HF.out.lat z).c2
  have y3 := fun z : LatW V => (HF.out.lat z).c3
  have HEn := HEnd
  cases S with
  | false =>
    clear HJ
    go_enter Try.func3, Try.ntmps3
    go_wp2_with fail
    rw [← HV1.out, ← HV.out]
    obtain ⟨z0, hzs⟩ := LatW.start V
    rw [← hzs]
    clear hzs
    generalize w.heap.size = H at x0 x1 x2 y0 y1 y2 y3 ⊢
    refine (HSm.out.at_ _).mono ?_
    rintro e w9 ⟨rfl, z9, rfl⟩
    go_wp2_with (first | (go_at_call 9; refine (HAw.out.at_ _).mono ?_; rintro e w9 ⟨rfl, z8, rfl⟩))
    go_ret
    exact ⟨rfl, HEn.out _⟩
  | true =>
    by_cases h60 : m3 ≤ 60
    · obtain ⟨hJ1, hJ2⟩ := HJ.out rfl h60
      have HJ1 := Lib.hid hJ1
      have HJ2 := Lib.hid hJ2
      have h60z : ¬ (60 : Int) < (m3 : Int) := by omega
      clear HJ hJ1 hJ2 h60
      go_enter Try.func3, Try.ntmps3
      go_wp2_with fail
      rw [← HV1.out, ← HV.out]
      obtain ⟨z0, hzs⟩ := LatW.start V
      rw [← hzs]
      clear hzs
      generalize w.heap.size = H at x0 x1 x2 y0 y1 y2 y3 ⊢
      refine (HSm.out.at_ _).mono ?_
      rintro e w9 ⟨rfl, z9, rfl⟩
      go_wp2_with fail
      refine wp_region_in (LatW.bel _) (by kernel_rfl) (by kernel_rfl) ?_
      repeat (first | go_big_quiet_skip | quiet_step (first | (go_at_call 10; exact HJ1.out.at_ _) | (go_at_call 11; exact HJ2.out.at_ _) | (go_at_call 12; exact HR1.out.at_ _) | (go_at_call 13; exact HR2.out.at_ _) | (go_at_call 9; exact HAw.out.at_ _)))
      refine wpQuiet_nil ?_
      intro w9 hw9
      obtain ⟨z8, hw9'⟩ := hw9
      subst hw9'
      go_wp2_with fail
      go_ret
      exact ⟨rfl, HEn.out _⟩
    · have h60z : (60 : Int) < (m3 : Int) := by omega
      clear HJ h60
      go_enter Try.func3, Try.ntmps3
      go_wp2_with fail
      rw [← HV1.out, ← HV.out]
      obtain ⟨z0, hzs⟩ := LatW.start V
      rw [← hzs]
      clear hzs
      generalize w.heap.size = H at x0 x1 x2 y0 y1 y2 y3 ⊢
      refine (HSm.out.at_ _).mono ?_
      rintro e w9 ⟨rfl, z9, rfl⟩
      go_wp2_with (first | (go_at_call 9; refine (HAw.out.at_ _).mono ?_; rintro e w9 ⟨rfl, z8, rfl⟩))
      go_ret
      exact ⟨rfl, HEn.out _⟩
end Go.Proofs.Ythajgoigmkkbgaa
