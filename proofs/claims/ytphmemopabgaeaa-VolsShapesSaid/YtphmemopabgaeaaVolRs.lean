/- Contracts of the document's Add, Drop and Resize. -/
import Derived.Test.YtphmemopabgaeaaVolRp
namespace Go.Proofs.Ytphmemopabgaeaa
open Go.RowKit

theorem PutEnd.vols {vs : List Vl} {w w1 w' : World} {e : Ending} (h : PutEnd vs w1 e w') (hb : Below w.heap.size w w1) : ∃ A c, e = .returned (.slice A vs.length c) ∧ VolsEnd vs 0 w (.returned (.tuple #[.slice A vs.length c, .int .i64 0])) w' := by
  obtain ⟨A, c, he, hv, hb2⟩ := h
  exact ⟨A, c, he, A, c, rfl, hv, below_next hb hb2⟩

set_option maxHeartbeats 4000000 in
set_option maxRecDepth 100000 in
theorem RefAdd_any {w : World} {A : Option Addr} {c : Nat} {vs : List Vl} (h : VolsAt w w.heap.size A vs) (hf : VolsFit vs) (id n : Int) :
    Calls Try.prog 14 #[.slice A vs.length c, .int .i64 id, .int .i64 n] w (VolsEnd (addV vs id n) (addE vs id n) w) := by
  have HV := Lib.hid h
  have HF := Lib.hid hf
  have hl := hf.1
  cases hr : rightB vs with
  | false =>
    rw [(addE_arg (fun hh => by rw [hr] at hh; exact absurd hh.1 (by simp))).1, (addE_arg (fun hh => by rw [hr] at hh; exact absurd hh.1 (by simp))).2]
    have HR := Lib.hid hr
    clear h hf hr
    go_enter Try.func14, Try.ntmps14
    go_wp2_with (go_at_call 21; refine (RefRight_any HV.out HF.out).mono ?_; rw [HR.out]; rintro e w1 ⟨rfl, hb⟩; replace hb := Lib.hid hb)
    go_ret2
    exact VolsEnd.none_ _ hb.out
  | true =>
    have HR := Lib.hid hr
    have HGd := Lib.hid (rightB_good hr)
    by_cases hs : shapeB id n = true
    · obtain ⟨s1, s2, s3, s4⟩ := (shapeB_iff id n).1 hs
      have e1 : decide (id < 1) = false := by rw [decide_eq_false_iff_not]; omega
      have e2 : decide (255 < id) = false := by rw [decide_eq_false_iff_not]; omega
      have e3 : decide (n < 1) = false := by rw [decide_eq_false_iff_not]; omega
      have e4 : decide (32 < n) = false := by rw [decide_eq_false_iff_not]; omega
      have HGet : Hid (∀ w1 c, Below w.heap.size w w1 → Calls Try.prog 23 #[.slice A vs.length c, .int .i64 id, .int .i64 0] w1 fun e w' => e = .returned (.tuple #[.string (gotS vs id 0), .int .i64 (gotE vs id 0)]) ∧ w1 = w') := Lib.hid (fun w1 c hb => RefGet_any (h.next hb) hl id 0)
      obtain ⟨S, hS⟩ : ∃ S, gotS vs id 0 = S := ⟨_, rfl⟩
      rw [hS] at HGet
      clear hS
      cases hh : hasAt vs id with
      | true =>
        rw [(addE_there ⟨hr, hs⟩ hh).1, (addE_there ⟨hr, hs⟩ hh).2]
        rw [(got_has HGd.out id).2 hh] at HGet
        clear h hf hr hs hh
        go_enter Try.func14, Try.ntmps14
        go_wp2_with (first
          | (go_at_call 21; refine (RefRight_any HV.out HF.out).mono ?_; rw [HR.out]; rintro e w1 ⟨rfl, hb⟩; replace hb := Lib.hid hb)
          | (go_at_call 23; refine (HGet.out _ _ hb.out).mono ?_; rintro e w' ⟨rfl, rfl⟩))
        go_ret2
        exact VolsEnd.none_ _ hb.out
      | false =>
        have hne : gotE vs id 0 ≠ 0 := fun e => by have := (got_has HGd.out id).1 e; rw [hh] at this; exact absurd this (by simp)
        obtain ⟨E, hE⟩ : ∃ E, gotE vs id 0 = E := ⟨_, rfl⟩
        rw [hE] at HGet hne
        have hne' : (E == 0) = false := by rw [beq_eq_false_iff_ne]; exact hne
        clear hE hne
        by_cases h4 : vs.length = 4
        · rw [(addE_full ⟨hr, hs⟩ hh h4).1, (addE_full ⟨hr, hs⟩ hh h4).2]
          have h4' : ((vs.length : Int) == 4) = true := by simp [h4]
          clear h hf hr hs hh h4
          go_enter Try.func14, Try.ntmps14
          go_wp2_with (first
            | (go_at_call 21; refine (RefRight_any HV.out HF.out).mono ?_; rw [HR.out]; rintro e w1 ⟨rfl, hb⟩; replace hb := Lib.hid hb)
            | (go_at_call 23; refine (HGet.out _ _ hb.out).mono ?_; rintro e w' ⟨rfl, rfl⟩))
          go_ret2
          exact VolsEnd.none_ _ hb.out
        · have h4' : ((vs.length : Int) == 4) = false := by rw [beq_eq_false_iff_ne]; omega
          have he := (addE_ok ⟨hr, hs⟩ hh h4).1
          have hput := put_add he
          rw [he]
          obtain ⟨m, rfl⟩ := Int.eq_ofNat_of_zero_le (show 0 ≤ n by omega)
          rw [Int.toNat_natCast] at hput
          have HPut : Hid (∀ w1 c, Below w.heap.size w w1 → Calls Try.prog 36 #[.slice A vs.length c, .int .i64 id, .int .i64 m] w1 (PutEnd (addV vs id m) w1)) := Lib.hid (fun w1 c hb => by
            rw [← hput]; exact put_any (h.next hb) hr id m (by omega))
          clear h hf hr hs hh h4 he hput
          go_enter Try.func14, Try.ntmps14
          go_wp2_with (first
            | (go_at_call 21; refine (RefRight_any HV.out HF.out).mono ?_; rw [HR.out]; rintro e w1 ⟨rfl, hb⟩; replace hb := Lib.hid hb)
            | (go_at_call 23; refine (HGet.out _ _ hb.out).mono ?_; rintro e w' ⟨rfl, rfl⟩)
            | (go_at_call 36; refine (HPut.out _ _ hb.out).mono ?_; rintro e w2 hp; obtain ⟨A2, c2, rfl, hE⟩ := hp.vols hb.out; have HE := Lib.hid hE; clear hp hE))
          go_ret2
          exact HE.out
    · rw [(addE_arg (fun hh => hs hh.2)).1, (addE_arg (fun hh => hs hh.2)).2]
      have hno : id < 1 ∨ 255 < id ∨ n < 1 ∨ 32 < n := by
        have : ¬ (1 ≤ id ∧ id ≤ 255 ∧ 1 ≤ n ∧ n ≤ 32) := fun hh => hs ((shapeB_iff id n).2 hh)
        omega
      clear h hf hr hs
      have fin : ∀ (b1 b2 b3 b4 : Bool), decide (id < 1) = b1 → decide (255 < id) = b2 → decide (n < 1) = b3 → decide (32 < n) = b4 → (b1 || b2 || b3 || b4) = true → Calls Try.prog 14 #[.slice A vs.length c, .int .i64 id, .int .i64 n] w (VolsEnd [] 1 w) := by
        intro b1 b2 b3 b4 e1 e2 e3 e4 hb
        clear hno
        cases b1 with
        | true =>
          clear e2 e3 e4 hb
          go_enter Try.func14, Try.ntmps14
          go_wp2_with (go_at_call 21; refine (RefRight_any HV.out HF.out).mono ?_; rw [HR.out]; rintro e w1 ⟨rfl, hb⟩; replace hb := Lib.hid hb)
          go_ret2
          exact VolsEnd.none_ _ hb.out
        | false =>
          cases b2 with
          | true =>
            clear e3 e4 hb
            go_enter Try.func14, Try.ntmps14
            go_wp2_with (go_at_call 21; refine (RefRight_any HV.out HF.out).mono ?_; rw [HR.out]; rintro e w1 ⟨rfl, hb⟩; replace hb := Lib.hid hb)
            go_ret2
            exact VolsEnd.none_ _ hb.out
          | false =>
            cases b3 with
            | true =>
              clear e4 hb
              go_enter Try.func14, Try.ntmps14
              go_wp2_with (go_at_call 21; refine (RefRight_any HV.out HF.out).mono ?_; rw [HR.out]; rintro e w1 ⟨rfl, hb⟩; replace hb := Lib.hid hb)
              go_ret2
              exact VolsEnd.none_ _ hb.out
            | false =>
              cases b4 with
              | true =>
                clear hb
                go_enter Try.func14, Try.ntmps14
                go_wp2_with (go_at_call 21; refine (RefRight_any HV.out HF.out).mono ?_; rw [HR.out]; rintro e w1 ⟨rfl, hb⟩; replace hb := Lib.hid hb)
                go_ret2
                exact VolsEnd.none_ _ hb.out
              | false => exact absurd hb (by simp)
      exact fin _ _ _ _ rfl rfl rfl rfl (by simp only [Bool.or_eq_true, decide_eq_true_eq]; omega)

set_option maxHeartbeats 4000000 in
set_option maxRecDepth 100000 in
theorem RefDrop_any {w : World} {A : Option Addr} {c : Nat} {vs : List Vl} (h : VolsAt w w.heap.size A vs) (hf : VolsFit vs) (id : Int) :
    Calls Try.prog 16 #[.slice A vs.length c, .int .i64 id] w (VolsEnd (dropV vs id) (dropE vs id) w) := by
  have HV := Lib.hid h
  have HF := Lib.hid hf
  have hl := hf.1
  cases hr : rightB vs with
  | false =>
    rw [(dropE_arg hr).1, (dropE_arg hr).2]
    have HR := Lib.hid hr
    clear h hf hr
    go_enter Try.func16, Try.ntmps16
    go_wp2_with (go_at_call 21; refine (RefRight_any HV.out HF.out).mono ?_; rw [HR.out]; rintro e w1 ⟨rfl, hb⟩; replace hb := Lib.hid hb)
    go_ret2
    exact VolsEnd.none_ _ hb.out
  | true =>
    have HR := Lib.hid hr
    have HGd := Lib.hid (rightB_good hr)
    have HGet : Hid (∀ w1 c, Below w.heap.size w w1 → Calls Try.prog 23 #[.slice A vs.length c, .int .i64 id, .int .i64 0] w1 fun e w' => e = .returned (.tuple #[.string (gotS vs id 0), .int .i64 (gotE vs id 0)]) ∧ w1 = w') := Lib.hid (fun w1 c hb => RefGet_any (h.next hb) hl id 0)
    obtain ⟨S, hS⟩ : ∃ S, gotS vs id 0 = S := ⟨_, rfl⟩
    rw [hS] at HGet
    clear hS
    cases hh : hasAt vs id with
    | true =>
      have he := (dropE_ok hr hh).1
      have hput := (put_drop he).2
      rw [he]
      rw [(got_has HGd.out id).2 hh] at HGet
      have HPut : Hid (∀ w1 c, Below w.heap.size w w1 → Calls Try.prog 36 #[.slice A vs.length c, .int .i64 id, .int .i64 0] w1 (PutEnd (dropV vs id) w1)) := Lib.hid (fun w1 c hb => by
        rw [← hput]; exact put_any (h.next hb) hr id 0 (by omega))
      clear h hf hr hh he hput
      go_enter Try.func16, Try.ntmps16
      go_wp2_with (first
        | (go_at_call 21; refine (RefRight_any HV.out HF.out).mono ?_; rw [HR.out]; rintro e w1 ⟨rfl, hb⟩; replace hb := Lib.hid hb)
        | (go_at_call 23; refine (HGet.out _ _ hb.out).mono ?_; rintro e w' ⟨rfl, rfl⟩)
        | (go_at_call 36; refine (HPut.out _ _ hb.out).mono ?_; rintro e w2 hp; obtain ⟨A2, c2, rfl, hE⟩ := hp.vols hb.out; have HE := Lib.hid hE; clear hp hE))
      go_ret2
      exact HE.out
    | false =>
      have hne : gotE vs id 0 ≠ 0 := fun e => by have := (got_has HGd.out id).1 e; rw [hh] at this; exact absurd this (by simp)
      obtain ⟨E, hE⟩ : ∃ E, gotE vs id 0 = E := ⟨_, rfl⟩
      rw [hE] at HGet hne
      have hne' : (E != 0) = true := by rw [bne_iff_ne]; exact hne
      rw [(dropE_none hr hh).1, (dropE_none hr hh).2]
      clear hE hne h hf hr hh
      go_enter Try.func16, Try.ntmps16
      go_wp2_with (first
        | (go_at_call 21; refine (RefRight_any HV.out HF.out).mono ?_; rw [HR.out]; rintro e w1 ⟨rfl, hb⟩; replace hb := Lib.hid hb)
        | (go_at_call 23; refine (HGet.out _ _ hb.out).mono ?_; rintro e w' ⟨rfl, rfl⟩))
      go_ret2
      exact VolsEnd.none_ _ hb.out

set_option maxHeartbeats 4000000 in
set_option maxRecDepth 100000 in
theorem RefResize_any {w : World} {A : Option Addr} {c : Nat} {vs : List Vl} (h : VolsAt w w.heap.size A vs) (hf : VolsFit vs) (id n : Int) :
    Calls Try.prog 18 #[.slice A vs.length c, .int .i64 id, .int .i64 n] w (VolsEnd (resV vs id n) (resE vs id n) w) := by
  have HV := Lib.hid h
  have HF := Lib.hid hf
  have hl := hf.1
  cases hr : rightB vs with
  | false =>
    rw [(resE_arg (fun hh => by rw [hr] at hh; exact absurd hh.1 (by simp))).1, (resE_arg (fun hh => by rw [hr] at hh; exact absurd hh.1 (by simp))).2]
    have HR := Lib.hid hr
    clear h hf hr
    go_enter Try.func18, Try.ntmps18
    go_wp2_with (go_at_call 21; refine (RefRight_any HV.out HF.out).mono ?_; rw [HR.out]; rintro e w1 ⟨rfl, hb⟩; replace hb := Lib.hid hb)
    go_ret2
    exact VolsEnd.none_ _ hb.out
  | true =>
    have HR := Lib.hid hr
    have HGd := Lib.hid (rightB_good hr)
    by_cases hs : sizeB n = true
    · have hn : 1 ≤ n ∧ n ≤ 32 := by simpa [sizeB] using hs
      have e3 : decide (n < 1) = false := by rw [decide_eq_false_iff_not]; omega
      have e4 : decide (32 < n) = false := by rw [decide_eq_false_iff_not]; omega
      have HGet : Hid (∀ w1 c, Below w.heap.size w w1 → Calls Try.prog 23 #[.slice A vs.length c, .int .i64 id, .int .i64 0] w1 fun e w' => e = .returned (.tuple #[.string (gotS vs id 0), .int .i64 (gotE vs id 0)]) ∧ w1 = w') := Lib.hid (fun w1 c hb => RefGet_any (h.next hb) hl id 0)
      obtain ⟨S, hS⟩ : ∃ S, gotS vs id 0 = S := ⟨_, rfl⟩
      rw [hS] at HGet
      clear hS
      cases hh : hasAt vs id with
      | true =>
        have he := (resE_ok ⟨hr, hs⟩ hh).1
        have hput := put_res he
        rw [he]
        rw [(got_has HGd.out id).2 hh] at HGet
        obtain ⟨m, rfl⟩ := Int.eq_ofNat_of_zero_le (show 0 ≤ n by omega)
        rw [Int.toNat_natCast] at hput
        have HPut : Hid (∀ w1 c, Below w.heap.size w w1 → Calls Try.prog 36 #[.slice A vs.length c, .int .i64 id, .int .i64 m] w1 (PutEnd (resV vs id m) w1)) := Lib.hid (fun w1 c hb => by
          rw [← hput]; exact put_any (h.next hb) hr id m (by omega))
        clear h hf hr hh he hput hs
        go_enter Try.func18, Try.ntmps18
        go_wp2_with (first
          | (go_at_call 21; refine (RefRight_any HV.out HF.out).mono ?_; rw [HR.out]; rintro e w1 ⟨rfl, hb⟩; replace hb := Lib.hid hb)
          | (go_at_call 23; refine (HGet.out _ _ hb.out).mono ?_; rintro e w' ⟨rfl, rfl⟩)
          | (go_at_call 36; refine (HPut.out _ _ hb.out).mono ?_; rintro e w2 hp; obtain ⟨A2, c2, rfl, hE⟩ := hp.vols hb.out; have HE := Lib.hid hE; clear hp hE))
        go_ret2
        exact HE.out
      | false =>
        have hne : gotE vs id 0 ≠ 0 := fun e => by have := (got_has HGd.out id).1 e; rw [hh] at this; exact absurd this (by simp)
        obtain ⟨E, hE⟩ : ∃ E, gotE vs id 0 = E := ⟨_, rfl⟩
        rw [hE] at HGet hne
        have hne' : (E != 0) = true := by rw [bne_iff_ne]; exact hne
        rw [(resE_none ⟨hr, hs⟩ hh).1, (resE_none ⟨hr, hs⟩ hh).2]
        clear hE hne h hf hr hh hs
        go_enter Try.func18, Try.ntmps18
        go_wp2_with (first
          | (go_at_call 21; refine (RefRight_any HV.out HF.out).mono ?_; rw [HR.out]; rintro e w1 ⟨rfl, hb⟩; replace hb := Lib.hid hb)
          | (go_at_call 23; refine (HGet.out _ _ hb.out).mono ?_; rintro e w' ⟨rfl, rfl⟩))
        go_ret2
        exact VolsEnd.none_ _ hb.out
    · rw [(resE_arg (fun hh => hs hh.2)).1, (resE_arg (fun hh => hs hh.2)).2]
      have hno : n < 1 ∨ 32 < n := by
        have : ¬ (1 ≤ n ∧ n ≤ 32) := fun hh => hs (by simp [sizeB, hh])
        omega
      clear h hf hr hs
      by_cases hn : n < 1
      · clear hno
        go_enter Try.func18, Try.ntmps18
        go_wp2_with (go_at_call 21; refine (RefRight_any HV.out HF.out).mono ?_; rw [HR.out]; rintro e w1 ⟨rfl, hb⟩; replace hb := Lib.hid hb)
        go_ret2
        exact VolsEnd.none_ _ hb.out
      · have e3 : decide (n < 1) = false := by rw [decide_eq_false_iff_not]; omega
        have e4 : decide (32 < n) = true := by rw [decide_eq_true_iff]; omega
        clear hno
        go_enter Try.func18, Try.ntmps18
        go_wp2_with (go_at_call 21; refine (RefRight_any HV.out HF.out).mono ?_; rw [HR.out]; rintro e w1 ⟨rfl, hb⟩; replace hb := Lib.hid hb)
        go_ret2
        exact VolsEnd.none_ _ hb.out
end Go.Proofs.Ytphmemopabgaeaa
