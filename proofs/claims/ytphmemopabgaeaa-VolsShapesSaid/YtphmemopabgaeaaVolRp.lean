/- Contract of the document's put. -/
import Derived.Test.YtphmemopabgaeaaVolBd
import Derived.Test.YtphmemopabgaeaaVolXp
namespace Go.Proofs.Ytphmemopabgaeaa
open Go.RowKit

/-- Volumes come back. -/
def PutEnd (vs : List Vl) (w : World) (e : Ending) (w' : World) : Prop :=
  ∃ A c, e = .returned (.slice A vs.length c) ∧ VolsAt w' w'.heap.size A vs ∧ Below w.heap.size w w'

theorem szF_le {vs : List Vl} (h : rightB vs = true) (k : Int) : szF vs k ≤ 32 := by
  rcases look_cases (rightB_good h) k with ⟨_, _, g3, _⟩ | ⟨bs, _, _, g3, _, _, g6, g7⟩
  · omega
  · have := (right_small h).2 _ (List.getElem_mem g6)
    rw [g7] at this
    rw [g3]
    exact this
theorem oneV_some (k : Nat) (bs : List ByteArray) : oneV k (some bs) = [((k : Int), bs)] := rfl
theorem bldS_len (f : Nat → Option (List ByteArray)) (c : Nat) : (bldS f c).length ≤ c := by
  induction c with
  | zero => simp [bldS]
  | succ c ih =>
    rw [bldS, List.length_append]
    have : (oneV (c + 1) (f (c + 1))).length ≤ 1 := by unfold oneV; split <;> simp
    omega
def gotN_ (vs : List Vl) (k t : Nat) : List ByteArray := (List.range t).map (fun (b : Nat) => gotS vs k b)
theorem gotN_snoc (vs : List Vl) (k t : Nat) : gotN_ vs k (t + 1) = gotN_ vs k t ++ [gotS vs k t] := by unfold gotN_; rw [List.range_succ, List.map_append]; rfl
theorem gotN_len (vs : List Vl) (k t : Nat) : (gotN_ vs k t).length = t := by simp [gotN_]
theorem bldS_step {vs : List Vl} {id : Int} {m k : Nat} (hk : 1 ≤ k) : bldS (putF vs id m) k = bldS (putF vs id m) (k - 1) ++ oneV k (putF vs id m k) := by
  obtain ⟨c, rfl⟩ : ∃ c, k = c + 1 := ⟨k - 1, by omega⟩
  rw [Nat.add_sub_cancel]; rfl
theorem bldS_skip {vs : List Vl} {id : Int} {m k : Nat} (hk : 1 ≤ k) (h : sizeAt vs id m k = 0) : bldS (putF vs id m) k = bldS (putF vs id m) (k - 1) := by
  rw [bldS_step hk]; unfold putF; rw [if_pos h]; simp [oneV]
theorem bldS_take {vs : List Vl} {id : Int} {m k : Nat} (hk : 1 ≤ k) (h : sizeAt vs id m k ≠ 0) : bldS (putF vs id m) k = bldS (putF vs id m) (k - 1) ++ [((k : Int), gotN_ vs k (sizeAt vs id m k))] := by
  rw [bldS_step hk]
  have : putF vs id m k = some (gotN_ vs k (sizeAt vs id m k)) := by unfold putF; rw [if_neg h]; rfl
  rw [this]; rfl

set_option maxHeartbeats 8000000 in
set_option maxRecDepth 100000 in
theorem put_any {w : World} {A : Option Addr} {c : Nat} {vs : List Vl} (h : VolsAt w w.heap.size A vs) (hr : rightB vs = true) (id : Int) (m : Nat) (hm : m ≤ 32) :
    Calls Try.prog 36 #[.slice A vs.length c, .int .i64 id, .int .i64 m] w (PutEnd (putV vs id m) w) := by
  have HV := Lib.hid h
  have HR := Lib.hid hr
  have hs4 := (right_small hr).1
  obtain ⟨n, hn⟩ : ∃ n, vs.length = n := ⟨_, rfl⟩
  have HN := Lib.hid hn
  have HGet : Hid (∀ w1 c k b, Below w.heap.size w w1 → Calls Try.prog 23 #[.slice A n c, .int .i64 k, .int .i64 b] w1 fun e w' => e = .returned (.tuple #[.string (gotS vs k b), .int .i64 (gotE vs k b)]) ∧ w1 = w') := Lib.hid (fun w1 c k b hb => by
    have := RefGet_any (c := c) (HV.out.next hb) (by rw [HN.out]; omega) k b
    rw [HN.out] at this
    exact this)
  rw [hn] at hs4 ⊢
  obtain ⟨iv, hiv, hv0, hv1, hv2⟩ := info_parts Try.infoVol
  obtain ⟨is, his, hs0, hs1, hs2⟩ := info_parts Try.infoStrV
  clear h hr hn
  go_enter Try.func36, Try.ntmps36
  go_wp2_with fail
  go_loopw [7, 8] (fun o i wr => ∃ k : Nat, 1 ≤ k ∧ k ≤ 256 ∧ i = .int .i64 k ∧ (∃ us, Hid (OwnO wr w.heap.size o (bldS (putF vs id m) (k - 1)) us)) ∧ Hid (Below w.heap.size w wr)) (fun _ i _ => 256 - (intOf i).toNat)
  case atStart => exact ⟨1, by omega, by omega, rfl, ⟨[], Lib.hid (OwnO.none_ _ _)⟩, Lib.hid (Below.refl _ _)⟩
  case round =>
    obtain ⟨k, hk1, hk2, rfl, ⟨us, HO⟩, HB⟩ := hrel
    obtain ⟨w0, hw0⟩ : ∃ w0, w0 = wr := ⟨_, rfl⟩
    subst hw0
    obtain ⟨Ao, co, ho, hxx⟩ := own_lies HO.out.row
    clear hxx
    subst ho
    have hlL := bldS_len (putF vs id m) (k - 1)
    have HSkip : Hid (sizeAt vs id m k = 0 → bldS (putF vs id m) k = bldS (putF vs id m) (k - 1)) := Lib.hid (bldS_skip hk1)
    have HTake : Hid (sizeAt vs id m k ≠ 0 → bldS (putF vs id m) k = bldS (putF vs id m) (k - 1) ++ [((k : Int), gotN_ vs k (sizeAt vs id m k))]) := Lib.hid (bldS_take hk1)
    have HPut : Hid (k = 256 → putV vs id m = bldS (putF vs id m) (k - 1)) := Lib.hid (fun e => by rw [e]; rfl)
    obtain ⟨L, hL⟩ : ∃ L, bldS (putF vs id m) (k - 1) = L := ⟨_, rfl⟩
    rw [hL] at HO hlL HSkip HTake HPut ⊢
    clear hL
    obtain ⟨l, hl⟩ : ∃ l, L.length = l := ⟨_, rfl⟩
    have HLl := Lib.hid hl
    rw [hl] at HO hlL ⊢
    clear hl
    by_cases hlt : k < 256
    · have hwz : w.heap.size ≤ w0.heap.size := HB.out.size
      have HSz : Hid (sizeAt vs id m k = if (k : Int) = id then m else szF vs k) := Lib.hid rfl
      have hsz32 := szF_le HR.out (k : Int)
      go_wp2_with fail
      go_loop [9, 10] (fun z i => ∃ t : Nat, t ≤ n ∧ i = .int .i64 t ∧ z = .int .i64 (szF (vs.take t) k)) (fun _ i => n - (intOf i).toNat)
      case atStart => exact ⟨0, Nat.zero_le _, rfl, rfl⟩
      case round =>
        obtain ⟨t, ht, rfl, rfl⟩ := hrel
        by_cases htn : t < n
        · have htl : t < vs.length := by rw [HN.out]; exact htn
          obtain ⟨b, off, a, c', hA, hbl, x1, x2, hly⟩ := HV.out.at_ HB.out htl
          have hbw : b < w0.heap.size := by omega
          subst hA
          have HT : Hid (szF (vs.take (t + 1)) k = if vs[t].1 = k then vs[t].2.length else szF (vs.take t) k) := Lib.hid (by rw [List.take_succ_eq_append_getElem htl, szF_snoc])
          obtain ⟨v, hv⟩ : ∃ v, vs[t] = v := ⟨_, rfl⟩
          rw [hv] at x1 x2 HT
          clear hv hly htl
          obtain ⟨i1, bs⟩ := v
          simp only at x1 x2 HT
          obtain ⟨q, hq⟩ : ∃ q, bs.length = q := ⟨_, rfl⟩
          rw [hq] at x2 HT
          clear hq
          obtain ⟨z, hz⟩ : ∃ z, szF (vs.take t) k = z := ⟨_, rfl⟩
          rw [hz] at HT ⊢
          clear hz
          by_cases hi : i1 = (k : Int)
          · have hi' : (i1 == (k : Int)) = true := by simp [hi]
            have HT2 : Hid (szF (vs.take (t + 1)) k = q) := Lib.hid (by rw [HT.out, if_pos hi])
            clear hi HT
            go_wp2_with fail
            go_round
            case rel => exact ⟨t + 1, by omega, by go_num, by rw [HT2.out]⟩
            case measure => simp [intOf]; omega
          · have hi' : (i1 == (k : Int)) = false := by simp [hi]
            have HT2 : Hid (szF (vs.take (t + 1)) k = z) := Lib.hid (by rw [HT.out, if_neg hi])
            clear hi HT
            go_wp2_with fail
            go_round
            case rel => exact ⟨t + 1, by omega, by go_num, by rw [HT2.out]⟩
            case measure => simp [intOf]; omega
        · have HTk : Hid (vs.take t = vs) := Lib.hid (List.take_of_length_le (by rw [HN.out]; omega))
          rw [HTk.out]
          obtain ⟨z, hz⟩ : ∃ z, szF vs k = z := ⟨_, rfl⟩
          rw [hz] at HSz hsz32 ⊢
          clear hz HTk
          by_cases hid : (k : Int) = id
          · have hid' : ((k : Int) == id) = true := by simp [hid]
            have HSz2 : Hid (sizeAt vs id m k = m) := Lib.hid (by rw [HSz.out, if_pos hid])
            clear hid HSz hsz32
            by_cases hz0 : m = 0
            · have hz0' : ((m : Int) == 0) = true := by simp [hz0]
              have HE : Hid (OwnO w0 w.heap.size (.slice Ao l co) (bldS (putF vs id m) (k + 1 - 1)) us) := Lib.hid (by
                rw [Nat.add_sub_cancel, HSkip.out (by rw [HSz2.out, hz0])]
                have := HO.out
                exact this)
              clear hz0 HSkip HTake HPut
              go_wp2_with fail
              go_roundw
              case rel => exact ⟨k + 1, by omega, by omega, by go_num, ⟨us, HE⟩, HB⟩
              case measure => simp [intOf]; omega
            · have hz0' : ((m : Int) == 0) = false := by rw [beq_eq_false_iff_ne]; omega
              have HTk2 := Lib.hid (HTake.out (by rw [HSz2.out]; exact hz0))
              rw [HSz2.out] at HTk2
              clear HSkip HTake HPut
              have HI0 := Lib.hid (Inner.first w0 (k : Int))
              go_wp2_with fail
              go_loopw [12] (fun j wr => ∃ t : Nat, t ≤ m ∧ j = .int .i64 t ∧ ∃ u, Hid (Inner w0 wr (k : Int) (gotN_ vs k t) u)) (fun j _ => m - (intOf j).toNat)
              case atStart => exact ⟨0, Nat.zero_le _, rfl, _, HI0⟩
              case round =>
                clear HI0
                obtain ⟨t, ht, rfl, u, HI⟩ := hrel
                have HBi : Hid (Below w.heap.size w wr) := Lib.hid (HB.out.trans (HI.out.bel.mono hwz))
                obtain ⟨z0, z1, z2⟩ := HI.out.cells
                obtain ⟨Au, cu, hu, hxx⟩ := own_lies HI.out.own
                clear hxx
                have HLt : Hid ((gotN_ vs k t).length = t) := Lib.hid (gotN_len _ _ _)
                rw [HLt.out] at hu
                subst hu
                have hwi : w0.heap.size < wr.heap.size := HI.out.lt
                by_cases htq : t < m
                · have HOwnI : Hid (wr.ownsRow (w0.heap.size + 1) 9 1 (.slice Au t cu) t ((gotN_ vs k t).map Value.string)) := Lib.hid (by have := HI.out.own; rw [HLt.out] at this; exact this)
                  have HG : Hid (∀ c, Calls Try.prog 23 #[.slice A n c, .int .i64 k, .int .i64 t] wr fun e w' => e = .returned (.tuple #[.string (gotS vs k t), .int .i64 (gotE vs k t)]) ∧ wr = w') := Lib.hid (fun c => HGet.out wr c k t HBi.out)
                  have HT2 := Lib.hid (gotN_snoc vs k t)
                  obtain ⟨s, hs⟩ : ∃ s, gotS vs k t = s := ⟨_, rfl⟩
                  obtain ⟨E, hE⟩ : ∃ E, gotE vs k t = E := ⟨_, rfl⟩
                  rw [hs, hE] at HG
                  rw [hs] at HT2
                  clear hs hE
                  have HStep : Hid (∀ u' w3, w3.ownsRow (w0.heap.size + 1) 9 1 u' (t + 1) ((gotN_ vs k t).map Value.string ++ [.string s]) → (wr.alloc (.cells #[.string s] 9)).grownBy w3 (Value.slice Au t cu).ownBlock → Inner w0 (w3.setCell ⟨w0.heap.size, 1, none⟩ u') (k : Int) (gotN_ vs k (t + 1)) u' ∧ w3.cell? ⟨w0.heap.size, 1, none⟩ = some (.slice Au t cu) ∧ w3.frozen? ⟨w0.heap.size, 1, none⟩ = false) := Lib.hid (fun u' w3 ho hg => by
                    rw [HT2.out]
                    exact HI.out.step (by rw [HLt.out]; exact ho) hg)
                  go_wp2_with (first
                    | (go_at_call 23; refine (HG.out _).mono ?_; rintro e w' ⟨rfl, rfl⟩)
                    | (at_builtin; refine wpList_append_own _ rfl (.tmp 59) (.tmp 61) 45 rfl (w0.heap.size + 1) 9 is (.string ByteArray.empty) 1 16 Try.underlying45 his hs0 hs1 hs2 rfl (by decide) (.slice Au t cu) t _ rfl (HOwnI.out.alloc _) ⟨wr.heap.size, 0, none⟩ 1 1 [.string s] rfl rfl (cell_one_new _ _ _) ?c2 ?c3 ?c4 ?c5 ?_))
                  case c2 => intro u hu; simp only [List.mem_singleton] at hu; subst hu; rfl
                  case c3 => unfold maxLen; omega
                  case c4 => omega
                  case c5 => simp; omega
                  intro u' w3 ho3 hg3 _
                  obtain ⟨hI3, m1, m2⟩ := HStep.out u' w3 ho3 hg3
                  obtain ⟨Au3, cu3, hu3, hxx⟩ := own_lies ho3
                  have HI3 := Lib.hid hI3
                  clear ho3 hg3 hI3 hxx
                  subst hu3
                  go_wp2_with fail
                  go_roundw
                  case rel => exact ⟨t + 1, by omega, by go_num, _, HI3⟩
                  case measure => simp [intOf]; omega
                · have HIx : Hid (Inner w0 wr (k : Int) (gotN_ vs k m) (.slice Au t cu)) := Lib.hid (by have := HI.out; rwa [show t = m from by omega] at this ⊢)
                  have HOwnV : Hid (wr.ownsRow w.heap.size 47 2 (.slice Ao l co) l (volCells L us)) := Lib.hid (by have := (HO.out.kept HI.out.bel).row; rw [HLl.out] at this; exact this)
                  have HEnd : Hid (∀ g cap w3, w3.ownsRow w.heap.size 47 2 (.slice (some ⟨g, 0, none⟩) (l + 1) cap) (l + 1) (volCells L us ++ [.int .i64 k, .slice Au t cu]) → (wr.alloc (.cells #[.int .i64 k, .slice Au t cu] 47)).grownBy w3 (Value.slice Ao l co).ownBlock → ((Value.slice Ao l co).ownBlock = some g ∨ g = wr.heap.size + 1) → OwnO w3 w.heap.size (.slice (some ⟨g, 0, none⟩) (l + 1) cap) (bldS (putF vs id m) (k + 1 - 1)) (us ++ [.slice Au t cu]) ∧ Below w.heap.size w w3) := Lib.hid (fun g cap w3 ho hg hat => by
                    have := built (w := w) HO.out HIx.out HB.out hwz (by rw [HLl.out]; exact ho) hg hat (Nat.le_refl _)
                    rw [HLl.out] at this
                    rw [Nat.add_sub_cancel, HTk2.out]
                    exact this)
                  go_wp2_with (at_builtin; refine wpList_append_lies _ rfl (.tmp 64) (.tmp 66) 22 rfl w.heap.size 47 iv (.agg #[.int .i64 0, .slice none 0 0]) 2 32 Try.underlying22 hiv hv0 hv1 hv2 rfl (by decide) (.slice Ao l co) l _ rfl (HOwnV.out.alloc _) ⟨wr.heap.size, 0, none⟩ 1 1 [.int .i64 k, .slice Au t cu] rfl rfl ?d1 ?d2 (by omega) ?d3 ?d4 ?d5 (wr.heap.size + 1) ?d6 ?_)
                  case d1 =>
                    intro j x hx
                    rw [WideShapes.add_plain, Nat.zero_add, Lib.cell_of_heap (heap_alloc_new _ _)]
                    simpa using hx
                  case d2 => intro x hx; simp only [List.mem_cons, List.not_mem_nil, or_false] at hx; rcases hx with rfl | rfl <;> rfl
                  case d3 => unfold maxLen; omega
                  case d4 => omega
                  case d5 => simp; omega
                  case d6 => simp
                  intro g cap w3 ho3 hg3 hat3 _
                  obtain ⟨hE1, hE2⟩ := HEnd.out g cap w3 ho3 hg3 hat3
                  have HE1 := Lib.hid hE1
                  have HE2 := Lib.hid hE2
                  clear ho3 hg3 hat3 hE1 hE2
                  go_wp2_with fail
                  go_roundw
                  case rel => exact ⟨k + 1, by omega, by omega, by go_num, ⟨_, HE1⟩, HE2⟩
                  case measure => simp [intOf]; omega
          · have hid' : ((k : Int) == id) = false := by simp [hid]
            have HSz2 : Hid (sizeAt vs id m k = z) := Lib.hid (by rw [HSz.out, if_neg hid])
            clear hid HSz
            by_cases hz0 : z = 0
            · have hz0' : ((z : Int) == 0) = true := by simp [hz0]
              have HE : Hid (OwnO w0 w.heap.size (.slice Ao l co) (bldS (putF vs id m) (k + 1 - 1)) us) := Lib.hid (by
                rw [Nat.add_sub_cancel, HSkip.out (by rw [HSz2.out, hz0])]
                have := HO.out
                exact this)
              clear hz0 HSkip HTake HPut
              go_wp2_with fail
              go_roundw
              case rel => exact ⟨k + 1, by omega, by omega, by go_num, ⟨us, HE⟩, HB⟩
              case measure => simp [intOf]; omega
            · have hz0' : ((z : Int) == 0) = false := by rw [beq_eq_false_iff_ne]; omega
              have HTk2 := Lib.hid (HTake.out (by rw [HSz2.out]; exact hz0))
              rw [HSz2.out] at HTk2
              clear HSkip HTake HPut
              have HI0 := Lib.hid (Inner.first w0 (k : Int))
              go_wp2_with fail
              go_loopw [12] (fun j wr => ∃ t : Nat, t ≤ z ∧ j = .int .i64 t ∧ ∃ u, Hid (Inner w0 wr (k : Int) (gotN_ vs k t) u)) (fun j _ => z - (intOf j).toNat)
              case atStart => exact ⟨0, Nat.zero_le _, rfl, _, HI0⟩
              case round =>
                clear HI0
                obtain ⟨t, ht, rfl, u, HI⟩ := hrel
                have HBi : Hid (Below w.heap.size w wr) := Lib.hid (HB.out.trans (HI.out.bel.mono hwz))
                obtain ⟨z0, z1, z2⟩ := HI.out.cells
                obtain ⟨Au, cu, hu, hxx⟩ := own_lies HI.out.own
                clear hxx
                have HLt : Hid ((gotN_ vs k t).length = t) := Lib.hid (gotN_len _ _ _)
                rw [HLt.out] at hu
                subst hu
                have hwi : w0.heap.size < wr.heap.size := HI.out.lt
                by_cases htq : t < z
                · have HOwnI : Hid (wr.ownsRow (w0.heap.size + 1) 9 1 (.slice Au t cu) t ((gotN_ vs k t).map Value.string)) := Lib.hid (by have := HI.out.own; rw [HLt.out] at this; exact this)
                  have HG : Hid (∀ c, Calls Try.prog 23 #[.slice A n c, .int .i64 k, .int .i64 t] wr fun e w' => e = .returned (.tuple #[.string (gotS vs k t), .int .i64 (gotE vs k t)]) ∧ wr = w') := Lib.hid (fun c => HGet.out wr c k t HBi.out)
                  have HT2 := Lib.hid (gotN_snoc vs k t)
                  obtain ⟨s, hs⟩ : ∃ s, gotS vs k t = s := ⟨_, rfl⟩
                  obtain ⟨E, hE⟩ : ∃ E, gotE vs k t = E := ⟨_, rfl⟩
                  rw [hs, hE] at HG
                  rw [hs] at HT2
                  clear hs hE
                  have HStep : Hid (∀ u' w3, w3.ownsRow (w0.heap.size + 1) 9 1 u' (t + 1) ((gotN_ vs k t).map Value.string ++ [.string s]) → (wr.alloc (.cells #[.string s] 9)).grownBy w3 (Value.slice Au t cu).ownBlock → Inner w0 (w3.setCell ⟨w0.heap.size, 1, none⟩ u') (k : Int) (gotN_ vs k (t + 1)) u' ∧ w3.cell? ⟨w0.heap.size, 1, none⟩ = some (.slice Au t cu) ∧ w3.frozen? ⟨w0.heap.size, 1, none⟩ = false) := Lib.hid (fun u' w3 ho hg => by
                    rw [HT2.out]
                    exact HI.out.step (by rw [HLt.out]; exact ho) hg)
                  go_wp2_with (first
                    | (go_at_call 23; refine (HG.out _).mono ?_; rintro e w' ⟨rfl, rfl⟩)
                    | (at_builtin; refine wpList_append_own _ rfl (.tmp 59) (.tmp 61) 45 rfl (w0.heap.size + 1) 9 is (.string ByteArray.empty) 1 16 Try.underlying45 his hs0 hs1 hs2 rfl (by decide) (.slice Au t cu) t _ rfl (HOwnI.out.alloc _) ⟨wr.heap.size, 0, none⟩ 1 1 [.string s] rfl rfl (cell_one_new _ _ _) ?c2 ?c3 ?c4 ?c5 ?_))
                  case c2 => intro u hu; simp only [List.mem_singleton] at hu; subst hu; rfl
                  case c3 => unfold maxLen; omega
                  case c4 => omega
                  case c5 => simp; omega
                  intro u' w3 ho3 hg3 _
                  obtain ⟨hI3, m1, m2⟩ := HStep.out u' w3 ho3 hg3
                  obtain ⟨Au3, cu3, hu3, hxx⟩ := own_lies ho3
                  have HI3 := Lib.hid hI3
                  clear ho3 hg3 hI3 hxx
                  subst hu3
                  go_wp2_with fail
                  go_roundw
                  case rel => exact ⟨t + 1, by omega, by go_num, _, HI3⟩
                  case measure => simp [intOf]; omega
                · have HIx : Hid (Inner w0 wr (k : Int) (gotN_ vs k z) (.slice Au t cu)) := Lib.hid (by have := HI.out; rwa [show t = z from by omega] at this ⊢)
                  have HOwnV : Hid (wr.ownsRow w.heap.size 47 2 (.slice Ao l co) l (volCells L us)) := Lib.hid (by have := (HO.out.kept HI.out.bel).row; rw [HLl.out] at this; exact this)
                  have HEnd : Hid (∀ g cap w3, w3.ownsRow w.heap.size 47 2 (.slice (some ⟨g, 0, none⟩) (l + 1) cap) (l + 1) (volCells L us ++ [.int .i64 k, .slice Au t cu]) → (wr.alloc (.cells #[.int .i64 k, .slice Au t cu] 47)).grownBy w3 (Value.slice Ao l co).ownBlock → ((Value.slice Ao l co).ownBlock = some g ∨ g = wr.heap.size + 1) → OwnO w3 w.heap.size (.slice (some ⟨g, 0, none⟩) (l + 1) cap) (bldS (putF vs id m) (k + 1 - 1)) (us ++ [.slice Au t cu]) ∧ Below w.heap.size w w3) := Lib.hid (fun g cap w3 ho hg hat => by
                    have := built (w := w) HO.out HIx.out HB.out hwz (by rw [HLl.out]; exact ho) hg hat (Nat.le_refl _)
                    rw [HLl.out] at this
                    rw [Nat.add_sub_cancel, HTk2.out]
                    exact this)
                  go_wp2_with (at_builtin; refine wpList_append_lies _ rfl (.tmp 64) (.tmp 66) 22 rfl w.heap.size 47 iv (.agg #[.int .i64 0, .slice none 0 0]) 2 32 Try.underlying22 hiv hv0 hv1 hv2 rfl (by decide) (.slice Ao l co) l _ rfl (HOwnV.out.alloc _) ⟨wr.heap.size, 0, none⟩ 1 1 [.int .i64 k, .slice Au t cu] rfl rfl ?d1 ?d2 (by omega) ?d3 ?d4 ?d5 (wr.heap.size + 1) ?d6 ?_)
                  case d1 =>
                    intro j x hx
                    rw [WideShapes.add_plain, Nat.zero_add, Lib.cell_of_heap (heap_alloc_new _ _)]
                    simpa using hx
                  case d2 => intro x hx; simp only [List.mem_cons, List.not_mem_nil, or_false] at hx; rcases hx with rfl | rfl <;> rfl
                  case d3 => unfold maxLen; omega
                  case d4 => omega
                  case d5 => simp; omega
                  case d6 => simp
                  intro g cap w3 ho3 hg3 hat3 _
                  obtain ⟨hE1, hE2⟩ := HEnd.out g cap w3 ho3 hg3 hat3
                  have HE1 := Lib.hid hE1
                  have HE2 := Lib.hid hE2
                  clear ho3 hg3 hat3 hE1 hE2
                  go_wp2_with fail
                  go_roundw
                  case rel => exact ⟨k + 1, by omega, by omega, by go_num, ⟨_, HE1⟩, HE2⟩
                  case measure => simp [intOf]; omega
    · have HE : Hid (PutEnd (putV vs id m) w (.returned (.slice Ao l co)) w0) := Lib.hid (by
        rw [HPut.out (by omega)]
        obtain ⟨A9, c9, hv9, hvol9⟩ := HO.out.vols
        rw [HLl.out] at hv9
        simp only [Value.slice.injEq] at hv9
        obtain ⟨rfl, _, rfl⟩ := hv9
        exact ⟨_, _, by rw [HLl.out], hvol9, HB.out⟩)
      go_wp2_with fail
      go_ret
      exact HE.out
end Go.Proofs.Ytphmemopabgaeaa
