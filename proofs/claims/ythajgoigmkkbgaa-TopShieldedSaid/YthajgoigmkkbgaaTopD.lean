/- The laws through the layers: contract of Pick that tells the room of its answer. -/
import Derived.Test.YthajgoigmkkbgaaTopC
import Derived.Test.YthajgoigmkkbgaaTopB
import Derived.Test.YthajgoigmkkbgaaShieldP
namespace Go.Proofs.Ythajgoigmkkbgaa
open Go.Shelf Go.RowKit Go.Lib Go.Sort

def WrsRoom (us : List Wr) (n : Int) (w : World) (e : Ending) (w' : World) : Prop :=
  ∃ A c, e = .returned (.tuple #[.slice A us.length c, .int .i64 n]) ∧ WrsAt w' w'.heap.size A us ∧ (A = none → c = 0) ∧ us.length ≤ c ∧ Below w.heap.size w w'
theorem WrsRoom.none_ (n : Int) {w w' : World} (hb : Below w.heap.size w w') : WrsRoom [] n w (.returned (.tuple #[.slice none 0 0, .int .i64 n])) w' := ⟨none, 0, rfl, .inl rfl, fun _ => rfl, Nat.le_refl _, hb⟩
theorem own_roomW {w0 w : World} {base : Nat} {v : Value} {us : List Wr} {t : TypeId} (h : w.ownsRow base t 3 v us.length (wrCells us)) (hb : Below w0.heap.size w0 w) : WrsRoom us 0 w0 (.returned (.tuple #[v, .int .i64 0])) w := by
  obtain ⟨A, c, e, h1, h2, h3⟩ := own_end h hb
  cases e
  refine ⟨A, c, rfl, h1, h2, ?_, h3⟩
  rcases h.2 with ⟨h4, h5⟩ | ⟨g, cap, cur, h4, _, _, h5, _⟩
  · omega
  · cases h4; exact h5

set_option maxHeartbeats 8000000 in
set_option maxRecDepth 100000 in
theorem Pick_room {w : World} {A A2 : Option Addr} {c c2 : Nat} {vs : List Vl} {ms : List Mk} (h : VolsAt w w.heap.size A vs) (hf : VolsFit vs) (h2 : MksAt w w.heap.size A2 ms) (hl2 : ms.length ≤ 4000) :
    Calls Try.prog 25 #[.slice A vs.length c, .slice A2 ms.length c2] w (WrsRoom (pickV vs ms) (pickEr vs ms) w) := by
  have HV := Lib.hid h
  have HF := Lib.hid hf
  have HW := Lib.hid h2
  have hl := hf.1
  have HRt : Hid (∀ c, Calls Try.prog 44 #[.slice A vs.length c] w fun e w' => e = .returned (.bool (rightB vs)) ∧ Below w.heap.size w w') := Lib.hid (fun c => Right_any h hf)
  cases hr : rightB vs with
  | false =>
    rw [(pick_bad ms hr).1, (pick_bad ms hr).2]
    rw [hr] at HRt
    clear h hf hr h2
    go_enter Try.func25, Try.ntmps25
    go_wp2_with (go_at_call 44; refine (HRt.out _).mono ?_; rintro e w1 ⟨rfl, hb⟩; replace hb := Lib.hid hb)
    go_ret2
    exact WrsRoom.none_ _ hb.out
  | true =>
    rw [hr] at HRt
    have HR := Lib.hid hr
    have HG : Hid (∀ w1 c vol block, Below w.heap.size w w1 → Calls Try.prog 46 #[.slice A vs.length c, .int .i64 vol, .int .i64 block] w1 fun e w' => e = .returned (.tuple #[.string (gotS vs vol block), .int .i64 (gotE vs vol block)]) ∧ Below w1.heap.size w1 w') := Lib.hid (fun w1 c vol block hb => by
      have := Get_any (c := c) (HV.out.next hb) HF.out vol block
      rw [show gtS vs vol block = gotS vs vol block from by unfold gtS; rw [if_pos HR.out], show gtE vs vol block = gotE vs vol block from by unfold gtE; rw [if_pos HR.out]] at this
      exact this)
    obtain ⟨i0, hi0, hz0, hz1, hz2⟩ := info_parts Try.infoWr
    obtain ⟨n, hnn⟩ : ∃ n, ms.length = n := ⟨_, rfl⟩
    have HN := Lib.hid hnn
    rw [hnn] at hl2 ⊢
    clear h hf hr h2 hnn
    go_enter Try.func25, Try.ntmps25
    go_wp2_with (go_at_call 44; refine (HRt.out _).mono ?_; rintro e w1 ⟨rfl, hb⟩; have HB1 := Lib.hid hb; clear hb)
    go_loopg [6, 16] n (fun kx s6 s16 wr => ∃ k : Nat, s16 = .int .i64 k ∧ k ≤ n ∧ n - k ≤ kx ∧ Hid (pickE vs ms = pickE vs (ms.drop k)) ∧ Hid (wr.ownsRow w1.heap.size 74 3 s6 k (wrCells (pickL vs (ms.take k)))) ∧ Hid (Below w1.heap.size w1 wr))
    case atStart => exact ⟨0, rfl, Nat.zero_le _, by omega, Lib.hid rfl, Lib.hid (World.ownsRow_nil _ _ _ _), Lib.hid (Below.refl _ _)⟩
    case round =>
      obtain ⟨k, rfl, hk, hkx, HK, HO, HB⟩ := hrel
      obtain ⟨A4, c4, h4, hxx⟩ := own_lies HO.out
      clear hxx
      subst h4
      have hw1 : w.heap.size ≤ w1.heap.size := HB1.out.size
      have hwz : w1.heap.size ≤ wr.heap.size := HB.out.size
      by_cases hlt : k < n
      · have hltz : (k : Int) < (n : Int) := by omega
        have hkl : k < ms.length := by rw [HN.out]; exact hlt
        have hBw : Below w.heap.size w wr := HB1.out.trans (HB.out.mono hw1)
        obtain ⟨b, off, hA, hbl, x1, x2⟩ := HW.out.at_ hBw hkl
        have hbw : b < wr.heap.size := by omega
        have HBW := Lib.hid hBw
        clear hBw
        subst hA
        have HD := Lib.hid (pickE_drop (vs := vs) hkl)
        have HT := Lib.hid (pickL_take (vs := vs) hkl)
        have HX0 : Hid (b < w.heap.size) := Lib.hid hbl
        have p0 : (0 : Int) ≤ (k : Int) := Int.natCast_nonneg _
        obtain ⟨x, hx⟩ : ∃ x, ms[k] = x := ⟨_, rfl⟩
        rw [hx] at x1 x2 HD HT
        clear hx hkl
        obtain ⟨vol, block⟩ := x
        simp only at x1 x2 HD HT
        have HBm : Hid (Below w.heap.size w (wr.alloc (.cells #[.int .i64 vol, .int .i64 block] 88))) := Lib.hid (HBW.out.alloc HBW.out.size _)
        have HG1 := Lib.hid (fun c => HG.out (wr.alloc (.cells #[.int .i64 vol, .int .i64 block] 88)) c vol block HBm.out)
        obtain ⟨E, hE⟩ : ∃ E, gotE vs vol block = E := ⟨_, rfl⟩
        obtain ⟨S, hS⟩ : ∃ S, gotS vs vol block = S := ⟨_, rfl⟩
        rw [hE, hS] at HG1
        rw [hE] at HD
        rw [hS] at HT
        clear hE hS
        by_cases h0 : E = 0
        · rw [if_pos h0] at HD
          subst h0
          have hcl : Hid (∀ w2, Below (wr.alloc (.cells #[.int .i64 vol, .int .i64 block] 88)).heap.size (wr.alloc (.cells #[.int .i64 vol, .int .i64 block] 88)) w2 → w2.cell? ⟨wr.heap.size, 0, none⟩ = some (.int .i64 vol) ∧ w2.cell? ⟨wr.heap.size, 1, none⟩ = some (.int .i64 block)) := Lib.hid (fun w2 hb => ⟨by rw [hb.cell (p := ⟨wr.heap.size, 0, none⟩) (by simp), Lib.cell_of_heap (heap_alloc_new _ _)]; rfl, by rw [hb.cell (p := ⟨wr.heap.size, 1, none⟩) (by simp), Lib.cell_of_heap (heap_alloc_new _ _)]; rfl⟩)
          go_wp2_with fail
          refine (HG1.out _).mono ?_
          rintro e w2 ⟨rfl, hb2⟩
          have HB2 : Hid (Below w1.heap.size w1 w2) := Lib.hid ((HB.out.alloc hwz _).trans (hb2.mono (by simp; omega)))
          have HO2 : Hid (w2.ownsRow w1.heap.size 74 3 (.slice A4 k c4) k (wrCells (pickL vs (ms.take k)))) := Lib.hid (own_kept (HO.out.alloc _) hb2)
          obtain ⟨y0, y1⟩ := hcl.out w2 hb2
          have hz2' : w1.heap.size ≤ w2.heap.size := HB2.out.size
          clear hb2 hcl HG1
          go_wp2_with (at_builtin; refine wpList_append_own _ rfl (.tmp 32) (.tmp 39) 25 rfl w1.heap.size 74 i0 (.agg #[.int .i64 0, .int .i64 0, .string ByteArray.empty]) 3 32 Try.underlying25 hi0 hz0 hz1 hz2 rfl (by decide) (.slice A4 k c4) k (wrCells (pickL vs (ms.take k))) rfl (HO2.out.alloc _) ⟨w2.heap.size, 0, none⟩ 1 1 [.int .i64 vol, .int .i64 block, .string S] rfl rfl (cell_three_new _ _ _ _ _) (by intro u hu; simp at hu; rcases hu with rfl | rfl | rfl <;> rfl) ?c4 ?c5 ?c6 ?_)
          case c4 => unfold maxLen; omega
          case c5 => omega
          case c6 => simp; omega
          intro v6 w6 hown hg _
          have HO6 : Hid (w6.ownsRow w1.heap.size 74 3 v6 (k + 1) (wrCells (pickL vs (ms.take (k + 1))))) := Lib.hid (by rw [HT.out, wrCells_append]; exact hown)
          have HB6 : Hid (Below w1.heap.size w1 w6) := Lib.hid ((HB2.out.alloc HB2.out.size _).grown hg (by simp; omega) (fun q hq => (HO.out.lt q hq).1))
          clear hown hg x1 x2 y0 y1 HO2
          go_wp2_with fail
          go_roundg (n - (k + 1))
          case measure => omega
          case rel => exact ⟨k + 1, by go_num, by omega, Nat.le_refl _, Lib.hid (HK.out.trans HD.out), HO6, HB6⟩
        · have h0' : (E != 0) = true := by rw [bne_iff_ne]; exact h0
          rw [if_neg h0] at HD
          have HE : Hid (pickV vs ms = [] ∧ pickEr vs ms = E) := Lib.hid (pick_err HR.out (HK.out.trans HD.out) h0)
          clear h0
          go_wp2_with fail
          refine (HG1.out _).mono ?_
          rintro e w2 ⟨rfl, hb2⟩
          have HB2 : Hid (Below w.heap.size w w2) := Lib.hid (HBm.out.trans (hb2.mono HBm.out.size))
          clear hb2
          go_wp2_with fail
          go_ret2
          rw [HE.out.1, HE.out.2]
          exact WrsRoom.none_ _ HB2.out
      · have hltz : ¬ (k : Int) < (n : Int) := by omega
        have HE : Hid (WrsRoom (pickV vs ms) (pickEr vs ms) w (.returned (.tuple #[.slice A4 k c4, .int .i64 0])) wr) := Lib.hid (by
          have e0 : pickE vs ms = 0 := by rw [HK.out, List.drop_of_length_le (by rw [HN.out]; omega)]; rfl
          rw [(pick_ok HR.out e0).1, (pick_ok HR.out e0).2]
          have hO := HO.out
          have e1 : ms.take k = ms := List.take_of_length_le (by rw [HN.out]; omega)
          rw [e1] at hO
          have e2 : k = (pickL vs ms).length := by rw [pickL_length, HN.out]; omega
          rw [e2] at hO ⊢
          exact own_roomW hO (HB1.out.trans (HB.out.mono hw1)))
        go_wp2_with fail
        go_ret2
        exact HE.out
end Go.Proofs.Ythajgoigmkkbgaa
