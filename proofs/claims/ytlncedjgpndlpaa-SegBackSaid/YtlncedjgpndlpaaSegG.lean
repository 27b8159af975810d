/- The contract of the document's Feed. -/
import Derived.Test.YtlncedjgpndlpaaSegF
namespace Go.Proofs.Ytlncedjgpndlpaa
open Go.RowKit

theorem bt_pair (s : ByteArray) (h : 3 < s.size) : 256 * PlainAid.bt s 2 + PlainAid.bt s 3 = (fCnt s.data.toList : Int) := by
  rw [← PlainAid.get_bt s 2 (by omega), ← PlainAid.get_bt s 3 h]
  obtain ⟨⟨l⟩⟩ := s
  match l, h with
  | a :: b :: c :: d :: l, h =>
    have e : fCnt (a :: b :: c :: d :: l) = 256 * c.toNat + d.toNat := by simp [fCnt, dec]
    show 256 * (c.toNat : Int) + (d.toNat : Int) = ((fCnt (a :: b :: c :: d :: l) : Nat) : Int)
    rw [e]
    omega
theorem new_take {hv : List (List UInt8)} {p : List UInt8} (h : fIdx p = 0 ∨ fIdx p = hv.length) : fdNew hv p = hv.take (fIdx p) ++ [fPart p] := by
  by_cases h0 : fIdx p = 0
  · rw [new_first h0, h0]; rfl
  · rw [new_next h0]
    rcases h with h | h
    · exact absurd h h0
    · rw [h, List.take_length]

/-- What the document's Feed leaves. -/
def DFeedEnd (f : Fed) (w : World) (e : Ending) (w' : World) : Prop :=
  ∃ A c, e = .returned (.tuple #[.int .i64 f.of, .slice A f.hv.length c, .string (str f.tx), .bool f.ok, .int .i64 f.er]) ∧ Strs w' w'.heap.size A f.hv ∧ Below w.heap.size w w'
theorem dfeed_err {e : Int} {w w' : World} (hb : Below w.heap.size w w') : DFeedEnd (fedE e) w (.returned (.tuple #[.int .i64 0, .slice none 0 0, .string ⟨#[]⟩, .bool false, .int .i64 e])) w' :=
  ⟨none, 0, rfl, .inl rfl, hb⟩
theorem dfeed_whole {tx : List UInt8} {w w' : World} (hb : Below w.heap.size w w') : DFeedEnd ⟨0, [], tx, true, 0⟩ w (.returned (.tuple #[.int .i64 0, .slice none 0 0, .string (str tx), .bool true, .int .i64 0])) w' :=
  ⟨none, 0, rfl, .inl rfl, hb⟩
theorem dfeed_more {B n : Nat} {of : Int} {xs : List (List UInt8)} {v : Value} {w w' : World} (hn : xs.length = n) (hown : w'.ownsRow B 9 1 v n (xs.map txt)) (hb : Below w.heap.size w w') : DFeedEnd ⟨of, xs, [], false, 0⟩ w (.returned (.tuple #[.int .i64 of, v, .string ⟨#[]⟩, .bool false, .int .i64 0])) w' := by
  subst hn
  obtain ⟨A, c, rfl, _, hs⟩ := own_strs hown
  exact ⟨A, c, rfl, hs, hb⟩

set_option maxHeartbeats 2000000 in
set_option maxRecDepth 100000 in
theorem DFeed_any (of : Int) (hv : List (List UInt8)) (A : Option Addr) (n c : Nat) (s : ByteArray) (w : World) (hn : hv.length = n) (hA : Strs w w.heap.size A hv) (h1 : n ≤ 10000) (h2 : total hv + s.size ≤ 281474976710656) :
    Calls Try.prog 15 #[.int .i64 of, .slice A n c, .string s] w (DFeedEnd (fed of hv s.data.toList) w) := by
  by_cases h4 : s.size < 4
  · have e := opE_short (p := s.data.toList) (by rw [list_length]; exact h4)
    rw [fed_op (by rw [e]; omega), e]
    clear e hA
    go_enter Try.func15, Try.ntmps15
    go_wp2
    exact bodyPost_ret (v := .tuple #[.int .i64 0, .slice none 0 0, .string ⟨#[]⟩, .bool false, .int .i64 2]) (by simp [results, Try.results15, go_sem]) rfl (dfeed_err (Below.refl _ _))
  · have g0 : 0 < s.size := by omega
    have g1 : 1 < s.size := by omega
    have g2 : 2 < s.size := by omega
    have g3 : 3 < s.size := by omega
    have b0 := PlainAid.bt_nonneg s 0
    have b1 := PlainAid.bt_nonneg s 1
    have b2 := PlainAid.bt_nonneg s 2
    have b3 := PlainAid.bt_nonneg s 3
    have c0 := PlainAid.bt_le s 0
    have c1 := PlainAid.bt_le s 1
    have c2 := PlainAid.bt_le s 2
    have c3 := PlainAid.bt_le s 3
    have hbt := PlainAid.get_bt s
    have h4' : (4 : Int) ≤ s.size := by omega
    have HN := Lib.hid hn
    have HA := Lib.hid hA
    obtain ⟨i0, hi0, hz0, hz1, hz2⟩ := info_parts Try.infoStr
    have Hi0 := Lib.hid hi0
    have Hz0 := Lib.hid hz0
    have Hz1 := Lib.hid hz1
    have Hz2 := Lib.hid hz2
    clear hi0 hz0 hz1 hz2 hA hn
    go_enter Try.func15, Try.ntmps15
    go_wp2
    go_quiet (fail)
    have e1 : 256 * PlainAid.bt s 0 + PlainAid.bt s 1 = (fIdx s.data.toList : Int) := bt_two s g1
    have e2 := bt_pair s g3
    rw [e1, e2]
    clear e1 e2 hbt b0 b1 b2 b3 c0 c1 c2 c3
    have hi := fIdx_lt s.data.toList
    have ho := fCnt_lt s.data.toList
    obtain ⟨w0, hw0⟩ : ∃ w0, w.drewN nq = w0 := ⟨_, rfl⟩
    have HB0 : Hid (Below w.heap.size w w0) := Lib.hid (by rw [← hw0]; exact below_drewN (Below.refl _ _) _)
    rw [hw0]
    clear hw0
    have hPl : (fPart s.data.toList).length = s.size - 4 := by unfold fPart; rw [List.length_drop, list_length]
    by_cases hf : fCnt s.data.toList ≤ fIdx s.data.toList
    · have HF : Hid (fed of hv s.data.toList = fedE 3) := Lib.hid (by
        have e := opE_form (p := s.data.toList) (by rw [list_length]; omega) hf
        rw [fed_op (by rw [e]; omega), e])
      generalize fed of hv s.data.toList = F at *
      generalize fIdx s.data.toList = i at *
      generalize fCnt s.data.toList = cn at *
      clear hPl
      go_wp2
      exact bodyPost_ret (v := .tuple #[.int .i64 0, .slice none 0 0, .string ⟨#[]⟩, .bool false, .int .i64 3]) (by simp [results, Try.results15, go_sem]) rfl (by rw [HF.out]; exact dfeed_err HB0.out)
    · have he := opE_ok (p := s.data.toList) (by rw [list_length]; omega) (by omega)
      by_cases hgo : fIdx s.data.toList = 0 ∨ (fIdx s.data.toList = n ∧ (fCnt s.data.toList : Int) = of)
      · have hz : fdE of hv s.data.toList = 0 := by
          rcases hgo with h | ⟨h, h'⟩
          · exact fdE_first he h
          · exact fdE_next he (by rw [HN.out]; exact h) h'
        have hnew := new_take (hv := hv) (p := s.data.toList) (by rw [HN.out]; rcases hgo with h | ⟨h, _⟩ <;> simp [h])
        have hin : fIdx s.data.toList ≤ n := by rcases hgo with h | ⟨h, _⟩ <;> omega
        have hnl : (hv.take (fIdx s.data.toList) ++ [fPart s.data.toList]).length = fIdx s.data.toList + 1 := by
          rw [List.length_append, List.length_take, HN.out]; simp; omega
        have HNL := Lib.hid hnl
        have HMore : Hid (fIdx s.data.toList + 1 < fCnt s.data.toList → fed of hv s.data.toList = ⟨(fCnt s.data.toList : Int), hv.take (fIdx s.data.toList) ++ [fPart s.data.toList], [], false, 0⟩) := Lib.hid (fun h => by
          rw [fed_more hz (by rw [hnew, hnl]; exact h), hnew])
        have HWhole : Hid (¬ fIdx s.data.toList + 1 < fCnt s.data.toList → fed of hv s.data.toList = ⟨0, [], (hv.take (fIdx s.data.toList) ++ [fPart s.data.toList]).flatten, true, 0⟩) := Lib.hid (fun h => by
          rw [fed_whole hz (by rw [hnew, hnl]; exact h), hnew])
        have HTot : Hid (total (hv.take (fIdx s.data.toList) ++ [fPart s.data.toList]) ≤ 281474976710656) := Lib.hid (by
          have := total_take_le hv (fIdx s.data.toList)
          rw [total_snoc]; omega)
        have HX : Hid (s.extract 4 s.size = str (fPart s.data.toList)) := Lib.hid (extract_drop_str s 4)
        clear hz hnew hnl he hPl
        generalize fed of hv s.data.toList = F at *
        generalize fIdx s.data.toList = i at *
        generalize fCnt s.data.toList = cn at *
        generalize fPart s.data.toList = P at *
        go_upto_region 6 with fail
        go_cut [51] from 39 to 50 (fun v51 wx => v51 = .bool false ∧ wx = w0)
        case first =>
          rcases hgo with h | ⟨h, h'⟩
          · subst h
            go_wp2
            go_meet
            case rel => exact ⟨rfl, rfl⟩
          · subst h
            subst h'
            by_cases h0 : i = 0
            · subst h0
              go_wp2
              go_meet
              case rel => exact ⟨rfl, rfl⟩
            · have hpos : 0 < i := by omega
              go_wp2
              go_meet
              case rel => exact ⟨rfl, rfl⟩
        case rest =>
          obtain ⟨rfl, hwc⟩ := hcut
          subst hwc
          obtain ⟨W, hW⟩ : ∃ W, W = wc := ⟨_, rfl⟩
          subst hW
          clear hgo
          have HS := Lib.hid (HA.out.next HB0.out)
          clear HA
          go_wp2
          go_loopw [13, 14] (fun v k wr => ∃ (q : Nat) (B : Option Addr) (cb : Nat), v = .slice B q cb ∧ q ≤ i ∧ k = .int .i64 q ∧ wr.ownsRow W.heap.size 9 1 (.slice B q cb) q ((hv.take q).map txt) ∧ Hid (Below W.heap.size W wr)) (fun _ k _ => i - (intOf k).toNat)
          case atStart => exact ⟨0, none, 0, rfl, by omega, rfl, World.ownsRow_nil _ _ _ _, Lib.hid (Below.refl _ _)⟩
          case round =>
            obtain ⟨q, B, cb, rfl, hq, rfl, hown, HB⟩ := hrel
            by_cases hlt : q < i
            · have hql : q < hv.length := by rw [HN.out]; omega
              obtain ⟨b, off, rfl, hb, hc⟩ := (HS.out.below HB.out).at_ hql
              have HT : Hid (hv.take (q + 1) = hv.take q ++ [hv[q]]) := Lib.hid (List.take_succ_eq_append_getElem hql)
              generalize hv[q] = x at hc HT
              unfold txt at hc
              have hqn : (q : Int) < (n : Int) := by omega
              have hq0 : (0 : Int) ≤ (q : Int) := by omega
              go_wp2_with (first
                | (at_builtin; refine wpList_append_own_at _ rfl (.tmp 57) (.tmp 62) 23 rfl W.heap.size 9 i0 (.string ⟨#[]⟩) 1 16 Try.underlying23 Hi0.out Hz0.out Hz1.out Hz2.out rfl (by decide) _ q ((hv.take q).map txt) rfl (hown.alloc _) ⟨wr.heap.size, 0, none⟩ 1 1 [txt x] rfl rfl ?c1 ?c2 ?c3 ?c4 ?c5 ?_))
              case c1 => exact cell_one_new _ _ _
              case c2 => intro u hu; simp at hu; subst hu; rfl
              case c3 => unfold maxLen; omega
              case c4 => omega
              case c5 => have := HB.out.size; simp; omega
              intro v3 w3 hown3 hg3 _ _
              rw [← List.map_take, snoc_txt, ← HT.out] at hown3
              have HB3 : Hid (Below W.heap.size W w3) := Lib.hid (by
                refine (Below.alloc HB.out HB.out.size _).grown hg3 ?_ (fun g hg => (hown.lt g hg).1)
                have := HB.out.size; simp; omega)
              obtain ⟨A3, c3, hv3, _, _⟩ := own_strs hown3
              subst hv3
              clear hg3 hown HB hc HT
              go_wp2
              go_roundw
              case rel => exact ⟨q + 1, A3, c3, rfl, by omega, by go_num, hown3, HB3⟩
              case measure => simp [intOf]; omega
            · obtain rfl : q = i := by omega
              clear hlt
              go_wp2_with (first
                | (at_builtin; refine wpList_append_own_at _ rfl (.tmp 64) (.tmp 67) 23 rfl W.heap.size 9 i0 (.string ⟨#[]⟩) 1 16 Try.underlying23 Hi0.out Hz0.out Hz1.out Hz2.out rfl (by decide) _ q ((hv.take q).map txt) rfl (hown.alloc _) ⟨wr.heap.size, 0, none⟩ 1 1 [txt P] rfl rfl ?c1 ?c2 ?c3 ?c4 ?c5 ?_))
              case c1 => have e := HX.out; rw [e]; exact cell_one_new _ _ _
              case c2 => intro u hu; simp at hu; subst hu; rfl
              case c3 => unfold maxLen; omega
              case c4 => omega
              case c5 => have := HB.out.size; simp; omega
              intro v3 w3 hown3 hg3 _ _
              rw [← List.map_take, snoc_txt] at hown3
              have HB3 : Hid (Below w.heap.size w w3) := Lib.hid (by
                have h3 : Below W.heap.size W w3 := by
                  refine (Below.alloc HB.out HB.out.size _).grown hg3 ?_ (fun g hg => (hown.lt g hg).1)
                  have := HB.out.size; simp; omega
                exact HB0.out.trans (h3.mono HB0.out.size))
              obtain ⟨A3, c3, hv3, _, hs3⟩ := own_strs hown3
              have HO3 := Lib.hid hown3
              have HS3 := Lib.hid hs3
              subst hv3
              clear hg3 hown HB HX hown3 hs3 HS HB0
              by_cases hm : q + 1 < cn
              · go_wp2
                exact bodyPost_ret (v := .tuple #[.int .i64 (cn : Int), .slice A3 (q + 1) c3, .string ⟨#[]⟩, .bool false, .int .i64 0]) (by simp [results, Try.results15, go_sem]) rfl (by rw [HMore.out hm]; exact dfeed_more HNL.out HO3.out HB3.out)
              · have HF := Lib.hid (HWhole.out hm)
                clear HMore HWhole HN
                generalize hv.take q ++ [P] = N at *
                go_wp2
                go_loop [15, 16] (fun t k => ∃ j : Nat, j ≤ q + 1 ∧ k = .int .i64 j ∧ t = .string (str (N.take j).flatten)) (fun _ k => q + 1 - (intOf k).toNat)
                case atStart => exact ⟨0, by omega, rfl, rfl⟩
                case round =>
                  obtain ⟨j, hj, rfl, rfl⟩ := hrel
                  by_cases hjl : j < q + 1
                  · have hjn : j < N.length := by rw [HNL.out]; exact hjl
                    obtain ⟨b, off, rfl, hb, hc⟩ := HS3.out.at_ hjn
                    have htt := total_take hjn
                    have htl := total_take_le N (j + 1)
                    have HT : Hid (str (N.take (j + 1)).flatten = str (N.take j).flatten ++ str N[j]) := Lib.hid (by
                      rw [List.take_succ_eq_append_getElem hjn, List.flatten_append, str_cat, List.flatten_cons, List.flatten_nil, List.append_nil])
                    have hsum : ¬ 9223372036854775807 < (str (N.take j).flatten).size + (str N[j]).size := by
                      have := HTot.out
                      rw [str_size, str_size, flat_total]; omega
                    clear htt htl
                    unfold txt at hc
                    generalize str N[j] = x at hc HT hsum
                    generalize str (N.take j).flatten = y at HT hsum ⊢
                    clear hjn
                    have hqn : (j : Int) < (q : Int) + 1 := by omega
                    have hq0 : (0 : Int) ≤ (j : Int) := by omega
                    go_wp2
                    go_round
                    case rel => exact ⟨j + 1, by omega, by go_num, by rw [HT.out]⟩
                    case measure => simp [intOf]; omega
                  · have hall : N.take j = N := List.take_of_length_le (by rw [HNL.out]; omega)
                    rw [hall]
                    clear hall
                    go_wp2
                    exact bodyPost_ret (v := .tuple #[.int .i64 0, .slice none 0 0, .string (str N.flatten), .bool true, .int .i64 0]) (by simp [results, Try.results15, go_sem]) rfl (by rw [HF.out]; exact dfeed_whole HB3.out)
      · have HF : Hid (fed of hv s.data.toList = fedE 8) := Lib.hid (by
          refine fed_none he (fun h => hgo (.inl h)) ?_
          rw [HN.out]
          by_cases ha : fIdx s.data.toList = n
          · exact .inr (fun hb => hgo (.inr ⟨ha, hb⟩))
          · exact .inl ha)
        clear he hPl
        generalize fed of hv s.data.toList = F at *
        generalize fIdx s.data.toList = i at *
        generalize fCnt s.data.toList = cn at *
        have h0 : 0 < i := by rcases Nat.eq_zero_or_pos i with h | h; exact absurd (.inl h) hgo; exact h
        by_cases ha : i = n
        · have hb : ((cn : Int) == of) = false := beq_eq_false_iff_ne.2 (fun hb => hgo (.inr ⟨ha, hb⟩))
          subst ha
          clear hgo
          go_wp2
          exact bodyPost_ret (v := .tuple #[.int .i64 0, .slice none 0 0, .string ⟨#[]⟩, .bool false, .int .i64 8]) (by simp [results, Try.results15, go_sem]) rfl (by rw [HF.out]; exact dfeed_err HB0.out)
        · have hb : ((i : Int) == (n : Int)) = false := beq_eq_false_iff_ne.2 (by omega)
          clear hgo
          go_wp2
          exact bodyPost_ret (v := .tuple #[.int .i64 0, .slice none 0 0, .string ⟨#[]⟩, .bool false, .int .i64 8]) (by simp [results, Try.results15, go_sem]) rfl (by rw [HF.out]; exact dfeed_err HB0.out)
end Go.Proofs.Ytlncedjgpndlpaa
