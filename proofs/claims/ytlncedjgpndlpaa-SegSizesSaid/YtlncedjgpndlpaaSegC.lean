/- The contract of the document's Pieces. -/
import Derived.Test.YtlncedjgpndlpaaSegB
import Derived.Test.YtlncedjgpndlpaaMem
import Derived.Deep.RegionHeld3
import Derived.Deep.AppendLies
namespace Go.Proofs.Ytlncedjgpndlpaa
open Go.RowKit

theorem own_base {w : World} {B B' : Nat} {e : TypeId} {size n : Nat} {v : Value} {xs : List Value} (h : w.ownsRow B e size v n xs) (hB : B' ≤ B) : w.ownsRow B' e size v n xs := by
  refine ⟨h.1, ?_⟩
  rcases h.2 with h | ⟨g, cap, cur, a, b, c⟩
  · exact .inl h
  · exact .inr ⟨g, cap, cur, a, by omega, c⟩

def LatW.lay1 {V : World} (z : LatW V) (o : Obj) : LatW V := ⟨z.wd.alloc o, z.bel.alloc z.bel.size o⟩

theorem drop_step (l : List UInt8) (n k : Nat) : (l.drop (k * n)).drop n = l.drop ((k + 1) * n) := by rw [List.drop_drop, Nat.add_mul, Nat.one_mul]

theorem snoc_txt (xs : List (List UInt8)) (x : List UInt8) : xs.map txt ++ [txt x] = (xs ++ [x]).map txt := by simp

set_option maxRecDepth 100000 in
set_option maxHeartbeats 1600000 in
theorem Pieces_any (s : ByteArray) (n : Nat) (w : World) (hs : s.size ≤ 1000000) (hn1 : 1 ≤ n) (hn2 : n ≤ 508) (hof : cntN s.size n ≤ 65535) :
    Calls Try.prog 11 #[.string s, .int .i64 n] w fun e w' => ∃ v, e = .returned (.tuple #[v, .bool true]) ∧ w'.ownsRow w.heap.size 9 1 v (piecesN s.data.toList n).length ((piecesN s.data.toList n).map txt) ∧ Below w.heap.size w w' := by
  obtain ⟨l, hl⟩ : ∃ l, s.data.toList = l := ⟨_, rfl⟩
  have hsz : s.size = l.length := by rw [← hl, list_length]
  obtain rfl : s = str l := by rw [← hl]; rfl
  have HN : Hid (piecesN l n = piecesK l n (cntN l.length n) (cntN l.length n)) := Lib.hid rfl
  rw [hsz] at hs hof
  have HS0 := Lib.hid (str_size l)
  clear hl hsz
  rw [str_list]
  obtain ⟨i0, hi0, hz0, hz1, hz2⟩ := info_parts Try.infoStr
  go_enter Try.func11, Try.ntmps11
  go_wp2
  go_loopw [0, 6] (fun rest v wr => ∃ (k : Nat) (r : List UInt8), rest = .string (str r) ∧ r.length + k * n = l.length ∧ Hid (r = l.drop (k * n)) ∧ k ≤ 1000000 ∧ Hid (k = 0 ∨ k * n < l.length) ∧ wr.ownsRow w.heap.size 9 1 v k ((partsN l n k).map txt) ∧ Below w.heap.size w wr) (fun rest _ _ => match rest with | .string t => t.size | _ => 0)
  case atStart => exact ⟨0, l, rfl, by omega, Lib.hid (by simp), by omega, Lib.hid (.inl rfl), World.ownsRow_nil _ _ _ _, Below.refl _ _⟩
  case round =>
    obtain ⟨k, r, rfl, hrl, HR, hk, HK, hown, hbel⟩ := hrel
    have hrs := str_size r
    have HRS := Lib.hid hrs
    have hkn : k * 1 ≤ k * n := Nat.mul_le_mul_left _ hn1
    by_cases hlt : n < r.length
    · have h1 : n < (str r).size := by omega
      have HX : Hid (str (r.take n) = (str r).extract 0 n) := Lib.hid (by rw [extract_take_str, str_list])
      have HY : Hid ((str r).extract n (str r).size = str (r.drop n)) := Lib.hid (by rw [extract_drop_str, str_list])
      clear hrs
      generalize str r = S at *
      go_wp2_with (first
        | (at_builtin; refine wpList_append_own_at _ rfl (.tmp 13) (.tmp 17) 23 rfl w.heap.size 9 i0 (.string ⟨#[]⟩) 1 16 Try.underlying23 hi0 hz0 hz1 hz2 rfl (by decide) _ k ((partsN l n k).map txt) rfl (hown.alloc _) ⟨wr.heap.size, 0, none⟩ 1 1 [txt (r.take n)] rfl rfl ?c1 ?c2 ?c3 ?c4 ?c5 ?_))
      case c1 => rw [← HX.out]; exact cell_one_new _ _ _
      case c2 => intro u hu; simp at hu; subst hu; rfl
      case c3 => unfold maxLen; omega
      case c4 => omega
      case c5 => have := hbel.size; simp; omega
      intro v3 w3 hown3 hg3 _ _
      have hpart : partN l n k = r.take n := by rw [partN, ← HR.out]
      rw [snoc_txt, ← hpart, ← partsN_snoc] at hown3
      have hbel2 : Below w.heap.size w (wr.alloc (.cells #[txt (r.take n)] 9)) := hbel.alloc hbel.size _
      rw [← HX.out] at hg3
      have hbel3 : Below w.heap.size w w3 := by
        refine (Below.alloc hbel hbel.size _).grown hg3 ?_ (fun g hg => (hown.lt g hg).1)
        have := hbel.size; simp; omega
      have e1 : (k + 1) * n = k * n + n := by rw [Nat.add_mul, Nat.one_mul]
      have HR3 : Hid (r.drop n = l.drop ((k + 1) * n)) := Lib.hid (by rw [HR.out, drop_step])
      have hl3 : (r.drop n).length = r.length - n := List.length_drop
      have HS3 := Lib.hid (str_size (r.drop n))
      have HL3 : Hid ((r.drop n).length + (k + 1) * n = l.length) := Lib.hid (by omega)
      have HK3 : Hid (k + 1 = 0 ∨ (k + 1) * n < l.length) := Lib.hid (.inr (by omega))
      have hk3 : k + 1 ≤ 1000000 := by
        have : (k + 1) * 1 ≤ (k + 1) * n := Nat.mul_le_mul_left _ hn1
        omega
      have HM3 : Hid ((r.drop n).length < S.size) := Lib.hid (by rw [HRS.out]; omega)
      clear e1 hl3 hbel2 hg3 hown hpart hkn hrl HR HK hbel HX
      go_wp2
      rw [HY.out]
      go_roundw
      case rel => exact ⟨k + 1, r.drop n, rfl, HL3.out, HR3, hk3, HK3, hown3, hbel3⟩
      case measure => have := HM3.out; have := HS3.out; simp; omega
    · have h1 : (str r).size ≤ n := by omega
      have hpart : partN l n k = r := by rw [partN, ← HR.out, List.take_of_length_le (by omega)]
      have hcnt : cntN l.length n = k + 1 := cnt_is hn1 HK.out (by rw [Nat.add_mul]; omega)
      rw [hcnt] at HN hof
      have HN1 : Hid (piecesN l n = piecesK l n (k + 1) (k + 1)) := HN
      obtain ⟨of, hofe⟩ : ∃ of, of = k + 1 := ⟨_, rfl⟩
      clear hrs hcnt HN hkn hlt
      generalize hS : str r = S at *
      go_wp2_with (first
        | (at_builtin; refine wpList_append_own_at _ rfl (.tmp 22) (.tmp 24) 23 rfl w.heap.size 9 i0 (.string ⟨#[]⟩) 1 16 Try.underlying23 hi0 hz0 hz1 hz2 rfl (by decide) _ k ((partsN l n k).map txt) rfl (hown.alloc _) ⟨wr.heap.size, 0, none⟩ 1 1 [txt r] rfl rfl ?c1 ?c2 ?c3 ?c4 ?c5 ?_))
      case c1 => subst hS; exact cell_one_new _ _ _
      case c2 => intro u hu; simp at hu; subst hu; rfl
      case c3 => unfold maxLen; omega
      case c4 => omega
      case c5 => have := hbel.size; simp; omega
      intro v3 w3 hown3 hg3 _ _
      rw [snoc_txt, ← hpart, ← partsN_snoc] at hown3
      have hbel3 : Below w.heap.size w w3 := by
        refine (Below.alloc hbel hbel.size _).grown hg3 ?_ (fun g hg => (hown.lt g hg).1)
        have := hbel.size; simp; omega
      rw [← hofe] at hown3 HN1 hof
      obtain ⟨A3, c3, hv3, hl3, hst3⟩ := own_strs hown3
      subst hv3
      have HP := Lib.hid hst3
      have HPL := Lib.hid hl3
      have hofk : 1 ≤ of := by omega
      have HI : Hid (∀ i, i < of → (partsN l n of)[i]? = some (partN l n i)) := Lib.hid (fun i hi => by
        rw [List.getElem?_eq_getElem (by rw [partsN_len]; exact hi), partsN_at])
      clear hst3 hl3 hown3 hg3 hown hpart hrl HR HK hbel hofe hk HRS h1 hS
      go_wp2
      go_loopw [7, 8] (fun v i wr => ∃ (k : Nat) (A : Option Addr) (c : Nat), v = .slice A k c ∧ k ≤ of ∧ i = .int .i64 k ∧ wr.ownsRow w3.heap.size 9 1 (.slice A k c) k ((piecesK l n of k).map txt) ∧ Hid (Below w3.heap.size w3 wr)) (fun _ i _ => of - (intOf i).toNat)
      case atStart => exact ⟨0, none, 0, rfl, by omega, rfl, World.ownsRow_nil _ _ _ _, Lib.hid (Below.refl _ _)⟩
      case round =>
        obtain ⟨q, A, c, rfl, hq, rfl, hown, HB⟩ := hrel
        by_cases hlt : q < of
        · have hat := (HP.out.below HB.out).at_ (k := q) (by rw [HPL.out]; exact hlt)
          obtain ⟨b, off, rfl, hb, hc⟩ := hat
          have hc' : wr.cell? ⟨b, off + q, none⟩ = some (txt (partN l n q)) := by rw [hc, partsN_at]
          clear hc
          have hsx : (str (partN l n q)).size ≤ 1000000 := by rw [str_size]; have := partN_le l n q; omega
          have HPc : Hid (str (pieceN l n of q) = str (enc 2 q) ++ str (enc 2 of) ++ str (partN l n q)) := Lib.hid (by rw [str_cat, str_cat]; rfl)
          unfold txt at hc'
          have hs1 : ¬ 9223372036854775807 < (str (enc 2 q)).size + (str (enc 2 of)).size := by rw [str_size, str_size, enc_length, enc_length]; omega
          have hs2 : ¬ 9223372036854775807 < (str (enc 2 q)).size + (str (enc 2 of)).size + (str (partN l n q)).size := by rw [str_size, str_size, enc_length, enc_length]; omega
          have HT1 : Hid (∀ z : LatW wr, Calls Try.prog 18 #[.int .i64 q] z.wd fun e w' => e = .returned (.string (str (enc 2 q))) ∧ Below z.wd.heap.size z.wd w') := Lib.hid (fun z => two_any q _ (by omega))
          have HT2 : Hid (∀ z : LatW wr, Calls Try.prog 18 #[.int .i64 of] z.wd fun e w' => e = .returned (.string (str (enc 2 of))) ∧ Below z.wd.heap.size z.wd w') := Lib.hid (fun z => two_any of _ (by omega))
          have HO : Hid (∀ z : LatW wr, z.wd.ownsRow w3.heap.size 9 1 (.slice A q c) q ((piecesK l n of q).map txt)) := Lib.hid (fun z => own_kept hown z.bel)
          have hbw : b < wr.heap.size := Nat.lt_of_lt_of_le hb HB.out.size
          have x0 := fun z : LatW wr => z.cell hc' hbw
          generalize str (enc 2 q) = a at *
          generalize str (enc 2 of) = a2 at *
          generalize str (partN l n q) = P at *
          obtain ⟨zd, hzd⟩ := LatW.drawn (⟨wr, Below.refl _ _⟩ : LatW wr)
          clear hown
          go_wp2_with fail
          go_region_held3 (fun w' => w'.cell? ⟨b, off + q, none⟩ = some (.string P)) (first | with_reducible exact x0 z5 | with_reducible exact x0 z6 | with_reducible exact x0 (LatW.lay1 z6 _) | with_reducible exact x0 zd | (rw [hzd]; with_reducible exact x0 zd) | exact x0 (LatW.lay1 z6 _) | exact x7) (first
            | ((try rw [hzd]); (with_reducible refine (HT1.out zd).mono ?_); rintro e w9 ⟨rfl, hb9⟩; obtain ⟨z5, hz5⟩ := LatW.later zd hb9; subst hz5; clear hb9)
            | ((with_reducible refine (HT2.out z5).mono ?_); rintro e w9 ⟨rfl, hb9⟩; obtain ⟨z6, hz6⟩ := LatW.later z5 hb9; subst hz6; clear hb9)
            | (refine step_append_lies _ (by rfl) (.tmp 35) (.tmp 47) 23 (by rfl) w3.heap.size 9 i0 (.string ⟨#[]⟩) 1 16 Try.underlying23 hi0 hz0 hz1 hz2 rfl (by decide) (.slice A q c) q ((piecesK l n of q).map txt) (by rfl) ((HO.out z6).alloc _) ⟨z6.wd.heap.size, 0, none⟩ 1 1 [.string (a ++ a2 ++ P)] (by rfl) (by rfl) (cell_one_new _ _ _) (by simp [Value.oneCell']) (by omega) (by unfold maxLen; omega) (by omega) (Nat.le_trans HB.out.size (LatW.lay1 z6 _).bel.size) _ rfl ?_; intro g cap w7 hown hg hat hlt7; have HO7 := Lib.hid hown; have hb7 : Below w3.heap.size (LatW.lay1 z6 (.cells #[.string (a ++ a2 ++ P)] 9)).wd w7 := (Below.refl _ _).grown hg (Nat.le_trans HB.out.size (LatW.lay1 z6 _).bel.size) (fun k hk => ((HO.out z6).lt k hk).1); have x7 := (hb7.cell (p := ⟨b, off + q, none⟩) hb).trans (x0 (LatW.lay1 z6 _)); have HB7 := Lib.hid hb7; clear hown hg hat hlt7 hb7))
          have hown8 : w7.ownsRow w3.heap.size 9 1 (.slice (some ⟨g, 0, none⟩) (q + 1) cap) (q + 1) ((piecesK l n of (q + 1)).map txt) := by
            have := HO7.out
            rwa [← HPc.out, show (Value.string (str (pieceN l n of q))) = txt (pieceN l n of q) from rfl, snoc_txt, ← piecesK_snoc] at this
          have hbel8 : Hid (Below w3.heap.size w3 w7) := Lib.hid (Below.trans (Below.trans HB.out ((LatW.lay1 z6 (.cells #[.string (a ++ a2 ++ P)] 9)).bel.mono HB.out.size)) HB7.out)
          clear HO7 x7 HB7 HB HO x0 hc' HT1 HT2 hs1 hs2 HPc
          go_wp2
          go_roundw
          case rel => exact ⟨q + 1, some ⟨g, 0, none⟩, cap, rfl, by omega, by go_num, hown8, hbel8⟩
          case measure => simp [intOf]; omega
        · obtain rfl : q = of := by omega
          go_wp2
          go_ret2
          refine ⟨_, rfl, ?_, hbel3.trans (HB.out.mono hbel3.size)⟩
          rw [HN1.out, piecesK_len]
          exact own_base hown hbel3.size
end Go.Proofs.Ytlncedjgpndlpaa
