/- Contracts of octet.Items, of the document's answer for it, and of the comparison of lists. -/
import Derived.Test.YtpbfemfbihelpaaLaws
import Derived.Test.YtpbfemfbihelpaaList
import Derived.Maps.AppendAt
namespace Go.Proofs.Ytpbfemfbihelpaa
open Go.RowKit

theorem Try.infoStr : (Try.prog.info? 9).map (fun i => (i.zero, i.size, i.bytes)) = some (some (.string ⟨#[]⟩), 1, 16) := by kernel_rfl

/-- What Items leaves: the list in memory of the call's own, the rest, the error. -/
def ItemsEnd (l : List UInt8) (w : World) (e : Ending) (w' : World) : Prop :=
  ∃ v, e = .returned (.tuple #[v, .string (str (itR l)), .int .i64 (itE l)]) ∧ w'.ownsRow w.heap.size 9 1 v (itL l).length ((itL l).map txt) ∧ Below w.heap.size w w'

theorem itemsEnd_none {l : List UInt8} {w w' : World} (h : itemsOf l = none) (hb : Below w.heap.size w w') : ItemsEnd l w (.returned (.tuple #[.slice none 0 0, .string ⟨#[]⟩, .int .i64 2])) w' := by
  obtain ⟨h1, h2, h3⟩ := it_none h
  refine ⟨.slice none 0 0, ?_, ?_, hb⟩
  · rw [h1, h3]; rfl
  · rw [h2]; exact World.ownsRow_nil _ _ _ _
theorem itemsEnd_some {l r : List UInt8} {xs : List (List UInt8)} {w w' : World} {v : Value} (h : itemsOf l = some (xs, r)) (hown : w'.ownsRow w.heap.size 9 1 v xs.length (xs.map txt)) (hb : Below w.heap.size w w') :
    ItemsEnd l w (.returned (.tuple #[v, .string (str r), .int .i64 0])) w' := by
  obtain ⟨h1, h2, h3⟩ := it_some h
  refine ⟨v, ?_, ?_, hb⟩
  · rw [h1, h3]
  · rw [h2]; exact hown

theorem own_below {w w' : World} {base : Nat} {e : TypeId} {size n : Nat} {v : Value} {xs : List Value} (h : w.ownsRow base e size v n xs) (hb : Below w.heap.size w w') : w'.ownsRow base e size v n xs :=
  h.kept (row := none) ⟨hb.os, hb.tape, hb.output, hb.size, fun i hi _ => hb.block i hi⟩ (by cases hv : v.ownBlock <;> simp)

theorem map_txt_snoc (xs : List (List UInt8)) (x : List UInt8) : xs.map txt ++ [txt x] = (xs ++ [x]).map txt := by simp

set_option maxHeartbeats 800000 in
theorem Items_any (s : ByteArray) (w : World) (hs : s.size ≤ maxLen) :
    Calls Try.prog 28 #[.string s] w (ItemsEnd s.data.toList w) := by
  have hs' := hs
  unfold maxLen at hs
  by_cases h : s.size < 2
  · have HI := Lib.hid (items_short (l := s.data.toList) (by rw [list_length]; exact h))
    have HE := Lib.hid (numE_short (l := s.data.toList) (width := 2) (by omega) (by omega) (by rw [list_length]; omega))
    go_enter Try.func28, Try.ntmps28
    go_wp2_with (go_at_call 19; refine (Number_any _ _ _ hs').mono ?_; rintro e w' ⟨rfl, hbel⟩; rw [HE.out])
    go_ret3
    exact itemsEnd_none HI.out hbel
  · have hd2 := dec_take_two s.data.toList
    have HE : Hid (numE s.data.toList 2 = 0) := Lib.hid ((numE_get (l := s.data.toList) (k := 2) (by omega) (by omega) (by rw [list_length]; omega)).trans (getE_ok (by rw [List.length_take, list_length]; omega) (by rw [List.length_take, list_length]; omega) (by omega)))
    have HN : Hid (numN s.data.toList 2 = (dec (s.data.toList.take 2) : Int)) := Lib.hid (numN_ok (k := 2) HE.out)
    have HR : Hid (numR s.data.toList 2 = s.data.toList.drop 2) := Lib.hid (numR_ok (k := 2) HE.out)
    obtain ⟨d, hd⟩ : ∃ d, d = dec (s.data.toList.take 2) := ⟨_, rfl⟩
    obtain ⟨r0, hr0⟩ : ∃ r, r = s.data.toList.drop 2 := ⟨_, rfl⟩
    have HI : Hid (itemsOf s.data.toList = itemsGo d r0) := Lib.hid (by rw [items_long (by rw [list_length]; omega), hd, hr0])
    have hrl : r0.length ≤ s.size := by rw [hr0, List.length_drop, list_length]; omega
    rw [← hd] at hd2 HN
    rw [← hr0] at HR
    clear hd hr0
    obtain ⟨i0, hi0, hz0, hz1, hz2⟩ := info_parts Try.infoStr
    go_enter Try.func28, Try.ntmps28
    go_wp2_with (go_at_call 19; refine (Number_any _ _ _ hs').mono ?_; rintro e w1 ⟨rfl, hb1⟩; rw [HE.out, HN.out, HR.out])
    go_loopw [6, 8, 20] (fun rest v i wr => ∃ (k : Nat) (xs : List (List UInt8)) (r : List UInt8), k ≤ d ∧ i = .int .i64 k ∧ rest = .string (str r) ∧ r.length ≤ s.size ∧ wr.ownsRow w.heap.size 9 1 v k (xs.map txt) ∧ Hid (xs.length = k) ∧ Hid (Going (itemsGo d r0) (d - k) xs r) ∧ Below w.heap.size w wr) (fun _ _ i _ => d - (intOf i).toNat)
    case atStart => exact ⟨0, [], r0, by omega, rfl, rfl, hrl, World.ownsRow_nil _ _ _ _, Lib.hid rfl, Lib.hid (going_start _ _), hb1⟩
    case round =>
      obtain ⟨k, xs, r, hk, rfl, rfl, hr, hown, HX, HG, hbel⟩ := hrel
      by_cases hlt : k < d
      · have hsr : (str r).size ≤ maxLen := by rw [str_size]; unfold maxLen; omega
        have HG2 : Hid (Going (itemsGo d r0) ((d - (k + 1)) + 1) xs r) := by rw [show d - (k + 1) + 1 = d - k from by omega]; exact HG
        by_cases ht : takeE r = 0
        · have HT := Lib.hid ht
          clear ht
          go_wp2_with (first
            | (go_at_call 23; refine (Take_any _ _ hsr).mono ?_; rintro e w2 ⟨rfl, hb2⟩; rw [str_list, HT.out]; have hown2 := own_below hown hb2)
            | (at_builtin; refine wpList_append_own_at _ rfl (.tmp 31) (.tmp 33) 45 rfl w.heap.size 9 i0 (.string ⟨#[]⟩) 1 16 Try.underlying45 hi0 hz0 hz1 hz2 rfl (by decide) _ k (xs.map txt) rfl (hown2.alloc _) ⟨w2.heap.size, 0, none⟩ 1 1 [txt (takeA r)] rfl rfl ?c1 ?c2 ?c3 ?c4 ?c5 ?_))
          case c1 => exact cell_one_new _ _ _
          case c2 => intro u hu; simp at hu; subst hu; rfl
          case c3 => unfold maxLen; omega
          case c4 => omega
          case c5 => have := hbel.size; have := hb2.size; simp; omega
          intro v3 w3 hown3 hg3 _ _
          rw [map_txt_snoc] at hown3
          have hbel2 : Below w.heap.size w (w2.alloc (.cells #[txt (takeA r)] 9)) := (below_next hbel (hb2.mono (Nat.le_refl _))).alloc (by have := hbel.size; have := hb2.size; omega) _
          have hbel3 : Below w.heap.size w w3 := hbel2.grown hg3 hbel2.size (fun g hg => (hown.lt g hg).1)
          have hlen : Hid ((xs ++ [takeA r]).length = k + 1) := Lib.hid (by rw [List.length_append, HX.out]; rfl)
          have HG3 := Lib.hid (going_step HG2.out HT.out)
          have hrl2 := takeR_le r
          clear hg3 hown hown2 hb2 hbel hbel2 HG HG2 HX
          go_wp2
          go_roundw
          case rel => exact ⟨k + 1, xs ++ [takeA r], takeR r, by omega, by go_num, rfl, by omega, hown3, hlen, HG3, hbel3⟩
          case measure => simp [intOf]; omega
        · have HT := Lib.hid (takeE_two ht)
          have HW := Lib.hid (going_lack HG2.out ht)
          clear ht
          go_wp2_with (first
            | (go_at_call 23; refine (Take_any _ _ hsr).mono ?_; rintro e w2 ⟨rfl, hb2⟩; rw [str_list, HT.out]))
          go_ret3
          exact itemsEnd_none (HI.out.trans HW.out) (below_next hbel hb2)
      · have HG2 : Hid (Going (itemsGo d r0) 0 xs r) := by rw [show 0 = d - k from by omega]; exact HG
        have HW := Lib.hid (going_end HG2.out)
        go_wp2
        go_ret3
        exact itemsEnd_some (HI.out.trans HW.out) (by rw [HX.out]; exact hown) hbel

theorem own_len {w : World} {base : Nat} {e : TypeId} {size n : Nat} {v : Value} {xs : List Value} (h : w.ownsRow base e size v n xs) : n ≤ maxLen := by
  rcases h.2 with ⟨_, rfl⟩ | ⟨g, cap, cur, _, _, _, hn, hm, _⟩
  · simp
  · omega

/-- A slice's length. -/
def lenOf : Value → Nat
  | .slice _ n _ => n
  | _ => 0

set_option maxHeartbeats 800000 in
theorem RefItems_any (s : ByteArray) (w : World) (hs : s.size ≤ maxLen) :
    Calls Try.prog 29 #[.string s] w (ItemsEnd s.data.toList w) := by
  unfold maxLen at hs
  by_cases h : s.size < 2
  · have HI := Lib.hid (items_short (l := s.data.toList) (by rw [list_length]; exact h))
    go_enter Try.func29, Try.ntmps29
    go_wp2
    go_ret3
    exact itemsEnd_none HI.out (Below.refl _ _)
  · have h0 : 0 < s.size := by omega
    have h1 : 1 < s.size := by omega
    have b0 := PlainAid.bt_nonneg s 0
    have b1 := PlainAid.bt_nonneg s 1
    have c0 := PlainAid.bt_le s 0
    have c1 := PlainAid.bt_le s 1
    have hbt := PlainAid.get_bt s
    have h2 : (2 : Int) ≤ s.size := by omega
    obtain ⟨i0, hi0, hz0, hz1, hz2⟩ := info_parts Try.infoStr
    have Hi0 := Lib.hid hi0
    have Hz0 := Lib.hid hz0
    have Hz1 := Lib.hid hz1
    have Hz2 := Lib.hid hz2
    clear hi0 hz0 hz1 hz2
    go_enter Try.func29, Try.ntmps29
    go_wp2
    go_quiet (fail)
    have hd2 := dec_take_two s.data.toList
    have e := bt_two s h1
    obtain ⟨r0, hr0⟩ : ∃ r, r = s.data.toList.drop 2 := ⟨_, rfl⟩
    have HI : Hid (itemsOf s.data.toList = itemsGo (dec (s.data.toList.take 2)) r0) := Lib.hid (by rw [items_long (by rw [list_length]; omega), hr0])
    have HX0 : Hid (s.extract 2 s.size = str r0) := Lib.hid (by rw [hr0, extract_drop_str])
    have hrl : r0.length ≤ s.size := by rw [hr0, List.length_drop, list_length]; omega
    generalize dec (s.data.toList.take 2) = d at hd2 e HI
    rw [e]
    clear e hbt b0 b1 c0 c1 h0 h1 hr0
    go_wp2
    rw [HX0.out]
    go_loopw [0, 6] (fun rest v wr => ∃ (k : Nat) (A : Option Addr) (c : Nat) (xs : List (List UInt8)) (r : List UInt8), k ≤ d ∧ v = .slice A k c ∧ rest = .string (str r) ∧ r.length ≤ s.size ∧ wr.ownsRow w.heap.size 9 1 (.slice A k c) k (xs.map txt) ∧ Hid (xs.length = k) ∧ Hid (Going (itemsGo d r0) (d - k) xs r) ∧ Below w.heap.size w wr) (fun _ v _ => d - lenOf v)
    case atStart => exact ⟨0, none, 0, [], r0, by omega, rfl, rfl, hrl, World.ownsRow_nil _ _ _ _, Lib.hid rfl, Lib.hid (going_start _ _), below_drewN (Below.refl _ _) _⟩
    case round =>
      obtain ⟨k, A, c, xs, r, hk, rfl, rfl, hr, hown, HX, HG, hbel⟩ := hrel
      by_cases hlt : k < d
      · have hsr : (str r).size ≤ maxLen := by rw [str_size]; unfold maxLen; omega
        have HG2 : Hid (Going (itemsGo d r0) ((d - (k + 1)) + 1) xs r) := by rw [show d - (k + 1) + 1 = d - k from by omega]; exact HG
        by_cases ht : takeE r = 0
        · have HT := Lib.hid ht
          clear ht
          go_wp2_with (first
            | (go_at_call 24; refine (RefTake_any _ _ hsr).mono ?_; rintro e w2 ⟨rfl, hb2⟩; rw [str_list, HT.out]; have hown2 := own_below hown hb2)
            | (at_builtin; refine wpList_append_own_at _ rfl (.tmp 35) (.tmp 37) 45 rfl w.heap.size 9 i0 (.string ⟨#[]⟩) 1 16 Try.underlying45 Hi0.out Hz0.out Hz1.out Hz2.out rfl (by decide) _ k (xs.map txt) rfl (hown2.alloc _) ⟨w2.heap.size, 0, none⟩ 1 1 [txt (takeA r)] rfl rfl ?c1 ?c2 ?c3 ?c4 ?c5 ?_))
          case c1 => exact cell_one_new _ _ _
          case c2 => intro u hu; simp at hu; subst hu; rfl
          case c3 => unfold maxLen; omega
          case c4 => omega
          case c5 => have := hbel.size; have := hb2.size; simp; omega
          intro v3 w3 hown3 hg3 _ _
          rw [map_txt_snoc] at hown3
          have hbel2 : Below w.heap.size w (w2.alloc (.cells #[txt (takeA r)] 9)) := (below_next hbel (hb2.mono (Nat.le_refl _))).alloc (by have := hbel.size; have := hb2.size; omega) _
          have hbel3 : Below w.heap.size w w3 := hbel2.grown hg3 hbel2.size (fun g hg => (hown.lt g hg).1)
          have hlen : Hid ((xs ++ [takeA r]).length = k + 1) := Lib.hid (by rw [List.length_append, HX.out]; rfl)
          have HG3 := Lib.hid (going_step HG2.out HT.out)
          have hrl2 := takeR_le r
          obtain ⟨A3, c3, hv3, _, _⟩ := own_strs hown3
          subst hv3
          clear hg3 hown hown2 hb2 hbel hbel2 HG HG2 HX
          go_wp2
          go_roundw
          case rel => exact ⟨k + 1, A3, c3, xs ++ [takeA r], takeR r, by omega, rfl, rfl, by omega, hown3, hlen, HG3, hbel3⟩
          case measure => simp [lenOf]; omega
        · have HT := Lib.hid (takeE_two ht)
          have HW := Lib.hid (going_lack HG2.out ht)
          clear ht
          go_wp2_with (first
            | (go_at_call 24; refine (RefTake_any _ _ hsr).mono ?_; rintro e w2 ⟨rfl, hb2⟩; rw [str_list, HT.out]))
          go_ret3
          exact itemsEnd_none (HI.out.trans HW.out) (below_next hbel hb2)
      · have HG2 : Hid (Going (itemsGo d r0) 0 xs r) := by rw [show 0 = d - k from by omega]; exact HG
        have HW := Lib.hid (going_end HG2.out)
        go_wp2
        go_ret3
        exact itemsEnd_some (HI.out.trans HW.out) (by rw [HX.out]; exact hown) hbel

set_option maxHeartbeats 400000 in
theorem Same_yes (A1 A2 : Option Addr) (c1 c2 B1 B2 : Nat) (xs : List (List UInt8)) (w : World) (hn : xs.length ≤ maxLen) (h1 : Strs w B1 A1 xs) (h2 : Strs w B2 A2 xs) :
    Calls Try.prog 30 #[.slice A1 xs.length c1, .slice A2 xs.length c2] w fun e w' => e = .returned (.bool true) ∧ Below w.heap.size w w' := by
  unfold maxLen at hn
  generalize hl : xs.length = n at *
  have HL := Lib.hid hl
  clear hl
  go_enter Try.func30, Try.ntmps30
  go_wp2
  go_loopw [5] (fun i wr => ∃ k q : Nat, k ≤ n ∧ i = .int .i64 k ∧ wr = w.drewN q) (fun i _ => n - (intOf i).toNat)
  case atStart => exact ⟨0, 0, by omega, rfl, rfl⟩
  case round =>
    obtain ⟨k, q, hk, rfl, rfl⟩ := hrel
    by_cases hlt : k < n
    · have hkl : k < xs.length := by rw [HL.out]; exact hlt
      obtain ⟨x1, o1, rfl, _, hc1⟩ := h1.at_ hkl
      obtain ⟨x2, o2, rfl, _, hc2⟩ := h2.at_ hkl
      generalize xs[k] = x at hc1 hc2
      unfold txt at hc1 hc2
      have hi0 : (0 : Int) ≤ (k : Int) := by omega
      have hi1 : (k : Int) < (n : Int) := by omega
      clear h1 h2 hkl
      go_wp2
      go_quiet (fail)
      go_wp2
      go_roundw
      case rel => exact ⟨k + 1, q + nq, by omega, by go_num, rfl⟩
      case measure => simp [intOf]; omega
    · go_wp2
      go_ret
      exact ⟨rfl, below_drewN (Below.refl _ _) _⟩

set_option maxHeartbeats 800000 in
theorem OctetItems_walk (s : ByteArray) (w : World) (hs : s.size ≤ maxLen) :
    Calls Try.prog 8 #[.string s] w fun e w' => e = .returned (.bool true) ∧ Below w.heap.size w w' := by
  have hs' := hs
  unfold maxLen at hs
  by_cases h : 16384 < s.size
  · go_enter Try.func8, Try.ntmps8
    go_wp2_with (go_at_call 16; refine (awake_any _).mono ?_; rintro e w3 ⟨rfl, hb3⟩)
    go_ret
    exact ⟨rfl, hb3⟩
  · go_enter Try.func8, Try.ntmps8
    go_wp2_with fail
    refine (Items_any _ _ hs').mono ?_
    rintro e w1 ⟨v1, rfl, hown1, hb1⟩
    obtain ⟨A1, c1, hv1, _, hst1⟩ := own_strs hown1
    subst hv1
    go_wp2_with fail
    refine (RefItems_any _ _ hs').mono ?_
    rintro e w2 ⟨v2, rfl, hown2, hb2⟩
    obtain ⟨A2, c2, hv2, _, hst2⟩ := own_strs hown2
    subst hv2
    have hst1' := hst1.next hb2
    have hlen := own_len hown1
    clear hown1 hown2 hst1
    go_wp2_with (first
      | (go_at_call 30; refine (Same_yes _ _ _ _ _ _ _ _ hlen hst1' hst2).mono ?_; rintro e w3 ⟨rfl, hb3⟩)
      | (go_at_call 16; refine (awake_any _).mono ?_; rintro e w4 ⟨rfl, hb4⟩))
    go_ret
    exact ⟨rfl, below_next (below_next (below_next hb1 hb2) hb3) hb4⟩

end Go.Proofs.Ytpbfemfbihelpaa
