/- The contract of strings.Join with an empty text between, up to 2^48 bytes: the builder's room is laid once, and never grows. Where the whole has at most 2^47 bytes the library's contract serves. -/
import Derived.Test.YtlncedjgpndlpaaSegD
import Derived.Test.YtlncedjgpndlpaaShelf
import Derived.Test.YtlncedjgpndlpaaShelfJoin
import Derived.Shelf.Strings.Builder2Cap
namespace Go.Proofs.Ytlncedjgpndlpaa
open Go.RowKit

/-- A builder of the call's own whose buffer has room, and holds the bytes l. -/
def Room (B b room : Nat) (l : List UInt8) (w : World) : Prop :=
  ∃ g cap cur, B ≤ b ∧ b ≠ g ∧ B ≤ g ∧ w.heap[b]? = some (.cells #[.pointer (some ⟨b, 0, none⟩), .slice (some ⟨g, 0, none⟩) l.length cap] 58 (0, 0)) ∧
    w.heap[g]? = some (.cells cur 5 (0, 0)) ∧ cur.size = cap ∧ room ≤ cap ∧ cap ≤ maxLen ∧ cur.toList.take l.length = Lib.byteCells l

theorem Room.builder {B b room : Nat} {l : List UInt8} {w : World} (h : Room B b room l w) (hl : l.length ≤ room) : Lib.BuilderAt 58 5 B b (.pointer (some ⟨b, 0, none⟩)) (Lib.byteCells l) w := by
  obtain ⟨g, cap, cur, hB, hne, hg, hb, hr, hs, hc, hm, ht⟩ := h
  refine ⟨hB, _, hb, ?_, by simp [Value.ownBlock]; omega⟩
  rw [Lib.byteCells_length]
  exact ⟨by rw [Lib.byteCells_length, Nat.mul_one], .inr ⟨g, cap, cur, rfl, hg, hr, by omega, hm, by omega, by rw [Nat.mul_one]; exact ht⟩⟩

theorem Room.of {B b n : Nat} {w : World} {a : Option Addr} {cap : Nat} (h : Lib.BuilderAt 58 5 B b (.pointer (some ⟨b, 0, none⟩)) [] w) (hc : w.cell? ⟨b, 1, none⟩ = some (.slice a 0 cap)) (hn : n ≤ cap) (h0 : 0 < n) : Room B b n [] w := by
  obtain ⟨hB, v, hb, hown, hne⟩ := h
  have hv : v = .slice a 0 cap := by
    have := (Lib.cell_of_heap hb 1).symm.trans hc
    simpa using this
  subst hv
  rcases hown.2 with ⟨hv, _⟩ | ⟨g, cap', cur, hv, hg, hr, hle, hm, hs, ht⟩
  · injection hv with _ _ h3; omega
  · injection hv with h1 _ h3
    subst h1 h3
    exact ⟨g, cap, cur, hB, by intro e; exact hne (by simp [Value.ownBlock, e]), hg, hb, hr, by omega, hn, hm, by simp [Lib.byteCells]⟩

theorem wpList_append_room_text {P : Program} {w : World} {ops : Array Oper} {rest : List Oper} {o : Oper} {a : Act} {Q : Exit → Act → World → Prop} (hgd : o.guard = none) (sl x : Operand) (t u e : TypeId)
    (ho : o.op = .call { callee := .builtin .append, args := #[sl, x], argTypes := #[t, u] }) (i : TypeInfo) (ht : P.underlying t = some (.slice e)) (hu : P.underlying u = some .string) (hi : P.info? e = some i) (hs1 : i.size = 1)
    (g n cap : Nat) (cur : Array Value) (hs : a.eval sl = .slice (some ⟨g, 0, none⟩) n cap) (s : ByteArray) (hx : a.eval x = .string s) (hg : w.heap[g]? = some (.cells cur e (0, 0))) (hroom : n + s.size ≤ cap) (hfit : cap ≤ cur.size)
    (h : wpList P ops Q rest (a.put o.dst (.slice (some ⟨g, 0, none⟩) (n + s.size) cap)) (w.setRow g (cur.toList.take n ++ Lib.strCells s ++ cur.toList.drop (n + s.size)).toArray)) : wpList P ops Q (o :: rest) a w := by
  have hr := Lib.run_append_room_string (P := P) w t u o.type e i ht hu hi hs1 g n cap cur hg s hroom (by omega)
  refine wpList_plain hgd fun K hK => ?_
  unfold Oper.wp execOp
  simp only [ho, resolve, invoke, builtin, Sem.run_bind, Sem.run_pure, Result.andThen_ok, List.map_toArray, List.map_cons, List.map_nil, hs, hx, hr]
  exact hK _ _ h

theorem below_row {B g : Nat} {w w' : World} (h : Below B w w') (hg : B ≤ g) (cs : Array Value) : Below B w (w'.setRow g cs) :=
  h.trans ⟨rfl, rfl, rfl, by simp [World.setRow], fun k hk => setRow_other w' g k cs (by omega)⟩

set_option maxHeartbeats 2000000 in
set_option maxRecDepth 100000 in
theorem WriteString_room (B b room : Nat) (l : List UInt8) (s : ByteArray) (w : World) (h : Room B b room l w) (hl : l.length + s.size ≤ room) :
    Calls Try.prog 26 #[.pointer (some ⟨b, 0, none⟩), .string s] w fun e w' => e = .returned (.tuple #[.int .i64 s.size, .nilIface]) ∧ Room B b room (l ++ s.data.toList) w' ∧ Below B w w' := by
  obtain ⟨g, cap, cur, hB, hne, hBg, hb, hr, hs, hc, hm, ht⟩ := h
  have c0 : w.cell? ⟨b, 0, none⟩ = some (.pointer (some ⟨b, 0, none⟩)) := by rw [Lib.cell_of_heap hb]; rfl
  have c1 : w.cell? ⟨b, 1, none⟩ = some (.slice (some ⟨g, 0, none⟩) l.length cap) := by rw [Lib.cell_of_heap hb]; rfl
  have HCk := Lib.hid (Any.Builder_copyCheck_used { Try.lays166 with } Try.Builder_Extra_166.toX72 b w c0)
  obtain ⟨i0, hi0, hz0, hz1, hz2⟩ := info_parts Try.infoByte
  have hlen : (l ++ s.data.toList).length = l.length + s.size := by rw [List.length_append, list_length]
  obtain ⟨R, hR⟩ : ∃ R, (cur.toList.take l.length ++ Lib.strCells s ++ cur.toList.drop (l.length + s.size)).toArray = R := ⟨_, rfl⟩
  have hR1 : R.size = cap := by
    rw [← hR]; simp only [List.size_toArray, List.length_append, List.length_take, List.length_drop, Array.length_toList, Lib.strCells_length]; omega
  have hR2 : R.toList.take (l.length + s.size) = Lib.byteCells (l ++ s.data.toList) := by
    rw [← hR, ht, Lib.byteCells_append]
    have e : (Lib.byteCells l ++ Lib.strCells s).length = l.length + s.size := by rw [List.length_append, Lib.byteCells_length, Lib.strCells_length]
    rw [← e]
    exact List.take_left
  have hbk : (w.setRow g R).heap[b]? = some (.cells #[.pointer (some ⟨b, 0, none⟩), .slice (some ⟨g, 0, none⟩) l.length cap] 58 (0, 0)) := by rw [setRow_other w g b _ hne]; exact hb
  have hgk := setRow_heap w g cur R 5 (0, 0) hr
  obtain ⟨W, hW⟩ : ∃ W, w.setRow g R = W := ⟨_, rfl⟩
  have HBel : Hid (Below B w W) := Lib.hid (by rw [← hW]; exact below_row (Below.refl _ _) hBg _)
  rw [hW] at hbk hgk
  have d0 : W.cell? ⟨b, 0, none⟩ = some (.pointer (some ⟨b, 0, none⟩)) := by rw [Lib.cell_of_heap hbk]; rfl
  have d1 : W.cell? ⟨b, 1, none⟩ = some (.slice (some ⟨g, 0, none⟩) l.length cap) := by rw [Lib.cell_of_heap hbk]; rfl
  have f1 : W.frozen? ⟨b, 1, none⟩ = false := Lib.frozen_of_heap hbk 1
  have HEnd : Hid (Room B b room (l ++ s.data.toList) (W.setCell ⟨b, 1, none⟩ (.slice (some ⟨g, 0, none⟩) (l.length + s.size) cap)) ∧ Below B w (W.setCell ⟨b, 1, none⟩ (.slice (some ⟨g, 0, none⟩) (l.length + s.size) cap))) := Lib.hid (by
    refine ⟨⟨g, cap, R, hB, hne, hBg, ?_, ?_, hR1, hc, hm, by rw [hlen]; exact hR2⟩, HBel.out.setCell (p := ⟨b, 1, none⟩) hB _⟩
    · rw [hlen]; simp [World.setCell, Array.getElem?_modify, hbk]
    · rw [← hgk]; exact Below.heap_setCell _ _ _ _ (by simpa using hne.symm))
  have Hr := Lib.hid hr
  have HW : Hid (w.setRow g (cur.toList.take l.length ++ Lib.strCells s ++ cur.toList.drop (l.length + s.size)).toArray = W) := Lib.hid (by rw [hR, hW])
  have hfit : l.length + s.size ≤ cap := by omega
  clear hR hR1 hR2 hgk hbk hW HBel hlen hb hr ht hc
  go_enter Try.func26, Try.ntmps26
  go_wp2_with (first
    | (go_at_call 31; refine HCk.out.mono ?_; rintro e w1 ⟨rfl, rfl⟩)
    | (at_builtin; refine wpList_append_room_text rfl (.tmp 12) (.tmp 13) 31 9 5 rfl i0 Try.underlying31 Try.underlying9 hi0 hz1 g l.length cap cur rfl s rfl Hr.out hfit (by omega) ?_; rw [HW.out]))
  go_ret2
  exact ⟨rfl, HEnd.out⟩

theorem join_none (xs : List (List UInt8)) : Lib.join xs [] = xs.flatten := by
  match xs with
  | [] => rfl
  | x :: r =>
    rw [Lib.join_cons, List.flatten_cons]
    congr 1
    induction r with
    | nil => rfl
    | cons y r ih => simp [Lib.joinTail] at ih ⊢

theorem flat_total (xs : List (List UInt8)) : xs.flatten.length = total xs := by
  induction xs with
  | nil => rfl
  | cons x r ih => simp [total] at ih ⊢

/-- At most 2^47 bytes. -/
theorem Join_small (xs : List (List UInt8)) (A : Option Addr) (n cap : Nat) (w : World) (hn : xs.length = n) (hc : n ≤ cap) (hA : Strs w w.heap.size A xs) (h1 : n ≤ 100000) (h2 : xs.flatten.length ≤ 140737488355328) :
    Calls Try.prog 21 #[.slice A n cap, .string ⟨#[]⟩] w fun e w' => e = .returned (.string (str xs.flatten)) ∧ Below w.heap.size w w' := by
  subst hn
  by_cases hx : xs = []
  · subst hx
    exact (Any.strings_Join_none Try.lays156 Try.Builder_Extra_156 A cap ⟨#[]⟩ w).mono fun e w' ⟨he, hw⟩ => ⟨he, hw ▸ Below.refl _ _⟩
  · have h0 : 0 < xs.length := List.length_pos_iff.2 hx
    obtain ⟨b, off, rfl, hb, _⟩ := hA.at_ h0
    have hm : (xs.map str).map (fun s : ByteArray => s.data.toList) = xs := by rw [List.map_map]; exact (List.map_congr_left (fun x _ => str_list x)).trans (List.map_id _)
    have hj : Lib.join ((xs.map str).map (fun s : ByteArray => s.data.toList)) (ByteArray.mk #[]).data.toList = xs.flatten := by rw [hm]; exact join_none xs
    have := Any.strings_Join Try.lays156 Try.Builder_Extra_156 b off cap (xs.map str) ⟨#[]⟩ w (fun j x hjx => by
      obtain ⟨hj1, hj2⟩ := List.getElem?_eq_some_iff.1 hjx
      have hj3 : j < xs.length := by simpa using hj1
      obtain ⟨b', off', he, _, hcell⟩ := hA.at_ hj3
      injection he with he
      injection he with he1 he2
      subst he1 he2
      rw [hcell]
      rw [List.getElem_map] at hj2
      rw [← hj2]; rfl) hb (by rw [List.length_map]; omega) (by rw [List.length_map]; exact hc) (by rw [hj]; exact h2)
    rw [hj, List.length_map] at this
    exact this

set_option maxHeartbeats 2000000 in
set_option maxRecDepth 100000 in
/-- Two texts or more, more than 2^47 bytes. -/
theorem Join_great (xs : List (List UInt8)) (A : Option Addr) (n cap : Nat) (w : World) (hn : xs.length = n) (hc : n ≤ cap) (hA : Strs w w.heap.size A xs) (h0 : 2 ≤ n) (h1 : n ≤ 100000) (h2 : total xs ≤ 281474976710656) (h3 : 0 < total xs) :
    Calls Try.prog 21 #[.slice A n cap, .string ⟨#[]⟩] w fun e w' => e = .returned (.string (str xs.flatten)) ∧ Below w.heap.size w w' := by
  obtain ⟨b, off, rfl, hb, hc00⟩ := hA.at_ (k := 0) (by omega)
  clear hc00
  have HA : Hid (∀ (k : Nat) (hk : k < xs.length) (w' : World), Below w.heap.size w w' → w'.cell? ⟨b, off + k, none⟩ = some (.string (str xs[k]))) := Lib.hid (fun k hk w' hbel => by
    obtain ⟨b', off', he, _, hcell⟩ := (hA.below hbel).at_ hk
    injection he with he
    injection he with he1 he2
    subst he1 he2
    exact hcell)
  have HL := Lib.hid hn
  have hne0 : ((n : Int) == 0) = false := beq_eq_false_iff_ne.2 (by omega)
  have hne1 : ((n : Int) == 1) = false := beq_eq_false_iff_ne.2 (by omega)
  have hcap1 : ¬ cap = 1 := by omega
  have HTake : Hid (∀ k (hk : k < xs.length), total (xs.take (k + 1)) = total (xs.take k) + (str xs[k]).size ∧ total (xs.take (k + 1)) ≤ total xs) := Lib.hid (fun k hk => ⟨by rw [total_take hk, str_size], total_take_le _ _⟩)
  obtain ⟨T, hT⟩ : ∃ T, total xs = T := ⟨_, rfl⟩
  rw [hT] at h2 h3 HTake
  have HT := Lib.hid hT
  clear hA hn hT
  go_enter Try.func21, Try.ntmps21
  go_wp2
  go_loop [5, 41] (fun z i => ∃ k t : Nat, k ≤ n ∧ i = .int .i64 k ∧ z = .int .i64 t ∧ t ≤ 281474976710656 ∧ Hid (t = total (xs.take k))) (fun _ i => n - (intOf i).toNat)
  case atStart => exact ⟨0, 0, by omega, rfl, rfl, by omega, Lib.hid (by simp [total])⟩
  case round =>
    obtain ⟨k, t, hk, rfl, rfl, ht, HTt⟩ := hrel
    by_cases hlt : k < n
    · have hkl : k < xs.length := by rw [HL.out]; exact hlt
      have hcx := HA.out k hkl w (Below.refl _ _)
      obtain ⟨ha, hb2⟩ := HTake.out k hkl
      have ht2 : t + (str xs[k]).size ≤ 281474976710656 := by rw [HTt.out]; omega
      have HT2 : Hid (t + (str xs[k]).size = total (xs.take (k + 1))) := Lib.hid (by rw [HTt.out, ha])
      clear ha hb2
      generalize str xs[k] = S at *
      clear hkl
      go_wp2
      go_round
      case rel => exact ⟨k + 1, t + S.size, by omega, by go_num, by go_num, ht2, HT2⟩
      case measure => simp [intOf]; omega
    · have hkn : k = n := by omega
      subst hkn
      have htT : t = T := by rw [HTt.out, ← HT.out, List.take_of_length_le (by rw [HL.out]; exact Nat.le_refl _)]
      subst htT
      clear hlt HTt
      have hnew : Hid ((w.alloc (.cells #[.pointer none, .slice none 0 0] 58)).heap[w.heap.size]? = some (.cells #[.pointer none, .slice none 0 0] 58 (0, 0))) := Lib.hid (heap_alloc_new w _)
      go_wp2_with fail
      refine (Any.Builder_Grow_fresh_cap Try.lays165 Try.Builder_Extra_165 w.heap.size w.heap.size t _ (Nat.le_refl _) hnew.out (by simp) ht).mono ?_
      rintro e w1 ⟨rfl, ⟨hg1, hbel1⟩, a1, cap1, hc1, hle1⟩
      have hR1 := Lib.hid (Room.of hg1 hc1 hle1 h3)
      have HB1 : Hid (Below w.heap.size w w1) := Lib.hid (((Below.refl _ _).alloc (Nat.le_refl _) _).trans hbel1)
      clear hg1 hc1 hle1 hbel1 hnew
      have hk0 : 0 < xs.length := by rw [HL.out]; omega
      have hc0 := HA.out 0 hk0 w1 HB1.out
      rw [Nat.add_zero] at hc0
      have hz0 : Hid ([] ++ (str xs[0]).data.toList = (xs.take 1).flatten) := Lib.hid (by
        rw [List.take_succ_eq_append_getElem hk0]; simp [str_list])
      have hz1 : (str xs[0]).size ≤ t := by
        obtain ⟨ha, hb2⟩ := HTake.out 0 hk0
        have e : total (xs.take 0) = 0 := by simp [total]
        omega
      generalize str xs[0] = S0 at *
      clear hk0
      go_wp2_with fail
      refine (WriteString_room w.heap.size w.heap.size t [] S0 w1 hR1.out (by simpa using hz1)).mono ?_
      rintro e w2 ⟨rfl, hr2, hbel2⟩
      rw [hz0.out] at hr2
      have HR2 := Lib.hid hr2
      have HB2 := Lib.hid (HB1.out.trans hbel2)
      clear hr2 hbel2 hc0 hR1 HB1 hz0 hz1
      go_wp2_with fail
      go_loopw [65] (fun i wr => ∃ q : Nat, q + 1 ≤ k ∧ i = .int .i64 q ∧ Hid (Room w.heap.size w.heap.size t (xs.take (q + 1)).flatten wr) ∧ Hid (Below w.heap.size w wr)) (fun i _ => k - (intOf i).toNat)
      case atStart => exact ⟨0, by omega, rfl, HR2, HB2⟩
      case round =>
        obtain ⟨q, hq, rfl, HR, HB⟩ := hrel
        by_cases hlt : q + 1 < k
        · have hkl : q + 1 < xs.length := by rw [HL.out]; exact hlt
          have hcx := HA.out (q + 1) hkl wr HB.out
          rw [show off + (q + 1) = off + 1 + q from by omega] at hcx
          obtain ⟨ha, hb2⟩ := HTake.out (q + 1) hkl
          have hfl : (xs.take (q + 1)).flatten.length + (str xs[q + 1]).size ≤ t := by rw [flat_total]; omega
          have hst : Hid ((xs.take (q + 1)).flatten ++ (str xs[q + 1]).data.toList = (xs.take (q + 1 + 1)).flatten) := Lib.hid (by
            rw [List.take_succ_eq_append_getElem hkl, List.flatten_append, str_list, List.flatten_cons, List.flatten_nil, List.append_nil])
          clear ha hb2
          generalize str xs[q + 1] = S at *
          clear hkl
          go_wp2_with fail
          refine (WriteString_room w.heap.size w.heap.size t _ ⟨#[]⟩ wr HR.out (by have : (ByteArray.mk #[]).size = 0 := rfl; omega)).mono ?_
          rintro e w3 ⟨rfl, hr3, hbel3⟩
          rw [show (ByteArray.mk #[]).data.toList = [] from rfl, List.append_nil] at hr3
          have HR3 := Lib.hid hr3
          have HB3 := Lib.hid (HB.out.trans hbel3)
          clear hr3 hbel3 HR HB
          go_wp2_with fail
          refine (WriteString_room w.heap.size w.heap.size t _ S w3 HR3.out hfl).mono ?_
          rintro e w4 ⟨rfl, hr4, hbel4⟩
          rw [hst.out] at hr4
          have HR4 := Lib.hid hr4
          have HB4 := Lib.hid (HB3.out.trans hbel4)
          clear hr4 hbel4 HR3 HB3 hst hfl hcx
          go_wp2
          go_roundw
          case rel => exact ⟨q + 1, by omega, by go_num, HR4, HB4⟩
          case measure => simp [intOf]; omega
        · have hqk : q + 1 = k := by omega
          have hall : xs.take (q + 1) = xs := List.take_of_length_le (by rw [HL.out]; omega)
          rw [hall] at HR
          have hle : xs.flatten.length ≤ t := by rw [flat_total, HT.out]; exact Nat.le_refl _
          have HBu := Lib.hid (HR.out.builder hle)
          clear hall hle HR
          go_wp2_with fail
          refine (Try.Builder_String_any w.heap.size w.heap.size _ _ (.inr HBu.out) HB.out.size).mono ?_
          rintro e w4 ⟨rfl, hbel4⟩
          go_wp2
          go_ret
          exact ⟨rfl, HB.out.trans hbel4⟩

/-- strings.Join with an empty text between, up to 2^48 bytes. -/
theorem JoinS_any (xs : List (List UInt8)) (A : Option Addr) (n cap : Nat) (w : World) (hn : xs.length = n) (hc : n ≤ cap) (hA : Strs w w.heap.size A xs) (h1 : n ≤ 100000) (h2 : total xs ≤ 281474976710656) :
    Calls Try.prog 21 #[.slice A n cap, .string ⟨#[]⟩] w fun e w' => e = .returned (.string (str xs.flatten)) ∧ Below w.heap.size w w' := by
  by_cases hs : xs.flatten.length ≤ 140737488355328
  · exact Join_small xs A n cap w hn hc hA h1 hs
  · have hs' : 140737488355328 < total xs := by rw [← flat_total]; omega
    by_cases h0 : 2 ≤ n
    · exact Join_great xs A n cap w hn hc hA h0 h1 h2 (by omega)
    · match xs, hn, hA, hs' with
      | [], _, _, h => simp [total] at h
      | [x], hn, hA, _ =>
        subst hn
        obtain ⟨b, off, rfl, hb, hcell⟩ := hA.at_ (k := 0) (by simp)
        refine (Any.strings_Join_one Try.lays156 Try.Builder_Extra_156 b off cap (str x) ⟨#[]⟩ w hcell).mono fun e w' ⟨he, hw⟩ => ⟨?_, hw ▸ Below.refl _ _⟩
        rw [he]; simp
      | x :: y :: r, hn, _, _ => simp at hn; omega
end Go.Proofs.Ytlncedjgpndlpaa
