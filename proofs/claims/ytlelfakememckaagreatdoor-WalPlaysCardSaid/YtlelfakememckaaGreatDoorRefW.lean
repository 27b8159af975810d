/- Contract of Write of counterfoilref05, over all disks. -/
import Derived.Test.YtlelfakememckaaGreatDoorRefR
namespace Go.Proofs.YtlelfakememckaaGreatDoor
open Go.RowKit

/-- What Write and Flush leave. -/
def RefRet (fA0 aA0 wA0 : Option Addr) (d : DSt) (code : Int) (w : World) (e : Ending) (w' : World) : Prop :=
  ∃ fA fc aA ac wA wc, e = .returned (.tuple #[.agg #[.slice fA d.firm.length fc, .slice aA d.loose.length ac, .slice wA d.loose.length wc, .int .i64 d.leftR, .bool d.off], .int .i64 code]) ∧ RefAt w' w'.heap.size d.firm d.loose fA aA ac wA wc ∧ Below w.heap.size w w' ∧ RefFresh w.heap.size fA0 aA0 wA0 fA aA wA

theorem refRet_same {d : DSt} {w w' : World} {fA aA wA : Option Addr} {fc ac wc : Nat} (h : RefAt w w.heap.size d.firm d.loose fA aA ac wA wc) (hb : Below w.heap.size w w') (c : Int) :
    RefRet fA aA wA d c w (.returned (.tuple #[.agg #[.slice fA d.firm.length fc, .slice aA d.loose.length ac, .slice wA d.loose.length wc, .int .i64 d.leftR, .bool d.off], .int .i64 c])) w' :=
  ⟨fA, fc, aA, ac, wA, wc, rfl, h.next hb, hb, fun _ _ h => .inr h⟩

theorem five_first (w : World) (a b c d e : Value) : Five ((w.alloc (.cells #[a, b, c, d, e] 30)).alloc (.cells #[.slice none 0 0, .slice none 0 0, .slice none 0 0, .int .i64 0, .bool false] 30)) w.heap.size a b c d e ∧
    Five ((w.alloc (.cells #[a, b, c, d, e] 30)).alloc (.cells #[.slice none 0 0, .slice none 0 0, .slice none 0 0, .int .i64 0, .bool false] 30)) (w.heap.size + 1) (.slice none 0 0) (.slice none 0 0) (.slice none 0 0) (.int .i64 0) (.bool false) ∧
    Below w.heap.size w ((w.alloc (.cells #[a, b, c, d, e] 30)).alloc (.cells #[.slice none 0 0, .slice none 0 0, .slice none 0 0, .int .i64 0, .bool false] 30)) :=
  ⟨(Five.new _ _ _ _ _ _).alloc _, by have := Five.new (w.alloc (.cells #[a, b, c, d, e] 30)) (.slice none 0 0) (.slice none 0 0) (.slice none 0 0) (.int .i64 0) (.bool false); simpa using this, ((Below.refl _ _).alloc (Nat.le_refl _) _).alloc (by simp) _⟩

theorem DSt.Ok.firm_pos {d : DSt} (h : d.Ok) : 0 < d.firm.length ∧ d.firm.length ≤ 4096 := by rw [h.len]; exact ⟨h.pos, h.le⟩

set_option maxHeartbeats 4000000 in
set_option maxRecDepth 100000 in
theorem RefWrite_any {w : World} {d : DSt} (ho : d.Ok) {fA aA wA : Option Addr} {fc ac wc : Nat} (h : RefAt w w.heap.size d.firm d.loose fA aA ac wA wc) (hl : d.loose.length ≤ 1000000) (i : Int) (s : ByteArray) (hs : s.size ≤ 9223372036854775807) :
    Calls Tryz.prog 76 #[.agg #[.slice fA d.firm.length fc, .slice aA d.loose.length ac, .slice wA d.loose.length wc, .int .i64 d.leftR, .bool d.off], .int .i64 i, .string s] w (RefRet fA aA wA (d.writeD i s.data.toList) (d.writeE i s.data.toList) w) := by
  obtain ⟨hpos, hle⟩ := ho.firm_pos
  have hne : ((d.firm.length : Int) == 0) = false := by rw [beq_eq_false_iff_ne]; omega
  have HR := Lib.hid h
  by_cases hoff : d.off = true
  · have e1 : d.writeE i s.data.toList = 7 := by unfold DSt.writeE; rw [if_pos hoff]
    have e2 : d.writeD i s.data.toList = d := by unfold DSt.writeD; rw [if_pos (.inl hoff)]
    rw [e1, e2]
    have HE : Hid (∀ w', Below w.heap.size w w' → RefRet fA aA wA d 7 w (.returned (.tuple #[.agg #[.slice fA d.firm.length fc, .slice aA d.loose.length ac, .slice wA d.loose.length wc, .int .i64 d.leftR, .bool true], .int .i64 7])) w') := Lib.hid (fun w' hb => by have := refRet_same (fc := fc) h hb 7; rwa [hoff] at this)
    rw [hoff]
    clear e1 e2 h hoff
    go_enter Tryz.func76, Tryz.ntmps76
    go_wp2
    exact bodyPost_ret (v := .tuple #[.agg #[.slice fA d.firm.length fc, .slice aA d.loose.length ac, .slice wA d.loose.length wc, .int .i64 d.leftR, .bool true], .int .i64 7]) (by simp [results, Tryz.results76, go_sem]) rfl (HE.out _ (((Below.refl _ _).alloc (Nat.le_refl _) _).alloc (by simp) _))
  have hoff' : d.off = false := by simpa using hoff
  by_cases hi : d.has i = false
  · have e1 : d.writeE i s.data.toList = 1 := by unfold DSt.writeE; rw [if_neg hoff, if_pos hi]
    have e2 : d.writeD i s.data.toList = d := by unfold DSt.writeD; rw [if_pos (.inr (.inl hi))]
    rw [e1, e2]
    have HE : Hid (∀ w', Below w.heap.size w w' → RefRet fA aA wA d 1 w (.returned (.tuple #[.agg #[.slice fA d.firm.length fc, .slice aA d.loose.length ac, .slice wA d.loose.length wc, .int .i64 d.leftR, .bool false], .int .i64 1])) w') := Lib.hid (fun w' hb => by have := refRet_same (fc := fc) h hb 1; rwa [hoff'] at this)
    rw [hoff']
    rw [DSt.has_not, ← ho.len] at hi
    clear e1 e2 h hoff hoff'
    by_cases h0 : i < 0
    · clear hi
      go_enter Tryz.func76, Tryz.ntmps76
      go_wp2
      exact bodyPost_ret (v := .tuple #[.agg #[.slice fA d.firm.length fc, .slice aA d.loose.length ac, .slice wA d.loose.length wc, .int .i64 d.leftR, .bool false], .int .i64 1]) (by simp [results, Tryz.results76, go_sem]) rfl (HE.out _ (((Below.refl _ _).alloc (Nat.le_refl _) _).alloc (by simp) _))
    · have h0' : decide (i < 0) = false := by simpa using h0
      have h1 : (d.firm.length : Int) ≤ i := by omega
      clear hi
      go_enter Tryz.func76, Tryz.ntmps76
      go_wp2
      exact bodyPost_ret (v := .tuple #[.agg #[.slice fA d.firm.length fc, .slice aA d.loose.length ac, .slice wA d.loose.length wc, .int .i64 d.leftR, .bool false], .int .i64 1]) (by simp [results, Tryz.results76, go_sem]) rfl (HE.out _ (((Below.refl _ _).alloc (Nat.le_refl _) _).alloc (by simp) _))
  have hhas : d.has i = true := by simpa using hi
  have hin := (d.has_iff i).1 hhas
  rw [← ho.len] at hin
  obtain ⟨j, rfl⟩ := Int.eq_ofNat_of_zero_le hin.1
  have h0' : decide ((j : Int) < 0) = false := by rw [decide_eq_false_iff_not]; omega
  have h1' : decide ((d.firm.length : Int) ≤ (j : Int)) = false := by rw [decide_eq_false_iff_not]; omega
  have hjn : j < d.firm.length := by omega
  by_cases h32 : 32 < s.size
  · have e1 : d.writeE (j : Int) s.data.toList = 5 := by unfold DSt.writeE; rw [if_neg hoff, if_neg hi, if_pos (by rw [list_length]; exact h32)]
    have e2 : d.writeD (j : Int) s.data.toList = d := by unfold DSt.writeD; rw [if_pos (.inr (.inr (by rw [list_length]; exact h32)))]
    rw [e1, e2]
    have HE : Hid (∀ w', Below w.heap.size w w' → RefRet fA aA wA d 5 w (.returned (.tuple #[.agg #[.slice fA d.firm.length fc, .slice aA d.loose.length ac, .slice wA d.loose.length wc, .int .i64 d.leftR, .bool false], .int .i64 5])) w') := Lib.hid (fun w' hb => by have := refRet_same (fc := fc) h hb 5; rwa [hoff'] at this)
    rw [hoff']
    clear e1 e2 h hoff hoff' hi hhas hin
    go_enter Tryz.func76, Tryz.ntmps76
    go_wp2
    exact bodyPost_ret (v := .tuple #[.agg #[.slice fA d.firm.length fc, .slice aA d.loose.length ac, .slice wA d.loose.length wc, .int .i64 d.leftR, .bool false], .int .i64 5]) (by simp [results, Tryz.results76, go_sem]) rfl (HE.out _ (((Below.refl _ _).alloc (Nat.le_refl _) _).alloc (by simp) _))
  have hs32 : s.size ≤ 32 := by omega
  have h32' : decide (32 < (s.size : Int)) = false := by rw [decide_eq_false_iff_not]; omega
  have hleft := ho.leftR
  have HL0 : Hid (d.leftR = 0 → d.writeE (j : Int) s.data.toList = 7 ∧ d.writeD (j : Int) s.data.toList = { d with off := true }) := Lib.hid (fun h0 => by
    obtain ⟨h1, h2⟩ := spent_no h0
    unfold DSt.writeE DSt.writeD
    have hn32 : ¬ 32 < s.data.toList.length := by rw [list_length]; omega
    rw [if_neg hoff, if_neg hi, if_neg hn32, if_neg (by rw [h2]; simp), if_neg (by simp [hoff', hhas]; omega), if_neg (by rw [h2]; simp)]
    exact ⟨rfl, h1⟩)
  have HL1 : Hid (d.leftR ≠ 0 → d.writeE (j : Int) s.data.toList = 0 ∧ (d.writeD (j : Int) s.data.toList).firm = d.firm ∧ (d.writeD (j : Int) s.data.toList).loose = d.loose ++ [(j, padB s.data.toList)] ∧ (d.writeD (j : Int) s.data.toList).off = false ∧ (d.writeD (j : Int) s.data.toList).leftR = if 0 < d.leftR then d.leftR - 1 else d.leftR) := Lib.hid (fun h0 => by
    have h2 := lasts_iff.2 h0
    obtain ⟨s1, s2⟩ := spent_yes h0 ho
    unfold DSt.writeE DSt.writeD
    have hn32 : ¬ 32 < s.data.toList.length := by rw [list_length]; omega
    rw [if_neg hoff, if_neg hi, if_neg hn32, if_pos h2, if_neg (by simp [hoff', hhas]; omega), if_pos h2]
    refine ⟨rfl, d.spent_firm, ?_, s2.trans hoff', s1⟩
    show d.spent.loose ++ _ = _
    rw [d.spent_loose]; rfl)
  have HPad : Hid (s.data.toList.length ≤ 32) := Lib.hid (by rw [list_length]; omega)
  rw [hoff']
  obtain ⟨L, hL⟩ : ∃ L, d.leftR = L := ⟨_, rfl⟩
  have HLd := Lib.hid hL
  rw [hL] at hleft HL0 HL1 ⊢
  have HNil : Hid (d.loose = [] → aA = none ∧ ac = 0 ∧ wA = none ∧ wc = 0) := Lib.hid h.none_
  clear hi hhas hin hoff hoff' hL ho h h32
  obtain ⟨f1, f2, f3⟩ := five_first w (.slice fA d.firm.length fc) (.slice aA d.loose.length ac) (.slice wA d.loose.length wc) (.int .i64 L) (.bool false)
  have HF1 := Lib.hid f1
  have HF2 := Lib.hid f2
  have HF3 := Lib.hid f3
  have HR0 := Lib.hid (HR.out.next f3)
  clear f1 f2 f3
  go_enter Tryz.func76, Tryz.ntmps76
  go_wp2_with fail
  refine (RefCopy_any HR0.out hpos hle (by omega) L false).mono ?_
  rintro e w1 ⟨fA1, fc1, aA1, ac1, wA1, wc1, rfl, hown1, hb1⟩
  have HN1 := Lib.hid hown1.none_
  have HS := Lib.hid (st3_copy HF1.out HF2.out HF3.out (by simp) hown1 hb1 L false)
  have H51 := Lib.hid (HF1.out.below hb1 (heap_lt HF1.out))
  clear HF1 HF2 HF3 hown1 hb1
  obtain ⟨c0, c1, c2, c3, c4, hf⟩ := H51.out.cells
  go_wp2_with fail
  by_cases h0 : L = 0
  · subst h0
    refine (RefSpend_any d.firm.length d.loose.length fA1 fc1 aA1 ac1 wA1 wc1 0 false hleft.1 hleft.2 _).mono ?_
    rintro e w2 ⟨rfl, hb2⟩
    have HS2 := Lib.hid (HS.out.below hb2)
    clear HS H51 c0 c1 c2 c3 c4 hf hb2 HL1
    obtain ⟨c0, c1, c2, c3, c4, hf⟩ := HS2.out.d.cells
    obtain ⟨r0, r1, r2, r3, r4, rf⟩ := HS2.out.r.cells
    rw [show (if (0 : Int) < 0 then (0 : Int) - 1 else 0) = 0 from rfl, show (if (0 : Int) = 0 then true else false) = true from rfl, show decide ((0 : Int) ≠ 0) = false from rfl]
    go_wp2_with fail
    exact bodyPost_ret (v := .tuple #[.agg #[.slice fA1 d.firm.length fc1, .slice aA1 d.loose.length ac1, .slice wA1 d.loose.length wc1, .int .i64 0, .bool true], .int .i64 7]) (by simp [results, Tryz.results76, go_sem, r0, r1, r2, r3, r4]) rfl (by
      obtain ⟨e1, e2⟩ := HL0.out trivial
      rw [e1, e2]
      obtain ⟨h1, h2⟩ := (HS2.out.store5 0 true).last HN1.out _ _ _ _ _ rfl
      exact ⟨fA1, fc1, aA1, ac1, wA1, wc1, by rw [show ({ d with off := true } : DSt).leftR = d.leftR from rfl, HLd.out], h1, h2, HS2.out.fresh _ _ _⟩)
  · refine (RefSpend_any d.firm.length d.loose.length fA1 fc1 aA1 ac1 wA1 wc1 L false hleft.1 hleft.2 _).mono ?_
    rw [if_neg h0, show decide (L ≠ 0) = true from by simpa using h0]
    obtain ⟨e1, e2, e3, e4, e5⟩ := HL1.out h0
    obtain ⟨L', hL'⟩ : ∃ L', (if 0 < L then L - 1 else L) = L' := ⟨_, rfl⟩
    rw [hL'] at e5 ⊢
    have HE : Hid (d.writeE (j : Int) s.data.toList = 0 ∧ (d.writeD (j : Int) s.data.toList).firm = d.firm ∧ (d.writeD (j : Int) s.data.toList).loose = d.loose ++ [(j, padB s.data.toList)] ∧ (d.writeD (j : Int) s.data.toList).off = false ∧ (d.writeD (j : Int) s.data.toList).leftR = L') := Lib.hid ⟨e1, e2, e3, e4, e5⟩
    rintro e w2 ⟨rfl, hb2⟩
    have HS2 := Lib.hid (HS.out.below hb2)
    have HS3 := Lib.hid (HS2.out.store5 L' false)
    clear HS H51 c0 c1 c2 c3 c4 hf hb2 HL1 HL0 e1 e2 e3 e4 e5 hL' h0
    obtain ⟨c0, c1, c2, c3, c4, hf⟩ := HS2.out.d.cells
    obtain ⟨i0, hi0, hz0, hz1, hz2⟩ := info_parts Tryz.infoStr5
    obtain ⟨i1, hi1, hy0, hy1, hy2⟩ := info_parts Tryz.infoInt5
    have hsV : w.heap.size + 2 ≤ w2.heap.size := HS2.out.size
    go_wp2_with (at_builtin; refine wpList_append_lies _ rfl (.tmp 43) (.tmp 45) 28 rfl (w.heap.size + 2) 3 i1 (.int .i64 0) 1 8 Tryz.underlying28 hi1 hy0 hy1 hy2 rfl (by decide) (.slice aA1 d.loose.length ac1) d.loose.length (d.loose.map atV) rfl (HS3.out.oa.alloc _) ⟨w2.heap.size, 0, none⟩ 1 1 [.int .i64 (j : Int)] rfl rfl ?c1 ?c2 (by omega) ?c3 ?c4 ?c5 (w2.heap.size + 1) (by simp) ?_)
    case c1 => have := cell_one_new (((((w2.setCell ⟨w.heap.size, 0, none⟩ (.slice fA1 d.firm.length fc1)).setCell ⟨w.heap.size, 1, none⟩ (.slice aA1 d.loose.length ac1)).setCell ⟨w.heap.size, 2, none⟩ (.slice wA1 d.loose.length wc1)).setCell ⟨w.heap.size, 3, none⟩ (.int .i64 L')).setCell ⟨w.heap.size, 4, none⟩ (.bool false)) (.int .i64 (j : Int)) 3; simpa using this
    case c2 => intro u hu; simp at hu; subst hu; rfl
    case c3 => unfold maxLen; omega
    case c4 => omega
    case c5 => simp; omega
    intro b cap w3 hown hg hat hlt3
    have HS4 := Lib.hid (HS3.out.appA hown hg (hat.imp id (fun h => by simpa using h)))
    clear hown hg hat hlt3 c0 c1 c2 c3 c4 hf HS2 HS3
    obtain ⟨c0, c1, c2, c3, c4, hf⟩ := HS4.out.1.cells
    go_wp2_with fail
    clear c0 c1 c2 c3 c4 hf
    have HS5 := Lib.hid HS4.out.2.2
    clear HS4
    generalize w3.setCell ⟨w.heap.size, 1, none⟩ (.slice (some ⟨b, 0, none⟩) (d.loose.length + 1) cap) = V at *
    obtain ⟨P, hP⟩ : ∃ P, str (padB s.data.toList) = P := ⟨_, rfl⟩
    have HP := Lib.hid hP
    obtain ⟨c0, c1, c2, c3, c4, hf⟩ := HS5.out.d.cells
    have ne2 : (V.alloc (.cells #[.string P] 9)).cell? ⟨w.heap.size, 2, none⟩ = some (.slice wA1 d.loose.length wc1) := (HS5.out.d.alloc _).cells.2.2.1
    have hsz := HS5.out.size
    have hownd : (V.alloc (.cells #[.string P] 9)).drew.ownsRow (w.heap.size + 2) 9 1 (.slice wA1 d.loose.length wc1) d.loose.length (d.loose.map whatV) := (HS5.out.ow.alloc _).drew
    have hnewd : ∀ j u, ([.string P] : List Value)[j]? = some u → (V.alloc (.cells #[.string P] 9)).drew.cell? ((⟨V.heap.size, 0, none⟩ : Addr).add j) = some u := World.news_of_block (cs := #[.string P]) (t := 9) (fr := (0, 0)) (heap_alloc_new V _)
    have hszd : (V.alloc (.cells #[.string P] 9)).drew.heap.size = V.heap.size + 1 := by show (V.alloc _).heap.size = _; simp
    go_region_law (first
      | (refine step_append_lies _ (by rfl) _ _ _ (by rfl) (w.heap.size + 2) 9 i0 (.string ByteArray.empty) 1 16 Tryz.underlying27 hi0 hz0 hz1 hz2 rfl (by omega) (.slice wA1 d.loose.length wc1) d.loose.length _ (by rfl) hownd ⟨V.heap.size, 0, none⟩ 1 1 [.string P] (by rfl) (by rfl) hnewd (by simp [Value.oneCell']) (by omega) (by unfold maxLen; omega) (by omega) (by rw [hszd]; omega) (V.heap.size + 1) hszd ?_; intro b2 cap2 w4 hown4 hgrow4 hat4 hlt4; have h54 := (HS5.out.appW hown4 hgrow4 hat4).1.cells; obtain ⟨m0, m1, m2, m3, m4, mf⟩ := h54)
      | (go_simp; go_at_call 28; refine (RefPad_still s.data.toList HPad.out _).mono ?_; rw [hP]; rintro e w' ⟨rfl, rfl⟩; dsimp only))
    all_goals
      have HS6 := Lib.hid (HS5.out.appW hown4 hgrow4 hat4)
      clear hown4 hgrow4 hat4 hlt4 m0 m1 m2 m3 m4 mf hownd hnewd hszd c0 c1 c2 c3 c4 hf ne2 HS5
      obtain ⟨c0, c1, c2, c3, c4, hf⟩ := HS6.out.1.cells
      obtain ⟨r0, r1, r2, r3, r4, rf⟩ := HS6.out.2.1.cells
      go_wp2_with fail
      exact bodyPost_ret (v := .tuple #[.agg #[.slice fA1 d.firm.length fc1, .slice (some ⟨b, 0, none⟩) (d.loose.length + 1) cap, .slice (some ⟨b2, 0, none⟩) (d.loose.length + 1) cap2, .int .i64 L', .bool false], .int .i64 0]) (by simp [results, Tryz.results76, go_sem, r0, r1, r2, r3, r4]) rfl (by
        obtain ⟨e1, e2, e3, e4, e5⟩ := HE.out
        have hst := HS6.out.2.2
        have hlen : (d.loose ++ [(j, padB s.data.toList)]).length = d.loose.length + 1 := by simp
        have hst' : St3 w (w4.setCell ⟨w.heap.size, 2, none⟩ (.slice (some ⟨b2, 0, none⟩) (d.loose.length + 1) cap2)) fA1 d.firm.length fc1 (d.firm.map secV) (some ⟨b, 0, none⟩) (d.loose ++ [(j, padB s.data.toList)]).length cap ((d.loose ++ [(j, padB s.data.toList)]).map atV) (some ⟨b2, 0, none⟩) (d.loose ++ [(j, padB s.data.toList)]).length cap2 ((d.loose ++ [(j, padB s.data.toList)]).map whatV) L' false := by
          rw [hlen, List.map_append, List.map_append]
          rw [← HP.out] at hst
          exact hst
        obtain ⟨h1, h2⟩ := hst'.last (fun h0 => by simp at h0) _ _ _ _ _ rfl
        unfold RefRet
        rw [e1, e2, e3, e4, e5, hlen]
        exact ⟨fA1, fc1, some ⟨b, 0, none⟩, cap, some ⟨b2, 0, none⟩, cap2, rfl, h1, h2, hst'.fresh _ _ _⟩)
end Go.Proofs.YtlelfakememckaaGreatDoor
