/- Contracts of ref (a copy for the document), of same, and of the document's Put. -/
import Derived.Test.YtfcpgkbbocadpaaWireB
namespace Go.Proofs.Ytfcpgkbbocadpaa
open Go.RowKit

theorem Try.infoWpR : (Try.prog.info? 35).map (fun i => (i.zero, i.size, i.bytes)) = some (some (.agg #[.int .i64 0, .string ⟨#[]⟩]), 2, 24) := by kernel_rfl
theorem cell_two16 (w : World) (x y : Value) (t : TypeId) : ∀ j u, [x, y][j]? = some u → (w.alloc (.cells #[x, y] t)).cell? ((⟨w.heap.size, 0, none⟩ : Addr).add j) = some u := by
  intro j u hj
  exact World.news_of_block (cs := #[x, y]) (t := t) (fr := (0, 0)) (heap_new w _) j u (by simpa using hj)

set_option maxHeartbeats 1000000 in
set_option maxRecDepth 100000 in
theorem ref16_any {w : World} {A : Option Addr} {c : Nat} {l : List WPk} (h : WpAt w w.heap.size A l) (hl : l.length ≤ 1000) :
    Calls Try.prog 10 #[.slice A l.length c] w (WpEnd l w) := by
  have HW := Lib.hid h
  obtain ⟨n, hn⟩ : ∃ n, l.length = n := ⟨_, rfl⟩
  have HN := Lib.hid hn
  rw [hn] at hl ⊢
  obtain ⟨i0, hi0, hz0, hz1, hz2⟩ := info_parts Try.infoWpR
  clear h hn
  go_enter Try.func10, Try.ntmps10
  go_wp2_with fail
  go_loopw [3, 8] (fun v i wr => ∃ (k : Nat) (A' : Option Addr) (c' : Nat), k ≤ n ∧ i = .int .i64 k ∧ v = .slice A' k c' ∧ Hid (wr.ownsRow w.heap.size 35 2 (.slice A' k c') k (wpCells (l.take k))) ∧ Hid (Below w.heap.size w wr)) (fun _ i _ => n - (intOf i).toNat)
  case atStart => exact ⟨0, none, 0, by omega, rfl, rfl, Lib.hid (World.ownsRow_nil _ _ _ _), Lib.hid (Below.refl _ _)⟩
  case round =>
    obtain ⟨k, A', c', hk, rfl, rfl, HO, HB⟩ := hrel
    by_cases hkn : k < n
    · have hkl : k < l.length := by rw [HN.out]; exact hkn
      obtain ⟨bb, off, rfl, hbl, x0, x1⟩ := HW.out.at_ HB.out hkl
      have HTk : Hid (wpCells (l.take (k + 1)) = wpCells (l.take k) ++ [.int .i64 l[k].to_, .string (str l[k].s)]) := Lib.hid (by rw [List.take_succ_eq_append_getElem hkl, wpCells_append]; rfl)
      obtain ⟨p, hp⟩ : ∃ p, l[k] = p := ⟨_, rfl⟩
      rw [hp] at x0 x1 HTk
      obtain ⟨to_, s⟩ := p
      dsimp only at x0 x1 HTk
      obtain ⟨T, hT⟩ : ∃ T, str s = T := ⟨_, rfl⟩
      rw [hT] at x1 HTk
      have hkn2 : (k : Int) < (n : Int) := by omega
      have hk0 : (0 : Int) ≤ (k : Int) := by omega
      have hwz : w.heap.size ≤ wr.heap.size := HB.out.size
      have hnew := cell_two16 (wr.alloc (.cells #[.int .i64 to_, .string T] 24)) (.int .i64 to_) (.string T) 35
      rw [show (wr.alloc (.cells #[.int .i64 to_, .string T] 24)).heap.size = wr.heap.size + 1 from by simp] at hnew
      have HNew := Lib.hid hnew
      have HB3 := Lib.hid ((HB.out.alloc hwz (.cells #[.int .i64 to_, .string T] 24)).alloc (by simp; omega) (.cells #[.int .i64 to_, .string T] 35))
      have HO3 := Lib.hid ((HO.out.alloc (.cells #[.int .i64 to_, .string T] 24)).alloc (.cells #[.int .i64 to_, .string T] 35))
      clear hp hT hnew
      go_wp2_with (at_builtin; refine wpList_append_lies _ rfl (.tmp 12) (.tmp 18) 31 rfl w.heap.size 35 i0 (.agg #[.int .i64 0, .string ⟨#[]⟩]) 2 24 Try.underlying31 hi0 hz0 hz1 hz2 rfl (by decide) (.slice A' k c') k (wpCells (l.take k)) rfl HO3.out ⟨wr.heap.size + 1, 0, none⟩ 1 1 [.int .i64 to_, .string T] rfl rfl HNew.out (by simp [Value.oneCell']) (by omega) ?d1 ?d2 HB3.out.size _ rfl ?_)
      case d1 => unfold maxLen; omega
      case d2 => omega
      intro g cap w7 hown hg7 _ _
      have HB7 := Lib.hid (HB3.out.grown hg7 HB3.out.size (fun q hq => (HO.out.lt q hq).1))
      rw [← HTk.out] at hown
      have HO7 := Lib.hid hown
      clear hown hg7
      go_wp2_with fail
      go_roundw
      case rel => exact ⟨k + 1, some ⟨g, 0, none⟩, cap, by omega, by go_num, rfl, HO7, HB7⟩
      case measure => simp [intOf]; omega
    · obtain rfl : k = n := by omega
      have hkn2 : ¬ (k : Int) < (k : Int) := by omega
      have HE : Hid (WpEnd l w (.returned (.slice A' k c')) wr) := Lib.hid (by
        have h := HO.out
        rw [show l.take k = l from by rw [← HN.out, List.take_length], ← HN.out] at h
        have := own_endW h HB.out
        rw [HN.out] at this
        exact this)
      go_wp2_with fail
      go_ret
      exact HE.out
end Go.Proofs.Ytfcpgkbbocadpaa
