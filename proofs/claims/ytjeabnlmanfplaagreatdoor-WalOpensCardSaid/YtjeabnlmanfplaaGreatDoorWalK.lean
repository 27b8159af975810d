/- The contract of strings.Join out of the library, at this program, and the contract of joined. Nothing is assumed of Join: each body is compared with the body that the contract was proved of. -/
import Derived.Shelf.Strings.OnBuilder
import Derived.Test.YtjeabnlmanfplaaGreatDoorWalF
namespace Go.Proofs
open Go.Shelf Go.RowKit
def Tryz.lays156_ren : Go.Shelf.Ren := ⟨fun | 156 => 96 | 165 => 106 | 166 => 107 | 169 => 108 | 240 => 114 | 241 => 115 | 276 => 128 | 277 => 129 | n => n, fun | 0 => 0 | 3 => 3 | 4 => 4 | 9 => 9 | 20 => 20 | 31 => 27 | 37 => 115 | 70 => 170 | 72 => 172 | 75 => 34 | 76 => 173 | 127 => 186 | 164 => 128 | 5 => 5 | 80 => 146 | n => n, fun | n => n⟩
theorem Tryz.lays156 : Go.Proofs.Lays.n156 Tryz.prog Tryz.lays156_ren := {
  mixed := by kernel_rfl
  f156 := Tryz.func96.trans (congrArg some (by kernel_rfl))
  f165 := Tryz.func106.trans (congrArg some (by kernel_rfl))
  f166 := Tryz.func107.trans (congrArg some (by kernel_rfl))
  f169 := Tryz.func108.trans (congrArg some (by kernel_rfl))
  f240 := Tryz.func114.trans (congrArg some (by kernel_rfl))
  f241 := Tryz.func115.trans (congrArg some (by kernel_rfl))
  f276 := Tryz.func128.trans (congrArg some (by kernel_rfl))
  f277 := Tryz.func129.trans (congrArg some (by kernel_rfl))
  t0 := Tryz.underlying0
  a0 := Tryz.isAgg0
  z0 := Tryz.sizeOf0
  v0 := Tryz.zeroValue0
  t3 := Tryz.underlying3
  a3 := Tryz.isAgg3
  z3 := Tryz.sizeOf3
  v3 := Tryz.zeroValue3
  t4 := Tryz.underlying4
  a4 := Tryz.isAgg4
  z4 := Tryz.sizeOf4
  v4 := Tryz.zeroValue4
  t9 := Tryz.underlying9
  a9 := Tryz.isAgg9
  z9 := Tryz.sizeOf9
  v9 := Tryz.zeroValue9
  t20 := Tryz.underlying20
  a20 := Tryz.isAgg20
  z20 := Tryz.sizeOf20
  v20 := Tryz.zeroValue20
  t31 := Tryz.underlying27
  a31 := Tryz.isAgg27
  z31 := Tryz.sizeOf27
  v31 := Tryz.zeroValue27
  t37 := Tryz.underlying115
  a37 := Tryz.isAgg115
  z37 := Tryz.sizeOf115
  v37 := Tryz.zeroValue115
  t70 := Tryz.underlying170
  a70 := Tryz.isAgg170
  z70 := Tryz.sizeOf170
  v70 := Tryz.zeroValue170
  t72 := Tryz.underlying172
  a72 := Tryz.isAgg172
  z72 := Tryz.sizeOf172
  v72 := Tryz.zeroValue172
  t75 := Tryz.underlying34
  a75 := Tryz.isAgg34
  z75 := Tryz.sizeOf34
  v75 := Tryz.zeroValue34
  t76 := Tryz.underlying173
  a76 := Tryz.isAgg173
  z76 := Tryz.sizeOf173
  v76 := Tryz.zeroValue173
  t127 := Tryz.underlying186
  a127 := Tryz.isAgg186
  z127 := Tryz.sizeOf186
  v127 := Tryz.zeroValue186
  t164 := Tryz.underlying128
  a164 := Tryz.isAgg128
  z164 := Tryz.sizeOf128
  v164 := Tryz.zeroValue128 }
theorem Tryz.Builder_Extra_156 : Builder.Extra Tryz.prog Tryz.lays156_ren := {
  sizeBuilder := by kernel_rfl
  liesBuilder := by kernel_rfl
  t5 := Tryz.underlying5
  a5 := Tryz.isAgg5
  z5 := Tryz.sizeOf5
  v5 := Tryz.zeroValue5
  infoByte := by kernel_rfl
  cellsByte := by kernel_rfl
  sizeByte := by kernel_rfl
  neB5 := by decide }
end Go.Proofs
namespace Go.Proofs.YtjeabnlmanfplaaGreatDoor
open Go.RowKit

theorem join_none_sep (xs : List (List UInt8)) : Lib.join xs [] = xs.flatten := by
  match xs with
  | [] => rfl
  | x :: r =>
    rw [Lib.join_cons, List.flatten_cons]
    congr 1
    induction r with
    | nil => rfl
    | cons y r ih => simp [Lib.joinTail] at ih ⊢

theorem Join_any (xs : List (List UInt8)) (A : Option Addr) (n cap : Nat) (w : World) (hn : xs.length = n) (hc : n ≤ cap) (hA : Lies w w.heap.size A (xs.map secV)) (h1 : n ≤ 4096) (h2 : xs.flatten.length ≤ 140737488355328) :
    Calls Tryz.prog 96 #[.slice A n cap, .string ByteArray.empty] w fun e w' => e = .returned (.string (str xs.flatten)) ∧ Below w.heap.size w w' := by
  subst hn
  by_cases hx : xs = []
  · subst hx
    exact (Any.strings_Join_none Tryz.lays156 Tryz.Builder_Extra_156 A cap ByteArray.empty w).mono fun e w' ⟨he, hw⟩ => ⟨he, hw ▸ Below.refl _ _⟩
  · obtain ⟨b, off, rfl, hb, hcell⟩ := hA.at_ (by simpa using hx)
    have hm : (xs.map str).map (fun s : ByteArray => s.data.toList) = xs := by rw [List.map_map]; exact (List.map_congr_left (fun x _ => str_list x)).trans (List.map_id _)
    have hj : Lib.join ((xs.map str).map (fun s : ByteArray => s.data.toList)) (ByteArray.empty).data.toList = xs.flatten := by rw [hm]; exact join_none_sep xs
    have := Any.strings_Join Tryz.lays156 Tryz.Builder_Extra_156 b off cap (xs.map str) ByteArray.empty w (fun j x hjx => by
      obtain ⟨hj1, hj2⟩ := List.getElem?_eq_some_iff.1 hjx
      have := hcell j (by simpa using hj1)
      rw [this, List.getElem_map]
      rw [List.getElem_map] at hj2
      rw [← hj2]; rfl) hb (by rw [List.length_map]; omega) (by rw [List.length_map]; exact hc) (by rw [hj]; exact h2)
    rw [hj, List.length_map] at this
    exact this

theorem joined_any (xs : List (List UInt8)) (A : Option Addr) (n cap k : Nat) (w : World) (hn : xs.length = n) (hc : n ≤ cap) (hA : Lies w w.heap.size A (xs.map secV)) (h1 : n ≤ 4096) (h2 : xs.flatten.length ≤ 1000000) (hk : k ≤ xs.flatten.length) :
    Calls Tryz.prog 75 #[.slice A n cap, .int .i64 k] w fun e w' => e = .returned (.string (str (xs.flatten.take k))) ∧ Below w.heap.size w w' := by
  have HJ := Lib.hid (Join_any xs A n cap w hn hc hA h1 (by omega))
  have hsz := str_size xs.flatten
  have HT := Lib.hid (take_str xs.flatten k)
  clear hA hn
  generalize xs.flatten = l at *
  obtain ⟨S, hS⟩ : ∃ S, str l = S := ⟨_, rfl⟩
  rw [hS] at HJ HT hsz
  have hks : k ≤ S.size := by omega
  have hks2 : S.size ≤ 1000000 := by omega
  clear hS
  go_enter Tryz.func75, Tryz.ntmps75
  go_wp2_with fail
  refine HJ.out.mono ?_
  rintro e w1 ⟨rfl, hb⟩
  have HB := Lib.hid hb
  clear hb HJ
  go_wp2_with fail
  go_ret
  exact ⟨by rw [← HT.out]; rfl, HB.out⟩
end Go.Proofs.YtjeabnlmanfplaaGreatDoor
