/- == of packets. -/
import Derived.Test.YtfcpgkbbocadpaaWireP
namespace Go.Proofs.Ytfcpgkbbocadpaa
open Go.RowKit

set_option maxRecDepth 100000 in
theorem eqlIn_wpk (n : Int) (a : ByteArray) (w : World) : (Op.equalIn 10000 24 (.agg #[.int .i64 n, .string a]) (.agg #[.int .i64 n, .string a])).run Try.prog w = .ok true w := by
  rw [run_equalIn_struct w 9999 24 _ _ (by kernel_rfl) (by kernel_rfl)]
  have hf : (Try.prog.fieldsOf 24).toList.map (fun f => (f.name, f.type, f.offset)) = [("To", 3, 0), ("Data", 9, 1)] := by kernel_rfl
  obtain ⟨fs, hfs⟩ : ∃ fs, (Try.prog.fieldsOf 24).toList = fs := ⟨_, rfl⟩
  rw [hfs] at hf ⊢
  match fs, hf with
  | [f1, f2], hf =>
    simp only [List.map_cons, List.map_nil, List.cons.injEq, Prod.mk.injEq, and_true] at hf
    obtain ⟨⟨a1, a2, a3⟩, ⟨b1, b2, b3⟩⟩ := hf
    simp only [Op.eqFields, a1, a2, a3, b1, b2, b3]
    have q1 := run_equalIn_int (P := Try.prog) w 9998 3 .i64 .i64 n n Try.underlying3
    have q2 := run_equalIn_string (P := Try.prog) w 9998 9 a a Try.underlying9
    simp only [beq_self_eq_true] at q1 q2
    simp [part, q1, q2, Try.isAgg9, Try.isAgg3, Sem.run_bind, Result.andThen]
theorem eql_wpk (n : Int) (a : ByteArray) (w : World) : (binOp .eql 24 (.agg #[.int .i64 n, .string a]) (.agg #[.int .i64 n, .string a])).run Try.prog w = .ok (.bool true) w := by
  rw [run_eql_struct, eqlIn_wpk]; rfl
theorem neq_wpk (n : Int) (a : ByteArray) (w : World) : (binOp .neq 24 (.agg #[.int .i64 n, .string a]) (.agg #[.int .i64 n, .string a])).run Try.prog w = .ok (.bool false) w := by
  rw [run_neq_struct, eqlIn_wpk]; rfl
theorem guard_wpk (op : BinOp) (x y : Operand) (xs ys : Array Value) (w : World) : (eqGuard op 24 x y (.agg xs) (.agg ys)).run Try.prog w = .ok () w := run_eqGuard_agg w op _ x y xs ys (by kernel_rfl)
theorem WpAt.nil16 (w : World) (B : Nat) (A : Option Addr) : WpAt w B A [] := .inl rfl
theorem heap_lt16 {w : World} {g : Nat} {o : Obj} (h : w.heap[g]? = some o) : g < w.heap.size := by
  rcases Nat.lt_or_ge g w.heap.size with e | e
  · exact e
  · rw [Array.getElem?_eq_none e] at h; cases h
end Go.Proofs.Ytfcpgkbbocadpaa
