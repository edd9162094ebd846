/- Two words held against 0: the model's equality of arrays. -/
import Derived.Test.YtnbloflgggndiaaRows
import Derived.ChangeKeysEq
import Derived.Laws.StructEq
import Derived.WalkKit
namespace Go.Proofs.Ytnbloflgggndiaa
open Go.RowKit

theorem eq_wide (H L : Int) (w : World) : (Op.equalIn 10000 41 (.agg #[.int .u64 H, .int .u64 L]) (.agg #[.int .u64 0, .int .u64 0])).run Try.prog w = .ok (H == 0 && L == 0) w := by
  have hu : Try.prog.underlying 41 = some (.array 2 36) := by kernel_rfl
  have hi : ∃ i, Try.prog.info? 36 = some i := by
    have : (Try.prog.info? 36).isSome = true := by kernel_rfl
    exact Option.isSome_iff_exists.1 this
  obtain ⟨i, hi⟩ := hi
  have hc : Try.prog.cellsOf 36 = 1 := by kernel_rfl
  have hk : Try.prog.underlying 36 = some (.int .u64) := by kernel_rfl
  rw [run_equalIn_array w 9999 _ _ hu hi, hc]
  rw [show List.range 2 = [0, 1] from rfl]
  simp only [Op.eqItems]
  simp [go_sem, run_equalIn_int _ 9998 _ .u64 .u64 _ _ hk]
  by_cases h : H = 0 <;> by_cases k : L = 0 <;> simp [h, k]

theorem eq_rat (N1 D1 N2 D2 : Int) (w : World) : (Op.equalIn 10000 24 (.agg #[.int .i64 N1, .int .i64 D1]) (.agg #[.int .i64 N2, .int .i64 D2])).run Try.prog w = .ok (N1 == N2 && D1 == D2) w := by
  have ht : Try.prog.underlying 24 = some (.struct (Try.prog.fieldsOf 24)) := by kernel_rfl
  have hp : Try.prog.stoodInHeld 24 = false := by kernel_rfl
  have hk : Try.prog.underlying 2 = some (.int .i64) := by kernel_rfl
  have hc : Try.prog.cellsOf 2 = 1 := by kernel_rfl
  rw [run_equalIn_struct w 9999 _ _ _ ht hp]
  have hf : (Try.prog.fieldsOf 24).toList.map (fun f => (f.name == "_", f.type, f.offset)) = [(false, 2, 0), (false, 2, 1)] := by kernel_rfl
  generalize (Try.prog.fieldsOf 24).toList = fs at hf
  rcases fs with _ | ⟨f, _ | ⟨g, _ | ⟨_, _⟩⟩⟩ <;> simp at hf
  obtain ⟨⟨a1, a2, a3⟩, b1, b2, b3⟩ := hf
  simp only [Op.eqFields, ne_eq, a1, a2, a3, b1, b2, b3, not_false_eq_true, if_true]
  simp [go_sem, run_equalIn_int _ 9998 _ .i64 .i64 _ _ hk]
  by_cases h : N1 = N2 <;> by_cases k : D1 = D2 <;> simp [h, k]
end Go.Proofs.Ytnbloflgggndiaa
