/- Two sets held against each other. -/
import Derived.Test.YtdkdgbiagjflgaaDoorSetA
import Derived.Laws.StructEq
namespace Go.Proofs.YtdkdgbiagjflgaaDoor
open Go.RowKit
theorem part0 (x0 x1 x2 x3 : Value) (w : World) : (part 26 #[x0, x1, x2, x3] 0).run Tryd.prog w = .ok x0 w := by kernel_rfl
theorem part1 (x0 x1 x2 x3 : Value) (w : World) : (part 26 #[x0, x1, x2, x3] 1).run Tryd.prog w = .ok x1 w := by kernel_rfl
theorem part2 (x0 x1 x2 x3 : Value) (w : World) : (part 26 #[x0, x1, x2, x3] 2).run Tryd.prog w = .ok x2 w := by kernel_rfl
theorem part3 (x0 x1 x2 x3 : Value) (w : World) : (part 26 #[x0, x1, x2, x3] 3).run Tryd.prog w = .ok x3 w := by kernel_rfl
theorem size24 (w : World) : (sizeOf 26).run Tryd.prog w = .ok 1 w := by kernel_rfl
set_option maxRecDepth 100000 in
theorem eqSet (a b c d a' b' c' d' : Int) (w : World) :
    (Op.equalIn 10000 28 (.agg #[.int .u64 a, .int .u64 b, .int .u64 c, .int .u64 d]) (.agg #[.int .u64 a', .int .u64 b', .int .u64 c', .int .u64 d'])).run Tryd.prog w = .ok (a == a' && (b == b' && (c == c' && d == d'))) w := by
  rw [show (10000 : Nat) = 9998 + 1 + 1 from rfl, Op.equalIn]
  simp only [Sem.run_bind, run_underlying Tryd.underlying28, Result.andThen_ok, size24]
  simp only [Std.Legacy.Range.forIn_eq_forIn_range', Std.Legacy.Range.size, List.range']
  simp [Sem.run_bind, part0, part1, part2, part3, run_equalIn_int _ _ _ _ _ _ _ Tryd.underlying26, Result.andThen_ok]
  by_cases h0 : a = a'
  · by_cases h1 : b = b'
    · by_cases h2 : c = c'
      · by_cases h3 : d = d' <;> simp [h0, h1, h2, h3]
      · simp [h0, h1, h2]
    · simp [h0, h1]
  · simp [h0]
theorem eqW_yes (s : Ws) (w : World) : (Op.equalIn 10000 28 s.v s.v).run Tryd.prog w = .ok true w := by
  unfold Ws.v; rw [eqSet]; simp
theorem eqW_no {s t : Ws} (h : s ≠ t) (w : World) : (Op.equalIn 10000 28 s.v t.v).run Tryd.prog w = .ok false w := by
  obtain ⟨a, b, c, d⟩ := s
  obtain ⟨a', b', c', d'⟩ := t
  unfold Ws.v
  rw [eqSet]
  have : ¬ (a = a' ∧ b = b' ∧ c = c' ∧ d = d') := fun e => h (by simp [e])
  congr 1
  simp only [Bool.and_eq_false_iff, beq_eq_false_iff_ne]
  omega
end Go.Proofs.YtdkdgbiagjflgaaDoor
