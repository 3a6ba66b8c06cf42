/-
  Contracts of the reference's elements: what is 0 less one; differences; bits.
-/
import Derived.Test.YtobannolnjmegaaRefC
namespace Go.Proofs.Ytobannolnjmegaa
open Go.RowKit F Flow

theorem run_eql_pair {P : Program} {t e : TypeId} (ht : P.underlying t = some (.array 2 e)) (he : P.underlying e = some (.int .u64)) (hs : ∀ w, (sizeOf e).run P w = .ok 1 w) (a b c d : Int) (w : World) :
    (Op.equalIn 10000 t (.agg #[.int .u64 a, .int .u64 b]) (.agg #[.int .u64 c, .int .u64 d])).run P w = .ok ((a == c) && (b == d)) w := by
  rw [show (10000 : Nat) = 9998 + 2 from rfl, Op.equalIn]
  simp only [Sem.run_bind, run_underlying ht, Result.andThen_ok, hs, Std.Legacy.Range.forIn_eq_forIn_range', Std.Legacy.Range.size, Nat.sub_zero, Nat.add_sub_cancel, Nat.div_one]
  have e1 := run_equalIn_int w 9998 e .u64 .u64 a c he
  have e2 := run_equalIn_int w 9998 e .u64 .u64 b d he
  have p : ∀ (x y : Int), (part e #[.int .u64 x, .int .u64 y] 0).run P w = .ok (.int .u64 x) w := fun x y => by simp [part, isAgg, run_underlying he]
  have q : ∀ (x y : Int), (part e #[.int .u64 x, .int .u64 y] 1).run P w = .ok (.int .u64 y) w := fun x y => by simp [part, isAgg, run_underlying he]
  have h0 : (a == c) = true ∨ (a == c) = false := by cases a == c <;> simp
  have h1 : (b == d) = true ∨ (b == d) = false := by cases b == d <;> simp
  rcases h0 with h0 | h0 <;> rcases h1 with h1 | h1 <;> simp [List.range', p, q, e1, e2, h0, h1]

theorem eql_elem (a b c d : Int) (w : World) : (Op.equalIn 10000 38 (.agg #[.int .u64 a, .int .u64 b]) (.agg #[.int .u64 c, .int .u64 d])).run Try.prog w = .ok ((a == c) && (b == d)) w :=
  run_eql_pair Try.underlying38 Try.underlying36 Try.sizeOf36 a b c d w
attribute [local go_sem] eql_elem

end Go.Proofs.Ytobannolnjmegaa
