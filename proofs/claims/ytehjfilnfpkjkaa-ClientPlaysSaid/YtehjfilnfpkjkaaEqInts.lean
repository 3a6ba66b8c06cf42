/-
  '==' of two arrays of whole numbers.
-/
import Derived.Laws.StructEq
import Derived.Laws.Entries
namespace Go.Proofs.Ytehjfilnfpkjkaa
open Go
/-- What the comparison of two arrays asks, from a place on. -/
theorem run_equalIn_ints {P : Program} {t e : TypeId} {n : Nat} {k : IntKind} (ht : P.underlying t = some (.array n e)) (he : P.underlying e = some (.int k)) (hs : ∀ w, (sizeOf e).run P w = .ok 1 w) (d : Nat) (xs ys : List Int) (hx : xs.length = n) (hy : ys.length = n) (w : World) :
    (Op.equalIn (d + 2) t (.agg (xs.map (Value.int k)).toArray) (.agg (ys.map (Value.int k)).toArray)).run P w = .ok (xs == ys) w := by
  rw [Op.equalIn]
  simp only [Sem.run_bind, run_underlying ht, Result.andThen_ok, hs, Std.Legacy.Range.forIn_eq_forIn_range', Std.Legacy.Range.size, Nat.sub_zero, Nat.add_sub_cancel, Nat.div_one]
  have p : ∀ (zs : List Int) (i : Nat) (h : i < zs.length), (part e (zs.map (Value.int k)).toArray (i * 1)).run P w = .ok (.int k zs[i]) w := fun zs i h => by
    simp [part, isAgg, run_underlying he, h]
  have key : ∀ (m j : Nat), j + m = n → (forIn (List.range' j m) (none, ()) (fun i (r : Option Bool × Unit) => do
      let a ← part e (xs.map (Value.int k)).toArray (i * 1)
      let b ← part e (ys.map (Value.int k)).toArray (i * 1)
      let r ← Op.equalIn (d + 1) e a b
      if (!r) = true then pure (ForInStep.done (some false, ())) else pure (ForInStep.yield (none, ())))).run P w = .ok (if xs.drop j == ys.drop j then none else some false, ()) w := by
    intro m
    induction m with
    | zero =>
      intro j hj
      rw [List.drop_of_length_le (by omega), List.drop_of_length_le (by omega)]
      simp
    | succ m ih =>
      intro j hj
      have hd : (xs.drop j == ys.drop j) = (xs[j] == ys[j] && xs.drop (j + 1) == ys.drop (j + 1)) := by
        rw [List.drop_eq_getElem_cons (by omega : j < xs.length), List.drop_eq_getElem_cons (by omega : j < ys.length)]
        rfl
      rw [List.range'_succ, List.forIn_cons, hd]
      have e1 := run_equalIn_int (P := P) w d e k k xs[j] ys[j] he
      have ih' := ih (j + 1) (by omega)
      generalize (xs.drop (j + 1) == ys.drop (j + 1)) = r at *
      simp only [Sem.run_bind, p xs j (by omega), p ys j (by omega), e1, Result.andThen_ok]
      by_cases h : xs[j] = ys[j]
      · rw [beq_iff_eq.2 h]
        simpa using ih'
      · have h' : (xs[j] == ys[j]) = false := by simpa using h
        simp [h']
  have h0 := key n 0 (by omega)
  simp only [List.drop_zero] at h0
  rw [h0]
  cases xs == ys <;> simp
end Go.Proofs.Ytehjfilnfpkjkaa
