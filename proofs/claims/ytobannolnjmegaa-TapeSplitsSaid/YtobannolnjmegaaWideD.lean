/-
  Contracts of package wide: products modulo the modulus.
-/
import Derived.Test.YtobannolnjmegaaWideC
namespace Go.Proofs.Ytobannolnjmegaa
open Go.RowKit F Flow
set_option linter.unusedVariables false

/-- The number that a block of four words holds. -/
def inner (b : Nat) (w : World) : Nat :=
  match w.heap[b]? with
  | some (.cells c _ _) => (val4 (intOf (c.getD 0 undef)) (intOf (c.getD 1 undef)) (intOf (c.getD 2 undef)) (intOf (c.getD 3 undef))).toNat
  | _ => 0
theorem inner_of {b : Nat} {w : World} {n0 n1 n2 n3 : Int} {t : TypeId} (h : w.heap[b]? = some (.cells #[.int .u64 n0, .int .u64 n1, .int .u64 n2, .int .u64 n3] t (0, 0))) : inner b w = (val4 n0 n1 n2 n3).toNat := by
  unfold inner; rw [h]; rfl
theorem blk4 {w : World} {b : Nat} {u0 u1 u2 u3 : Value} {t : TypeId} (h : w.heap[b]? = some (.cells #[u0, u1, u2, u3] t (0, 0))) :
    w.cell? ⟨b, 0, none⟩ = some u0 ∧ w.cell? ⟨b, 1, none⟩ = some u1 ∧ w.cell? ⟨b, 2, none⟩ = some u2 ∧ w.cell? ⟨b, 3, none⟩ = some u3 ∧
      w.frozen? ⟨b, 0, none⟩ = false ∧ w.frozen? ⟨b, 1, none⟩ = false ∧ w.frozen? ⟨b, 2, none⟩ = false ∧ w.frozen? ⟨b, 3, none⟩ = false := by
  refine ⟨?_, ?_, ?_, ?_, ?_, ?_, ?_, ?_⟩ <;> simp [World.cell?, World.frozen?, h]
theorem store4 {w : World} {b : Nat} {x0 x1 x2 x3 u0 u1 u2 u3 : Value} {t : TypeId} (h : w.heap[b]? = some (.cells #[x0, x1, x2, x3] t (0, 0))) :
    ((((w.setCell ⟨b, 0, none⟩ u0).setCell ⟨b, 1, none⟩ u1).setCell ⟨b, 2, none⟩ u2).setCell ⟨b, 3, none⟩ u3).heap[b]? = some (.cells #[u0, u1, u2, u3] t (0, 0)) :=
  store1 (store1 (store1 (store1 h)))
theorem store4_far {w : World} {b k : Nat} {o : Obj} {u0 u1 u2 u3 : Value} (h : w.heap[k]? = some o) (hk : k ≠ b) :
    ((((w.setCell ⟨b, 0, none⟩ u0).setCell ⟨b, 1, none⟩ u1).setCell ⟨b, 2, none⟩ u2).setCell ⟨b, 3, none⟩ u3).heap[k]? = some o :=
  store_far (store_far (store_far (store_far h hk) hk) hk) hk
theorem below_store4 {B : Nat} {a w : World} {b : Nat} {u0 u1 u2 u3 : Value} (h : Below B a w) (hb : B ≤ b) :
    Below B a ((((w.setCell ⟨b, 0, none⟩ u0).setCell ⟨b, 1, none⟩ u1).setCell ⟨b, 2, none⟩ u2).setCell ⟨b, 3, none⟩ u3) :=
  (((h.setCell (p := ⟨b, 0, none⟩) hb _).setCell (p := ⟨b, 1, none⟩) hb _).setCell (p := ⟨b, 2, none⟩) hb _).setCell (p := ⟨b, 3, none⟩) hb _

theorem fold_less {n0 n1 n2 n3 : Int} (h0 : Word n0) (h1 : Word n1) (h2 : Word n2) (h3 : Word n3) (hne : n2 ≠ 0 ∨ n3 ≠ 0) :
    (val4 (g0 n0 n2) (g1 n0 n1 n2 n3) (g2 n0 n1 n2 n3) (g3 n0 n1 n2 n3)).toNat < (val4 n0 n1 n2 n3).toNat := by
  have h := (fold_facts h0 h1 h2 h3).2.2.2
  rw [h]
  unfold val4 val Word at *
  rw [M2]
  omega
theorem fold_same {n0 n1 n2 n3 : Int} (h0 : Word n0) (h1 : Word n1) (h2 : Word n2) (h3 : Word n3) :
    val4 (g0 n0 n2) (g1 n0 n1 n2 n3) (g2 n0 n1 n2 n3) (g3 n0 n1 n2 n3) % M 2 = val4 n0 n1 n2 n3 % M 2 := by
  rw [(fold_facts h0 h1 h2 h3).2.2.2, Int.sub_mul_emod_self_right]
theorem pr_mod {X Y : Int} (hX : 0 ≤ X) (hX' : X < 340282366920938463463374607431768211456) (hY : 0 ≤ Y) (hY' : Y < 340282366920938463463374607431768211456) :
    val4 (pr0 (lo X) (hi X) (lo Y) (hi Y)) (pr1 (lo X) (hi X) (lo Y) (hi Y)) (pr2 (lo X) (hi X) (lo Y) (hi Y)) (pr3 (lo X) (hi X) (lo Y) (hi Y)) % M 2 = mul 2 X Y := by
  rw [pr_val, val_lohi, val_lohi]
  unfold mul redu
  rw [if_neg (by decide), if_neg (by decide), ← Int.mul_emod]

end Go.Proofs.Ytobannolnjmegaa
