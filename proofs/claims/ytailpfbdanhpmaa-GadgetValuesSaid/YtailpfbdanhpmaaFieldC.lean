/-
  Contracts of package field: the first law's example.
-/
import Derived.Test.YtailpfbdanhpmaaFieldB
namespace Go.Proofs.Ytailpfbdanhpmaa
open Go.RowKit F Flow
set_option linter.unusedVariables false
attribute [local go_sem] eql_elem

theorem four {W : World} {ι : Type} {φ : ι → World} (h : Family W ι φ) {b : Nat} {u0 u1 u2 u3 : Value} {t : TypeId} (hk : W.heap[b]? = some (.cells #[u0, u1, u2, u3] t (0, 0))) :
    (∀ i, (φ i).cell? ⟨b, 0, none⟩ = some u0) ∧ (∀ i, (φ i).cell? ⟨b, 1, none⟩ = some u1) ∧ (∀ i, (φ i).cell? ⟨b, 2, none⟩ = some u2) ∧ (∀ i, (φ i).cell? ⟨b, 3, none⟩ = some u3) :=
  ⟨fun i => (blk4 (keeps (h.old i) hk)).1, fun i => (blk4 (keeps (h.old i) hk)).2.1, fun i => (blk4 (keeps (h.old i) hk)).2.2.1, fun i => (blk4 (keeps (h.old i) hk)).2.2.2.1⟩

end Go.Proofs.Ytailpfbdanhpmaa
