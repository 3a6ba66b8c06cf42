/-
  Contracts of the reference's elements: products and powers.
-/
import Derived.Test.YtobannolnjmegaaRefD
namespace Go.Proofs.Ytobannolnjmegaa
open Go.RowKit F Flow

/-- What a product's loop knows at its head: the two factors, the result's place, and the product so far. -/
def MulInv (w : World) (x y z : Int) (b : Nat) (wr : World) : Prop :=
  Below w.heap.size w wr ∧ wr.heap[w.heap.size]? = some (.cells #[.int .u64 (lo x), .int .u64 (hi x)] 38 (0, 0)) ∧ wr.heap[w.heap.size + 1]? = some (.cells #[.int .u64 (lo y), .int .u64 (hi y)] 38 (0, 0)) ∧
    wr.heap[w.heap.size + 1 + 1]? = some (.cells #[.int .u64 0, .int .u64 0] 38 (0, 0)) ∧ wr.heap[b]? = some (.cells #[.int .u64 (lo z), .int .u64 (hi z)] 38 (0, 0))

theorem MulInv.on {w : World} {x y z : Int} {b : Nat} {w1 w2 : World} (h : MulInv w x y z b w1) (hb : Below w1.heap.size w1 w2) : MulInv w x y z b w2 :=
  ⟨below_next h.1 h.1.size hb, keeps hb h.2.1, keeps hb h.2.2.1, keeps hb h.2.2.2.1, keeps hb h.2.2.2.2⟩
theorem MulInv.put {w : World} {x y z : Int} {b : Nat} {w1 : World} (z' : Int) (h : MulInv w x y z b w1) (hb : w.heap.size + 1 + 1 < b) :
    MulInv w x y z' b ((w1.setCell ⟨b, 0, none⟩ (.int .u64 (lo z'))).setCell ⟨b, 1, none⟩ (.int .u64 (hi z'))) :=
  ⟨below_store2 h.1 (by omega), store2_far h.2.1 (by omega), store2_far h.2.2.1 (by omega), store2_far h.2.2.2.1 (by omega), store2 h.2.2.2.2⟩

end Go.Proofs.Ytobannolnjmegaa
