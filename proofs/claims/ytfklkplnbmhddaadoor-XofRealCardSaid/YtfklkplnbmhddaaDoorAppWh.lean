/-
  An append of what a slice says, and where the row then lies.
-/
import Derived.Test.YtfklkplnbmhddaaDoorIns
import Derived.Test.YtfklkplnbmhddaaDoorAppend
import Derived.Test.YtfklkplnbmhddaaDoorPost
import Derived.WalkKit
import Derived.OwnWalk
namespace Go.Proofs.YtfklkplnbmhddaaDoor
open Go.RowKit Flow
set_option linter.unusedVariables false
set_option linter.unusedSimpArgs false

section
variable {P : Program} {w : World}
/-- An append of what a slice says, and where the row then lies. -/
theorem wpList_append_wh {ops : Array Oper} {rest : List Oper} {o : Oper} {a : Act} {Q : Exit → Act → World → Prop} (hgd : o.guard = none) (s x : Operand) (t : TypeId)
    (ho : o.op = .call { callee := .builtin .append, args := #[s, x], argTypes := #[t, t] })
    (base : Nat) (e : TypeId) (i : TypeInfo) (z : Value) (size bytes : Nat) (ht : P.underlying t = some (.slice e)) (hi : P.info? e = some i) (hz : i.zero = some z)
    (hsize : i.size = size) (hby : i.bytes = bytes) (hzs : z.cells.size = size) (hsz : 0 < size)
    (v : Value) (n : Nat) (xs : List Value) (hs : a.eval s = v) (hown : w.ownsRow base e size v n xs)
    (A : Option Addr) (m c : Nat) (news : List Value) (hx : a.eval x = .slice A m c) (hnews : News w A m c size news) (h1 : ∀ u ∈ news, u.oneCell' = true)
    (h63 : n + m ≤ maxLen) (hbytes : (n + m) * bytes ≤ 140737488355328) (hbase : base ≤ w.heap.size)
    (h : ∀ v' w', w'.ownsRow base e size v' (n + m) (xs ++ news) → w.grownBy w' v.ownBlock → (v'.ownBlock = v.ownBlock ∨ v'.ownBlock = some w.heap.size) → wpList P ops Q rest (a.put o.dst v') w') : wpList P ops Q (o :: rest) a w := by
  refine wpList_plain hgd fun K hK => ?_
  cases A with
  | none =>
    obtain ⟨rfl, rfl⟩ := hnews.none rfl
    have hl := hnews.len
    rw [Nat.zero_mul] at hl
    obtain rfl : news = [] := List.eq_nil_of_length_eq_zero hl
    have hrun := run_append_owned_none (P := P) (w := w) base t o.type e i size ht hi v n xs hown
    unfold Oper.wp
    simp [execOp, ho, resolve, invoke, builtin, hs, hx, hrun, Result.andThen]
    exact hK _ _ (h v w (by simpa using hown) ⟨rfl, rfl, rfl, Nat.le_refl _, fun _ _ _ => rfl⟩ (.inl rfl))
  | some ad =>
    obtain ⟨v', w', hr, h2, h3, h4⟩ := run_append_own (P := P) w base t o.type e i z size bytes ht hi hz hsize hby hzs hsz v n xs hown ad m c news hnews.len (hnews.lies ad rfl) h1 h63 hbytes hbase
    have hb : v'.ownBlock = v.ownBlock ∨ v'.ownBlock = some w.heap.size := by
      by_cases hm : 0 < m
      · exact append_where base t o.type e i z size bytes ht hi hz hsize hby v n xs hown ad m c news hnews.len (hnews.lies ad rfl) h1 hm h63 hbytes hr
      · obtain rfl : m = 0 := by omega
        rcases hown.2 with ⟨rfl, rfl⟩ | ⟨g, cap, cur, rfl, _, hg, hnc, hcm, hcs, htake⟩
        · rw [h4.2 ⟨rfl, rfl⟩]; exact .inl rfl
        · subst hsize
          have h5 := run_append_room (P := P) w t o.type e i ht hi g n cap cur hg ad 0 c news hnews.len (hnews.lies ad rfl) h1 (by omega) (by rw [hnews.len, hcs, ← Nat.add_mul]; exact Nat.mul_le_mul_right _ (by omega))
          rw [h5] at hr
          cases hr
          exact .inl rfl
    unfold Oper.wp execOp
    simp only [ho, resolve, invoke, builtin, Sem.run_bind, Sem.run_pure, Result.andThen_ok, List.map_toArray, List.map_cons, List.map_nil, hs, hx, hr]
    exact hK _ _ (h v' w' h2 h3 hb)
end
end Go.Proofs.YtfklkplnbmhddaaDoor
