/-
  Law 26's own first step.
-/
import Derived.Test.YtjkbinpgclnedaaNetF
import Derived.Lib.SlBytesConst
namespace Go.Proofs.Ytjkbinpgclnedaa
open Go.RowKit Flow
set_option linter.unusedVariables false

theorem owns_some {w : World} {base n size : Nat} {e : TypeId} {v : Value} {xs : List Value} (h : w.ownsRow base e size v n xs) (hn : 0 < n) : ∃ g cap, v = .slice (some ⟨g, 0, none⟩) n cap := by
  rcases h.2 with ⟨_, h0⟩ | ⟨g, cap, cur, e, _⟩
  · omega
  · exact ⟨g, cap, e⟩
set_option maxHeartbeats 4000000 in
theorem net_awake (w : World) : Calls Try.prog 6 #[] w fun e w' => e = .returned (.bool true) ∧ Below w.heap.size w w' := by
  have kc := fun (w : World) (C : Array Value) (n c : Nat) => Lib.run_convert_bytes_const (P := Try.prog) w 27 5 C n c Try.underlying27 Try.underlying5
  go_enter Try.func6, Try.ntmps6
  go_wp2_with fail
  refine (nnew_any _).mono ?_
  rintro e w0 ⟨rfl, hw0⟩
  have hb := (Below.refl w.heap.size w).alloc (Nat.le_refl _) (.cells #[.slice none 0 0, .int .i64 0, .int .i64 0, .int .i64 0] 46 (0, 0))
  have hp := alloc_at (w := w) (k := w.heap.size) (o := .cells #[.slice none 0 0, .int .i64 0, .int .i64 0, .int .i64 0] 46 (0, 0)) rfl
  rw [← hw0] at hb hp
  clear hw0
  have hl0 := lt_of_get hp
  go_wp2_with fail
  refine name_calls (fun w1 => Below w.heap.size w w1 ∧ w1.heap[w.heap.size]? = some (.cells #[.slice none 0 0, .int .i64 0, .int .i64 0, .int .i64 0] 46 (0, 0)) ∧ w1.heap[w0.heap.size]? = some (.cells #[.int .u8 120] 5 (1, 2))) ⟨hb.alloc hb.size _, alloc_keeps hp, alloc_at rfl⟩ ?_
  clear kc hb hp
  rintro w1 ⟨hb, hp, kq⟩
  have hb0 : w.heap.size < w1.heap.size := lt_of_get hp
  generalize w0.heap.size = q at *
  generalize hpe : w.heap.size = p at *
  have htx : Txt w1 p (Value.slice none 0 0).ownBlock (.slice (some ⟨q, 0, none⟩) [(120 : Int)].length 1) [120] := .inr ⟨q, 0, 1, rfl, fun i hi => ⟨by omega, by simp [Value.ownBlock], by
    obtain rfl : i = 0 := by simp at hi; omega
    simp [World.cell?, kq]⟩⟩
  have hown : w1.ownsRow (p + 1) 32 3 (.slice none 0 0) ([] : List (Int × Int × Value)).length (lcells []) := World.ownsRow_nil _ _ _ _
  refine (send_ok p [] _ 0 0 0 3 0 _ 1 [120] may_30 (by decide) (by decide) (by decide) (by decide) w1 hp hown htx).mono ?_
  rintro e w2 ⟨v2, bv, rfl, hM, hw2, hp2, hown2, htx2, _, a2, n2, c2, rfl⟩
  clear hp kq htx hown
  replace hb := hM.below hb (Nat.le_refl _) (fun g e => by simp [Value.ownBlock] at e) (by omega)
  have hsz2 := hM.size
  obtain ⟨g2, cap2, rfl⟩ := owns_some hown2 (by decide)
  have hg2 := hown2.lt g2 rfl
  clear hM hw2
  go_wp2_with fail
  refine (double_ok p g2 cap2 0 [(3, 0, .slice a2 n2 c2)] 1 0 0 3 0 a2 n2 c2 [120] rfl (by simp) (by decide) w2 hp2 hown2 htx2).mono ?_
  rintro e w3 ⟨v3, bv, rfl, hM, hw3, hp3, hown3, htx3, a3, n3, c3, rfl⟩
  replace hb := hM.below hb (Nat.le_refl _) (fun g e => by cases e; omega) (by omega)
  have hsz3 := hM.size
  obtain ⟨g3, cap3, rfl⟩ := owns_some hown3 (by simp)
  have hg3 := hown3.lt g3 rfl
  clear hM hw3 hp2 hown2 htx2
  go_wp2_with fail
  have hS : Slices [(3, 0, .slice a2 n2 c2), (3, 0, .slice a3 n3 c3)] := fun x hx => by
    simp only [List.mem_cons, List.not_mem_nil, or_false] at hx
    rcases hx with rfl | rfl
    · exact ⟨_, _, _, rfl⟩
    · exact ⟨_, _, _, rfl⟩
  refine (drop_any p g3 cap3 0 [(3, 0, .slice a2 n2 c2), (3, 0, .slice a3 n3 c3)] 1 0 0 3 0 a2 n2 c2 rfl (by simp) (by decide) (by decide) hS w3 hp3 hown3).mono ?_
  rintro e w4 ⟨rfl, hM, hp4, hown4⟩
  replace hb := hM.below hb (Nat.le_refl _) (fun g e => by cases e; omega) (by omega)
  have htx4 := htx3.moved hM (.inl rfl)
  have hsz4 := hM.size
  clear hM hp3 hown3 htx3
  go_wp2_with fail
  refine (deliver_any p g3 cap3 0 [(3, 0, .slice a3 n3 c3)] 1 0 1 3 0 a3 n3 c3 rfl (by simp) (by decide) (by decide) (hS.erase 0) w4 hp4 hown4).mono ?_
  rintro e w5 ⟨rfl, hM, hp5, hown5⟩
  replace hb := hM.below hb (Nat.le_refl _) (fun g e => by cases e; omega) (by omega)
  have htx5 := htx4.moved hM (.inl rfl)
  have hsz5 := hM.size
  clear hM hp4 hown4 htx4
  have hcv := fun (w' : World) (hb : Below w5.heap.size w5 w') => (htx5.moved (Moved.of_below hb) (.inl rfl)).conv (P := Try.prog) Try.underlying27 Try.underlying5 Try.underlying9
  have e120 : strOfNums [120] = ⟨#[120]⟩ := rfl
  rw [e120] at hcv
  have hcv2 := hcv _ ((Below.refl w5.heap.size w5).alloc (Nat.le_refl _) (.cells #[.int .i64 3, .int .i64 0, .slice a3 n3 c3] 32 (0, 0)))
  go_wp2_with fail
  refine call_then (nlen_any p _ 0 cap3 1 1 1 _ (alloc_keeps hp5)) ?_
  intro w6 hb6
  replace hb := below_next (hb.alloc (by omega) _) (by simp; omega) hb6
  go_wp2
  go_ret
  exact ⟨rfl, by rw [hpe]; exact hb⟩
end Go.Proofs.Ytjkbinpgclnedaa
