/-
  The law's fixed fact.
-/
import Derived.Test.YtgdokfchfgnbbaaCjI
namespace Go.Proofs.Ytgdokfchfgnbbaa
open Go.RowKit Flow F
set_option linter.unusedVariables false
set_option linter.unusedSimpArgs false
attribute [local go_sem] eql_elem

def awC : Ci := ⟨5, 1, 0, 3, 2, 2⟩
theorem awC_good : awC.Good := Ci.good (by decide)
theorem awC_enc : encL awC [1, 0, 1] = [1, 0, 1, 1, 1] := by decide
theorem words_of {w : World} {g : Nat} {zs : List Int} {t : TypeId} (h : w.heap[g]? = some (.cells (zs.map (Value.int .u64)).toArray t (0, 0))) : WordsAt w (some ⟨g, 0, none⟩) zs := fun k hk => by
  refine ⟨g, 0, rfl, ?_⟩
  simp [World.cell?, h, hk]
set_option maxRecDepth 20000 in
set_option maxHeartbeats 4000000 in
theorem awake_ok (w : World) : Calls Try.prog 9 #[] w fun e w' => e = .returned (.bool true) ∧ Below w.heap.size w w' := by
  have hE := Lib.hid (fun A w hA => enc_ok awC [1, 0, 1] A 3 3 awC_good (by decide) rfl (by unfold maxLen; decide) (fun x hx => by simp at hx; omega) (by decide) w hA)
  have hV := Lib.hid (fun A c w hc hA => valid_ok awC awC_good [1, 0, 1, 1, 1] A 5 c rfl (by decide) hc (fun x hx => by have := M_big awC.f; simp at hx; omega) w hA)
  rw [show validB awC [1, 0, 1, 1, 1] = true by decide] at hV
  rw [awC_enc] at hE
  go_enter Try.func9, Try.ntmps9
  go_wp2_with fail
  refine name_calls (fun w1 => Below w.heap.size w w1 ∧ w1.heap[w.heap.size]? = some (.cells #[.int .u8 5, .int .u8 1, .int .i64 0, .int .i64 3, .int .i64 2, .int .i64 2] 25 (0, 0)) ∧ w1.heap[w.heap.size + 1]? = some (.cells (([1, 0, 1] : List Int).map (Value.int .u64)).toArray 43 (0, 0))) ⟨((Below.refl _ _).alloc (Nat.le_refl _) _).alloc (by simp) _, alloc_keeps (alloc_at rfl), alloc_at (by simp)⟩ ?_
  rintro w1 ⟨hb, k0, k1⟩
  refine (hE.out (some ⟨w.heap.size + 1, 0, none⟩) w1 (words_of k1)).mono ?_
  rintro e w2 ⟨A, c, rfl, hv, hel, hlc, -⟩
  replace hb := below_next hb hb.size hv
  replace k0 := keeps hv k0
  obtain ⟨p, o, rfl, -, -⟩ := hel 0 (by decide)
  have hV2 := Lib.hid (fun w hA => hV.out (some ⟨p, o, none⟩) c w hlc hA)
  obtain ⟨_, _, e2, a2, b2⟩ := hel 2 (by decide)
  cases e2
  obtain ⟨_, _, e3, a3, b3⟩ := hel 3 (by decide)
  cases e3
  obtain ⟨_, _, e4, a4, b4⟩ := hel 4 (by decide)
  cases e4
  obtain ⟨c0, c1, c2, c3, c4, c5⟩ := blk6 k0
  have a2' : w2.cell? ⟨p, o + 4, none⟩ = some (.int .u64 1) := a2
  have b2' : w2.cell? ⟨p, o + 4 + 1, none⟩ = some (.int .u64 0) := b2
  have a3' : w2.cell? ⟨p, o + 6, none⟩ = some (.int .u64 1) := a3
  have b3' : w2.cell? ⟨p, o + 6 + 1, none⟩ = some (.int .u64 0) := b3
  have a4' : w2.cell? ⟨p, o + 8, none⟩ = some (.int .u64 1) := a4
  have b4' : w2.cell? ⟨p, o + 8 + 1, none⟩ = some (.int .u64 0) := b4
  clear a2 b2 a3 b3 a4 b4 hv hE hV hlc k1
  replace hel := Lib.hid hel
  go_wp2_with fail
  refine call_then (hV2.out _ hel.out) ?_
  intro w3 hv
  replace hb := below_next hb hb.size hv
  go_wp2
  go_ret
  exact ⟨rfl, hb⟩
end Go.Proofs.Ytgdokfchfgnbbaa
