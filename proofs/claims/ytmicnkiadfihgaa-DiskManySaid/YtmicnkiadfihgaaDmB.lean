/-
  A disk of many files with nothing in them: one more.
-/
import Derived.Test.YtmicnkiadfihgaaDmA
namespace Go.Proofs.Ytmicnkiadfihgaa
open Go.RowKit Flow Go.Maps
set_option linter.unusedVariables false
set_option linter.unusedSimpArgs false

set_option maxRecDepth 20000 in
set_option maxHeartbeats 4000000 in
theorem create_E (B d m n : Nat) (lim : Int) (D : DataW Value) (s : ByteArray) (hsz : s.size ≤ maxLen) (hno : Maps.has D (klitK s) = false) (hn : n < maxLen) (w0 w : World) (hb : Below B w0 w) (hs : B ≤ w.heap.size) (h : DsE B d m n lim D w) :
    Calls Try.prog 25 #[.pointer (some ⟨d, 0, none⟩), .string s] w fun e w' => ∃ f, e = .returned (.pointer (some ⟨f, 0, none⟩)) ∧ Below B w0 w' ∧ DsE B d m (n + 1) lim (D.put (klitK s) (.held (.pointer (some ⟨f, 0, none⟩)))) w' ∧ w'.heap[f]? = some (.cells #[.slice none 0 0, .int .i64 0] 56 (0, 0)) ∧ B ≤ f ∧ w.heap.size ≤ w'.heap.size := by
  have heq : ∀ w : World, (binOp .eql 51 (.map (some m)) (.map none)).run Try.prog w = .ok (.bool false) w := fun w => by
    simp only [binOp]
    simp [run_equal_map_nil w 51 9 54 (some m) Try.underlying51]
  obtain ⟨c0, c1⟩ := disk_cells h.kd
  have hkey := Lib.hid (Go.WideMaps.keyOf_string_mk (P := Try.prog) (s := s) Try.underlying9 hsz)
  have hm1 := Lib.hid (h.hm.alloc (.cells #[.slice none 0 0, .int .i64 0] 56 (0, 0)))
  have hkd := h.kd
  have hltm0 := map_ltK h.hm
  have hdm : d ≠ m := map_neK h.kd h.hm
  have hltd := lt_of_get h.kd
  replace hn := Lib.hid hn
  replace hb := Lib.hid hb
  replace h := Lib.hid h
  go_enter Try.func25, Try.ntmps25
  go_wp2_with (first
    | (at_mapUpdate; refine wpList_mapUpdate_own _ rfl _ _ _ 51 rfl 9 54 keyed_strK Try.underlying51 RvK m n D rfl hm1.out hn.out _ _ _ rfl rfl hkey.out (.held (.pointer (some ⟨w.heap.size, 0, none⟩))) [] rfl ?_; intro w1 hm2 hg2)
    | go_in)
  go_ret
  have hi := h.out.hm.isMap
  have hbA := hb.out.alloc hs (.cells #[.slice none 0 0, .int .i64 0] 56 (0, 0))
  have hltm := map_ltK h.out.hm
  have hkeep : ∀ k, k < w.heap.size + 1 → k ≠ m → w1.heap[k]? = (w.alloc (.cells #[.slice none 0 0, .int .i64 0] 56 (0, 0))).heap[k]? := fun k hk hne => hg2.block k (by simpa using hk) (fun e => hne (Option.some.inj e))
  have hkf : w1.heap[w.heap.size]? = some (.cells #[.slice none 0 0, .int .i64 0] 56 (0, 0)) := (hkeep _ (Nat.lt_succ_self _) (by omega)).trans (alloc_at rfl)
  have hold : ∀ {k : Nat} {x : Array Value} {t : TypeId} {fr : Nat × Nat}, w.heap[k]? = some (.cells x t fr) → w1.heap[k]? = some (.cells x t fr) := fun {k x t fr} hk => (hkeep k (by have := lt_of_get hk; omega) (map_neK hk h.out.hm)).trans (alloc_keeps hk)
  refine ⟨w.heap.size, rfl, hbA.grown hg2 (by simp; omega) (fun j hj => by cases hj; exact h.out.lows.2), ⟨hold h.out.kd, hm2, fun kl hk => ?_, h.out.lows⟩, hkf, hs, by have := hg2.size; simp at this; omega⟩
  by_cases e : kl = klitK s
  · subst e
    exact ⟨w.heap.size, fun zd => Maps.atKey_put_same hi (klit_keyK s) _ zd, hs, hkf⟩
  · rw [Maps.has_put_other e] at hk
    obtain ⟨f, h1, h2, h3⟩ := h.out.ptr kl hk
    exact ⟨f, fun zd => (Maps.atKey_put_other e _ zd).trans (h1 zd), h2, hold h3⟩
end Go.Proofs.Ytmicnkiadfihgaa
