/-
  Messages: codes, an entry's check, a writer's bytes.
-/
import Derived.Test.YtdjgkojcckopaaaPkB
import Derived.Laws.Cover3
namespace Go.Proofs.Ytdjgkojcckopaaa
open Go.RowKit Flow
set_option linter.unusedVariables false
set_option linter.unusedSimpArgs false

/-- An entry of which nothing is told but its share. -/
def ent (s : Value) : Array Value := #[.int .u8 0, .int .u8 0, .int .u8 0, .int .u8 0, .int .u8 0, .int .u8 0, .int .u8 0, .int .u8 0, .int .u8 0, .int .u8 0, .int .u8 0, .int .u8 0, .int .u8 0, .int .u8 0, .int .u8 0, .int .u8 0, .int .u64 0, .slice none 0 0, s, .int .i64 0]
set_option maxHeartbeats 2000000 in
theorem clone_owned (base : Nat) (v : Value) (xs : List Int) (hl : xs.length ≤ 1073741824) (h0 : 0 < xs.length) (w : World) (h : w.ownsRow base 5 1 v xs.length (xs.map (Value.int .u8))) :
    Calls Try.prog 35 #[v] w fun e w' => (∃ a k, e = .returned (.slice a xs.length k)) ∧ Below w.heap.size w w' := by
  rcases h.2 with ⟨rfl, hn⟩ | ⟨b, c, cur, rfl, _⟩
  · omega
  · obtain ⟨i0, hinf, hz0, hz1, hz2⟩ := info_parts info_byte
    have hown : (w.alloc (.cells #[] 5 (0, 0))).ownsRow w.heap.size 5 1 (.slice (some ⟨w.heap.size, 0, none⟩) 0 0) 0 [] := World.ownsRow_lit w #[] 0 (Nat.le_refl _) (by unfold maxLen; omega) rfl
    have hn : ∀ j u, (xs.map (Value.int .u8))[j]? = some u → (w.alloc (.cells #[] 5 (0, 0))).cell? ((⟨b, 0, none⟩ : Addr).add j) = some u := fun j u hj => by
      have h3 := h.cells (g := b) rfl j u hj
      rw [((Below.refl w.heap.size w).alloc (Nat.le_refl _) (.cells #[] 5 (0, 0))).cell (World.block_lt_of_cell? _ _ h3), h3]
    have hone := one_bytes xs
    have hlen : (xs.map (Value.int .u8)).length = xs.length * 1 := by simp
    clear h
    generalize xs.length = m at *
    replace hn := Lib.hid hn
    replace hown := Lib.hid hown
    replace hone := Lib.hid hone
    replace hlen := Lib.hid hlen
    replace hl := Lib.hid hl
    have heq : ∀ w : World, (binOp .eql 23 (.slice (some ⟨b, 0, none⟩) m c) (.slice none 0 0)).run Try.prog w = .ok (.bool false) w := fun w => by
      simp only [binOp]
      simp [run_equal_slice_nil w 23 5 (some ⟨b, 0, none⟩) m c Try.underlying23]
    go_enter Try.func35, Try.ntmps35
    go_wp2_with (at_builtin; refine wpList_append_own _ rfl _ _ 23 rfl w.heap.size 5 i0 (.int .u8 0) 1 1 Try.underlying23 hinf hz0 hz1 hz2 rfl (by decide) _ _ _ rfl hown.out ⟨b, 0, none⟩ m c (xs.map (Value.int .u8)) rfl hlen.out hn.out hone.out (by have := hl.out; unfold maxLen; omega) (by have := hl.out; omega) (by simp) ?_; intro v1 w6 hown6 hg6 hnn; have hb6 := ((Below.refl w.heap.size w).alloc (Nat.le_refl _) (.cells #[] 5 (0, 0))).grown hg6 (by simp) (fun k hk => by cases hk; exact Nat.le_refl _); clear hg6)
    go_ret
    obtain ⟨a1, k1, rfl⟩ := owns_slice hown6
    exact ⟨⟨a1, k1, by simp⟩, hb6⟩
theorem bytes_any (p : Nat) (xs : List Int) (hl : xs.length ≤ 1073741824) (h0 : 0 < xs.length) (w : World) (hW : Wr w p xs) :
    Calls Try.prog 9 #[.pointer (some ⟨p, 0, none⟩)] w fun e w' => (∃ a k, e = .returned (.slice a xs.length k)) ∧ Below w.heap.size w w' := by
  obtain ⟨v, hv, hown⟩ := hW
  have hc := clone_owned (p + 1) v xs hl h0 w hown
  replace hc := Lib.hid hc
  have c0 : w.cell? ⟨p, 0, none⟩ = some v := by simp [World.cell?, hv]
  clear hown
  go_enter Try.func9, Try.ntmps9
  go_wp2_with fail
  refine hc.out.mono ?_
  rintro e w2 ⟨⟨a, k, rfl⟩, hb⟩
  go_wp2
  go_ret
  exact ⟨⟨a, k, rfl⟩, hb⟩
end Go.Proofs.Ytdjgkojcckopaaa
