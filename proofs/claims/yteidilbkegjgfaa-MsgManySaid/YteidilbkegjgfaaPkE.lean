/-
  Messages: the check.
-/
import Derived.Test.YteidilbkegjgfaaPkD
import Derived.Test.YteidilbkegjgfaaMid
namespace Go.Proofs.Yteidilbkegjgfaa
open Go.RowKit Flow
set_option linter.unusedVariables false
set_option linter.unusedSimpArgs false

/-- A message of which nothing is told but its kind and entries. -/
def mcells (k : Int) (s : Value) : Array Value := #[.int .u8 k, .int .u64 0, .int .u64 0, .int .i64 0, .int .u8 0, .int .u8 0, .int .u8 0, .int .u8 0, .int .u8 0, .int .u8 0, .int .u8 0, .int .u8 0, .int .u8 0, .int .u8 0, .int .u8 0, .int .u8 0, .int .u8 0, .int .u8 0, .int .u8 0, .int .u8 0, .int .i64 0, s]
/-- The entries of a row: all say nothing, but that the fourth has a share. -/
def share (s : Value) (k : Nat) : Value := if k = 3 then s else .slice none 0 0
def Ents (w : World) (g n : Nat) (s : Value) : Prop := ∀ k, k < n → w.rangeAt g (k * 20) (ent (share s k)).toList
theorem Ents.up {w w' : World} {g n : Nat} {s : Value} (h : Ents w g n s) (hb : Below w.heap.size w w') : Ents w' g n s := fun k hk j u hj => by
  have h3 := h k hk j u hj
  rw [hb.cell (World.block_lt_of_cell? _ _ h3), h3]
theorem check_many (g n c : Nat) (hn : 256 < n) (hn2 : n ≤ 300) (w : World) : Calls Try.prog 11 #[.agg (mcells 2 (.slice (some ⟨g, 0, none⟩) n c))] w fun e w' => e = .returned (.int .i64 5) ∧ Below w.heap.size w w' := by
  have h1 : (256 : Int) < (n : Int) := by omega
  go_enter Try.func11, Try.ntmps11
  unfold mcells
  go_wp2_with fail
  refine (code_ok _).mono ?_
  rintro e w2 ⟨rfl, rfl⟩
  go_wp2
  go_ret
  exact ⟨rfl, (Below.refl _ _).alloc (Nat.le_refl _) _⟩
theorem one_ent (A : Option Addr) (m c : Nat) : ∀ u ∈ (ent (.slice A m c)).toList, u.oneCell' = true := fun u hu => by
  simp [ent] at hu
  rcases hu with rfl | rfl | rfl | rfl | rfl <;> rfl
def entz : List Value := (ent (.slice none 0 0)).toList
theorem share_slice (A : Option Addr) (m c k : Nat) (hm : m ≤ 65536) : ∃ a x y, share (.slice A m c) k = .slice a x y ∧ x ≤ 65536 := by
  unfold share
  split
  · exact ⟨_, _, _, rfl, hm⟩
  · exact ⟨_, _, _, rfl, by omega⟩
theorem landedE {B n : Nat} {a w w3 : World} {o : Obj} {g : Nat} {s : Value} (hb : Below B a w) (hB : B ≤ w.heap.size) (kr : Ents w g n s) (hbut : But w.heap.size (w.alloc o) w3) : Below B a w3 ∧ Ents w3 g n s := by
  have hb3 : Below w.heap.size w w3 := hbut.below ((Below.refl _ _).alloc (Nat.le_refl _) _) (Nat.le_refl _) (by simp)
  exact ⟨below_next hb hB hb3, kr.up hb3⟩
set_option maxHeartbeats 2000000 in
theorem check_ok (kd : Int) (hk : kd = 2 ∨ kd = 4) (A As : Option Addr) (g n c m cs : Nat) (hA : 0 < n → A = some ⟨g, 0, none⟩) (hn : n ≤ 256) (hm : m ≤ 65536) (w : World) (hE : Ents w g n (.slice As m cs)) :
    Calls Try.prog 11 #[.agg (mcells kd (.slice A n c))] w fun e w' => e = .returned (.int .i64 0) ∧ Below w.heap.size w w' := by
  have h1 : (n : Int) ≤ 256 := by omega
  have h2 : ¬ (kd < 1) := by omega
  have h3 : ¬ (7 < kd) := by omega
  have h4 : kd ≠ 1 := by omega
  have h5 : kd ≠ 7 := by omega
  replace hE := Lib.hid hE
  replace hA := Lib.hid hA
  clear hk
  go_enter Try.func11, Try.ntmps11
  unfold mcells
  go_wp2_with fail
  refine (code_ok _).mono ?_
  rintro e w2 ⟨rfl, rfl⟩
  have hb := (Below.refl w.heap.size w).alloc (Nat.le_refl _) (.cells (mcells kd (.slice A n c)) 27 (0, 0))
  unfold mcells at hb
  replace hE := hE.out.up hb
  go_wp2_with fail
  go_loopw [59] (fun i wr => ∃ k : Nat, k ≤ n ∧ i = .int .i64 (k : Int) ∧ Below w.heap.size w wr ∧ Ents wr g n (.slice As m cs)) (fun i _ => n - (intOf i).toNat)
  case atStart => exact ⟨0, by omega, rfl, hb, hE⟩
  case round =>
    clear hb hE
    obtain ⟨k, hk, rfl, hb, hE⟩ := hrel
    by_cases hlt : k < n
    · obtain rfl := hA.out (by omega)
      have hr := hE k hlt
      obtain ⟨a, x, y, hsh, hx⟩ := share_slice As m cs k hm
      rw [hsh] at hr
      have k0 : (0 : Int) ≤ (k : Int) := by omega
      have k1 : (k : Int) < (n : Int) := by omega
      have hC := fun w => entry_short a x y hx w
      have hone := one_ent a x y
      replace hC := Lib.hid hC
      replace hone := Lib.hid hone
      go_wp2_with (first
        | (refine list_load_mid _ _ _ _ _ _ rfl rfl rfl hr Try.underlying47 rfl (by kernel_rfl) ?_)
        | (refine list_store_whole _ _ _ _ (ent (.slice a x y)).toList entz 47 rfl rfl rfl rfl (alloc_at rfl) rfl (by kernel_rfl) hone.out ?_; intro w3 hbut kz; obtain ⟨hb3, kr3⟩ := landedE hb hb.size hE hbut)
        | (refine list_load_mid _ _ _ 0 _ _ rfl rfl rfl (At0.of_block kz) Try.underlying47 rfl (by kernel_rfl) ?_))
      clear kz hE hb hr
      refine call_then (hC.out _) ?_
      intro w4 hb4
      have hb := below_next hb3 hb3.size hb4
      have hE := kr3.up hb4
      clear hb4 hb3 kr3 hbut
      go_wp2
      exact ⟨⟨k + 1, by omega, by go_num, hb, hE⟩, left_u (by assumption)⟩
    · obtain rfl : k = n := by omega
      go_wp2
      go_ret
      exact ⟨rfl, hb⟩
end Go.Proofs.Yteidilbkegjgfaa
