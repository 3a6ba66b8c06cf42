/-
  Messages: the check finds a share that is too long.
-/
import Derived.Test.YteidilbkegjgfaaPkE
namespace Go.Proofs.Yteidilbkegjgfaa
open Go.RowKit Flow
set_option linter.unusedVariables false
set_option linter.unusedSimpArgs false

set_option maxHeartbeats 2000000 in
theorem check_long (As : Option Addr) (g n c m cs : Nat) (h3n : 3 < n) (hn : n ≤ 256) (hm : 65536 < m) (w : World) (hE : Ents w g n (.slice As m cs)) :
    Calls Try.prog 11 #[.agg (mcells 2 (.slice (some ⟨g, 0, none⟩) n c))] w fun e w' => e = .returned (.int .i64 4) ∧ Below w.heap.size w w' := by
  have h1 : (n : Int) ≤ 256 := by omega
  replace hE := Lib.hid hE
  go_enter Try.func11, Try.ntmps11
  unfold mcells
  go_wp2_with fail
  refine (code_ok _).mono ?_
  rintro e w2 ⟨rfl, rfl⟩
  have hb := (Below.refl w.heap.size w).alloc (Nat.le_refl _) (.cells (mcells 2 (.slice (some ⟨g, 0, none⟩) n c)) 27 (0, 0))
  unfold mcells at hb
  replace hE := hE.out.up hb
  go_wp2_with fail
  go_loopw [59] (fun i wr => ∃ k : Nat, k ≤ 3 ∧ i = .int .i64 (k : Int) ∧ Below w.heap.size w wr ∧ Ents wr g n (.slice As m cs)) (fun i _ => n - (intOf i).toNat)
  case atStart => exact ⟨0, by omega, rfl, hb, hE⟩
  case round =>
    clear hb hE
    obtain ⟨k, hk, rfl, hb, hE⟩ := hrel
    by_cases hlt : k < 3
    · have hr := hE k (by omega)
      have hsh : share (.slice As m cs) k = .slice none 0 0 := by unfold share; rw [if_neg (by omega)]
      rw [hsh] at hr
      have k0 : (0 : Int) ≤ (k : Int) := by omega
      have k1 : (k : Int) < (n : Int) := by omega
      have hC := fun w => entry_short none 0 0 (by decide) w
      have hone := one_ent none 0 0
      replace hC := Lib.hid hC
      replace hone := Lib.hid hone
      go_wp2_with (first
        | (refine list_load_mid _ _ _ _ _ _ rfl rfl rfl hr Try.underlying47 rfl (by kernel_rfl) ?_)
        | (refine list_store_whole _ _ _ _ (ent (.slice none 0 0)).toList entz 47 rfl rfl rfl rfl (alloc_at rfl) rfl (by kernel_rfl) hone.out ?_; intro w3 hbut kz; obtain ⟨hb3, kr3⟩ := landedE hb hb.size hE hbut)
        | (refine list_load_mid _ _ _ 0 _ _ rfl rfl rfl (At0.of_block kz) Try.underlying47 rfl (by kernel_rfl) ?_))
      clear kz hE hb hr
      refine call_then (hC.out _) ?_
      intro w4 hb4
      have hb := below_next hb3 hb3.size hb4
      have hE := kr3.up hb4
      clear hb4 hb3 kr3 hbut
      go_wp2
      exact ⟨⟨k + 1, by omega, by go_num, hb, hE⟩, left_u (by omega)⟩
    · obtain rfl : k = 3 := by omega
      have hr := hE 3 h3n
      have hsh : share (.slice As m cs) 3 = .slice As m cs := rfl
      rw [hsh] at hr
      have k0 : (0 : Int) ≤ ((3 : Nat) : Int) := by omega
      have k1 : ((3 : Nat) : Int) < (n : Int) := by omega
      have hC := fun w => entry_long As m cs hm w
      have hone := one_ent As m cs
      replace hC := Lib.hid hC
      replace hone := Lib.hid hone
      go_wp2_with (first
        | (refine list_load_mid _ _ _ _ _ _ rfl rfl rfl hr Try.underlying47 rfl (by kernel_rfl) ?_)
        | (refine list_store_whole _ _ _ _ (ent (.slice As m cs)).toList entz 47 rfl rfl rfl rfl (alloc_at rfl) rfl (by kernel_rfl) hone.out ?_; intro w3 hbut kz; obtain ⟨hb3, kr3⟩ := landedE hb hb.size hE hbut)
        | (refine list_load_mid _ _ _ 0 _ _ rfl rfl rfl (At0.of_block kz) Try.underlying47 rfl (by kernel_rfl) ?_))
      clear kz hE hb hr
      refine call_then (hC.out _) ?_
      intro w4 hb4
      have hb := below_next hb3 hb3.size hb4
      clear hb4 hb3 kr3 hbut
      go_wp2
      go_ret
      exact ⟨rfl, hb⟩
end Go.Proofs.Yteidilbkegjgfaa
