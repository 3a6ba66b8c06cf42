/-
  Any order: wide's root of 1 is of just that order; of no other order there is one.
-/
import Derived.Test.YtnlnbikiocdpdaaDoorWidePowers
import Derived.Test.YtnlnbikiocdpdaaDoorGoldRoots
namespace Go.Proofs.YtnlnbikiocdpdaaDoor
open Go.ChangeShapes Go.WideShapes Go.ChangeAt Go.RowKit F Flow
set_option linter.unusedVariables false
attribute [local go_sem] eql_elem

theorem wroot_none (log : Int) (h : log < 0 ∨ 66 < log) (w : World) :
    Calls Tryd.prog 39 #[.int .i64 log] w fun e w' => e = .returned (.tuple #[.agg #[.int .u64 0, .int .u64 0], .int .i64 6]) ∧ Below w.heap.size w w' := by
  by_cases h0 : log < 0
  · clear h
    go_enter Tryd.func39, Tryd.ntmps39
    go_wp2
    exact bodyPost_ret (v := .tuple #[.agg #[.int .u64 0, .int .u64 0], .int .i64 6]) (by simp [results, Tryd.results39, go_sem]) rfl ⟨rfl, (Below.refl _ _).alloc (Nat.le_refl _) _⟩
  · have h1 : 66 < log := by omega
    clear h
    go_enter Tryd.func39, Tryd.ntmps39
    go_wp2
    exact bodyPost_ret (v := .tuple #[.agg #[.int .u64 0, .int .u64 0], .int .i64 6]) (by simp [results, Tryd.results39, go_sem]) rfl ⟨rfl, (Below.refl _ _).alloc (Nat.le_refl _) _⟩

theorem wexp_bound (n : Nat) : (0 : Int) ≤ 340282366920938462946865773367900766208 / 2 ^ n ∧ (340282366920938462946865773367900766208 : Int) / 2 ^ n < 340282366920938463463374607431768211456 := by
  have h := half_bound (x := 340282366920938462946865773367900766208) (by omega) n
  omega

set_option maxHeartbeats 1000000 in
theorem wroot_some (log : Int) (h0 : 0 ≤ log) (h1 : log ≤ 66) (w : World) :
    Calls Tryd.prog 39 #[.int .i64 log] w fun e w' => e = .returned (.tuple #[.agg #[.int .u64 (lo (pow 2 7 (340282366920938462946865773367900766208 / 2 ^ log.toNat : Int).toNat)), .int .u64 (hi (pow 2 7 (340282366920938462946865773367900766208 / 2 ^ log.toNat : Int).toNat))], .int .i64 0]) ∧ Below w.heap.size w w' := by
  have he := wexp_bound log.toNat
  have hp := wpow_any 7 (340282366920938462946865773367900766208 / 2 ^ log.toNat) (by omega) (by omega) he.1 he.2
  rw [show lo 7 = 7 from rfl, show hi 7 = 0 from rfl] at hp
  have hl := wless_any (M 2) 1 (by omega) (by decide) (by decide)
  rw [show M 2 - 1 = 340282366920938462946865773367900766208 from rfl, show lo 1 = 1 from rfl, show hi 1 = 0 from rfl] at hl
  have hs := wshift_any 340282366920938462946865773367900766208 log (by omega) (by omega) h0 (by omega)
  generalize pow 2 7 (340282366920938462946865773367900766208 / 2 ^ log.toNat : Int).toNat = z at *
  generalize (340282366920938462946865773367900766208 / 2 ^ log.toNat : Int) = n at *
  replace hl := Lib.hid hl
  replace hp := Lib.hid hp
  replace hs := Lib.hid hs
  go_enter Tryd.func39, Tryd.ntmps39
  go_wp2_with fail
  refine name_calls (fun w1 => Below w.heap.size w w1 ∧ w1.heap[w.heap.size]? = some (.cells #[.int .u64 0, .int .u64 0] 34 (0, 0)))
    ⟨(Below.refl _ _).alloc (Nat.le_refl _) _, alloc_at rfl⟩ ?_
  rintro w1 ⟨b1, k0⟩
  refine call_then (wp_any _) ?_
  intro w2 hw2
  replace b1 := below_next b1 b1.size hw2
  replace k0 := keeps hw2 k0
  clear hw2
  go_wp2_with fail
  refine call_then (hl.out _) ?_
  intro w3 hw3
  replace b1 := below_next b1 b1.size hw3
  replace k0 := keeps hw3 k0
  clear hw3
  go_wp2_with fail
  refine call_then (hs.out _) ?_
  intro w4 hw4
  replace b1 := below_next b1 b1.size hw4
  replace k0 := keeps hw4 k0
  clear hw4
  go_wp2_with fail
  refine call_then (hp.out _) ?_
  intro w5 hw5
  replace b1 := below_next b1 b1.size hw5
  replace k0 := keeps hw5 k0
  clear hw5
  obtain ⟨c0, d0, f0, g0⟩ := blk2 k0
  go_wp2
  obtain ⟨c2, d2, _, _⟩ := blk2 (store2 (u := .int .u64 (lo z)) (v := .int .u64 (hi z)) k0)
  exact bodyPost_ret (v := .tuple #[.agg #[.int .u64 (lo z), .int .u64 (hi z)], .int .i64 0]) (by simp [results, Tryd.results39, go_sem, c2, d2]) rfl ⟨rfl, below_store2 b1 (Nat.le_refl _)⟩

theorem wpow_nat (a n : Nat) (ha : a < 340282366920938462946865773367900766209) : pow 2 a n = ((a ^ n % 340282366920938462946865773367900766209 : Nat) : Int) := by
  unfold pow
  rw [redu_small (by decide) (by omega) (by rw [M2]; omega), M2, Int.natCast_emod, Int.natCast_pow]
  rfl
theorem wpow_val (n v f : Nat) (hf : n < 2 ^ f) (h : Prime.pmF 340282366920938462946865773367900766209 7 f n = v) : pow 2 7 n = (v : Int) := by
  rw [← h, Prime.pmF_eq _ _ f n hf]
  exact wpow_nat 7 n (by omega)
theorem wpow_half : pow 2 7 170141183460469231473432886683950383104 = 340282366920938462946865773367900766208 := wpow_val 170141183460469231473432886683950383104 340282366920938462946865773367900766208 128 (by decide +kernel) (by decide +kernel)
theorem wpow_whole : pow 2 7 340282366920938462946865773367900766208 = 1 := wpow_val 340282366920938462946865773367900766208 1 128 (by decide +kernel) (by decide +kernel)
theorem wexp_halves : ∀ L : Fin 67, 1 ≤ L.val → (340282366920938462946865773367900766208 / 2 ^ L.val : Int).toNat * 2 ^ (L.val - 1) = 170141183460469231473432886683950383104 := by decide +kernel
theorem wsquare_one (n k : Nat) : mul 2 (pow 2 7 (n * 2 ^ k)) (pow 2 7 (n * 2 ^ k)) = pow 2 7 (n * 2 ^ (k + 1)) := by
  rw [mul_pow, Nat.pow_succ, ← Nat.mul_two, Nat.mul_assoc]

end Go.Proofs.YtnlnbikiocdpdaaDoor
