/-
  Any number to any power is the document's; by what wide's Inv says a number is 1, and of 0 it says that there is none.
-/
import Derived.Test.YtnlnbikiocdpdaaDoorWideG
import Derived.Test.YtnlnbikiocdpdaaDoorPrime
namespace Go.Proofs.YtnlnbikiocdpdaaDoor
open Go.ChangeShapes Go.WideShapes Go.ChangeAt Go.RowKit F Flow
set_option linter.unusedVariables false
attribute [local go_sem] eql_elem

/-- Fermat, of the large field. -/
theorem winv_one {a : Int} (h0 : 0 ≤ a) (hz : redu 2 a ≠ 0) : mul 2 a (pow 2 a 340282366920938462946865773367900766207) = 1 := by
  have hb := redu_nonneg 2 a
  have hl := redu_lt 2 a
  have hp := pow_bound 2 a 340282366920938462946865773367900766207
  have e : mul 2 a (pow 2 a 340282366920938462946865773367900766207) = redu 2 a ^ 340282366920938462946865773367900766208 % M 2 := by
    rw [show mul 2 a (pow 2 a 340282366920938462946865773367900766207) = redu 2 a * redu 2 (pow 2 a 340282366920938462946865773367900766207) % M 2 from rfl, redu_small (by decide) hp.1 hp.2]
    rw [show pow 2 a 340282366920938462946865773367900766207 = redu 2 a ^ 340282366920938462946865773367900766207 % M 2 from rfl, Int.mul_emod, Int.emod_emod, ← Int.mul_emod, Int.mul_comm, ← Int.pow_succ]
  rw [e]
  rw [M2] at *
  obtain ⟨n, hn⟩ := Int.eq_ofNat_of_zero_le hb
  rw [hn] at hz hl ⊢
  have hnd : ¬ 340282366920938462946865773367900766209 ∣ n := fun h => by
    have := Nat.le_of_dvd (by omega) h
    omega
  have hf := Prime.fermat_one Prime.large_prime hnd
  rw [show (340282366920938462946865773367900766209 : Int) = ((340282366920938462946865773367900766209 : Nat) : Int) from rfl, ← Int.natCast_pow, ← Int.natCast_emod]
  rw [show 340282366920938462946865773367900766209 - 1 = 340282366920938462946865773367900766208 from rfl] at hf
  rw [hf]
  rfl

set_option maxHeartbeats 1000000 in
theorem winv_zero (a : Int) (h0 : 0 ≤ a) (h1 : a < 340282366920938463463374607431768211456) (hz : redu 2 a = 0) (w : World) :
    Calls Tryd.prog 44 #[.agg #[.int .u64 (lo a), .int .u64 (hi a)]] w fun e w' => e = .returned (.tuple #[.agg #[.int .u64 (lo 0), .int .u64 (hi 0)], .int .i64 8]) ∧ Below w.heap.size w w' := by
  have z0 : lo 0 = 0 := rfl
  have z1 : hi 0 = 0 := rfl
  have hc := wof_any a h0 h1
  rw [hz] at hc
  replace hc := Lib.hid hc
  go_enter Tryd.func44, Tryd.ntmps44
  go_wp2_with fail
  refine name_calls (fun w1 => Below w.heap.size w w1 ∧ w1.heap[w.heap.size]? = some (.cells #[.int .u64 (lo a), .int .u64 (hi a)] 34 (0, 0)) ∧ w1.heap[w.heap.size + 1]? = some (.cells #[.int .u64 0, .int .u64 0] 34 (0, 0)))
    ⟨(((Below.refl _ _).alloc (Nat.le_refl _) _).alloc (by simp) _), alloc_keeps (alloc_at rfl), alloc_at (by simp)⟩ ?_
  rintro w1 ⟨b1, k0, k1⟩
  refine call_then (hc.out _) ?_
  intro w2 hw2
  replace b1 := below_next b1 b1.size hw2
  replace k0 := keeps hw2 k0
  replace k1 := keeps hw2 k1
  clear hw2
  obtain ⟨c0, d0, f0, g0⟩ := blk2 k0
  obtain ⟨c1, d1, f1, g1⟩ := blk2 k1
  go_wp2
  obtain ⟨c2, d2, _, _⟩ := blk2 (store2 (u := .int .u64 0) (v := .int .u64 0) k1)
  exact bodyPost_ret (v := .tuple #[.agg #[.int .u64 0, .int .u64 0], .int .i64 8]) (by simp [results, Tryd.results44, go_sem, c2, d2]) rfl ⟨rfl, below_store2 b1 (by omega)⟩
set_option maxHeartbeats 1000000 in
theorem winv_other (a : Int) (h0 : 0 ≤ a) (h1 : a < 340282366920938463463374607431768211456) (hz : redu 2 a ≠ 0) (w : World) :
    Calls Tryd.prog 44 #[.agg #[.int .u64 (lo a), .int .u64 (hi a)]] w fun e w' => e = .returned (.tuple #[.agg #[.int .u64 (lo (pow 2 a 340282366920938462946865773367900766207)), .int .u64 (hi (pow 2 a 340282366920938462946865773367900766207))], .int .i64 0]) ∧ Below w.heap.size w w' := by
  have hd : (lo (redu 2 a) == 0 && hi (redu 2 a) == 0) = false := by rw [zero_iff (redu_nonneg 2 a)]; simpa using hz
  have hl := wless_any (M 2) 2 (by omega) (by decide) (by decide)
  rw [show M 2 - 2 = 340282366920938462946865773367900766207 from rfl, show lo 2 = 2 from rfl, show hi 2 = 0 from rfl] at hl
  have hp := wpow_any a 340282366920938462946865773367900766207 h0 h1 (by omega) (by omega)
  rw [show (340282366920938462946865773367900766207 : Int).toNat = 340282366920938462946865773367900766207 from rfl] at hp
  generalize pow 2 a 340282366920938462946865773367900766207 = z at *
  replace hl := Lib.hid hl
  replace hp := Lib.hid hp
  go_enter Tryd.func44, Tryd.ntmps44
  go_wp2_with fail
  refine name_calls (fun w1 => Below w.heap.size w w1 ∧ w1.heap[w.heap.size]? = some (.cells #[.int .u64 (lo a), .int .u64 (hi a)] 34 (0, 0)) ∧ w1.heap[w.heap.size + 1]? = some (.cells #[.int .u64 0, .int .u64 0] 34 (0, 0)))
    ⟨(((Below.refl _ _).alloc (Nat.le_refl _) _).alloc (by simp) _), alloc_keeps (alloc_at rfl), alloc_at (by simp)⟩ ?_
  rintro w1 ⟨b1, k0, k1⟩
  refine call_then (wof_any a h0 h1 _) ?_
  intro w2 hw2
  replace b1 := below_next b1 b1.size hw2
  replace k0 := keeps hw2 k0
  replace k1 := keeps hw2 k1
  clear hw2
  go_wp2
  refine wp_region_flow1 5 (by kernel_rfl) (by kernel_rfl) (by kernel_rfl) ?_
  apply Exists.intro
  refine ⟨fun ι _ φ hφ => ?_, fun wt hwt => ?_⟩
  · obtain ⟨e0, e1⟩ := hφ.two k0
    simp only [List.take_succ_cons, List.take_zero]
    repeat (go_big_quiet_step ((first
      | (go_at_call 60; exact flow_call hφ (wp_any _))
      | (go_at_call 59; exact flow_call hφ (hl.out _))
      | (go_at_call 57; exact flow_call hφ (hp.out _)))))
    exact wpQuiet_nil rfl
  replace b1 := below_next b1 b1.size hwt
  replace k1 := keeps hwt k1
  clear hwt k0
  obtain ⟨c1, d1, f1, g1⟩ := blk2 k1
  simp only [List.drop_succ_cons, List.drop_zero]
  go_wp2
  obtain ⟨c2, d2, _, _⟩ := blk2 (store2 (u := .int .u64 (lo z)) (v := .int .u64 (hi z)) k1)
  exact bodyPost_ret (v := .tuple #[.agg #[.int .u64 (lo z), .int .u64 (hi z)], .int .i64 0]) (by simp [results, Tryd.results44, go_sem, c2, d2]) rfl ⟨rfl, below_store2 b1 (by omega)⟩

end Go.Proofs.YtnlnbikiocdpdaaDoor
