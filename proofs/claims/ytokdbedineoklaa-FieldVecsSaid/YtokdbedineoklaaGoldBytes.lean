/-
  Contracts of gold's bytes (under way).
-/
import Derived.Test.YtokdbedineoklaaGoldC
import Derived.Laws.BitsAllLaws
namespace Go.Proofs.Ytokdbedineoklaa
open Go.RowKit F Flow
set_option linter.unusedVariables false
attribute [local go_sem] eql_elem

/-- The cells of a word's eight bytes. -/
def cells8 (x : Int) : Array Value := #[.int .u8 (x % 256), .int .u8 (x / 256 % 256), .int .u8 (x / 65536 % 256), .int .u8 (x / 16777216 % 256), .int .u8 (x / 4294967296 % 256), .int .u8 (x / 1099511627776 % 256), .int .u8 (x / 281474976710656 % 256), .int .u8 (x / 72057594037927936 % 256)]
set_option maxHeartbeats 2000000 in
theorem gbytes_any (a : Int) (h0 : 0 ≤ a) (h1 : a < 18446744073709551616) (w : World) :
    Calls Try.prog 70 #[.int .u64 a] w fun e w' => e = .returned (.agg (cells8 (redu 1 a))) ∧ Below w.heap.size w w' := by
  have hr := redu1_bound a
  have h := gof_any a h0 h1
  generalize redu 1 a = x at *
  replace h := Lib.hid h
  unfold cells8
  go_enter Try.func70, Try.ntmps70
  go_wp2_with (go_at_call 64; refine (h.out _).mono ?_; rintro e w' ⟨rfl, rfl⟩)
  refine wp_loop_rounds 9 ?_
  rw [rounds_succ]
  go_wp2
  rw [rounds_succ]
  go_wp2
  rw [rounds_succ]
  go_wp2
  rw [rounds_succ]
  go_wp2
  rw [rounds_succ]
  go_wp2
  rw [rounds_succ]
  go_wp2
  rw [rounds_succ]
  go_wp2
  rw [rounds_succ]
  go_wp2
  rw [rounds_succ]
  go_wp2
  exact bodyPost_ret (v := .agg #[.int .u8 (x % 256), .int .u8 (x / 256 % 256), .int .u8 (x / 65536 % 256), .int .u8 (x / 16777216 % 256), .int .u8 (x / 4294967296 % 256), .int .u8 (x / 1099511627776 % 256), .int .u8 (x / 281474976710656 % 256), .int .u8 (x / 72057594037927936 % 256)]) (by simp [results, Try.results70, go_sem]; omega) rfl ⟨rfl, ((Below.refl _ _).alloc (Nat.le_refl _) _).alloc (by simp) _⟩

theorem join8 {y z : Int} {k : Nat} (y0 : 0 ≤ y) (y1 : y < 2 ^ k) (z0 : 0 ≤ z) (hz : z * 2 ^ k < 18446744073709551616) (hk : (2 : Int) ^ k ≤ 18446744073709551616) : bits .or .u64 y (z * 2 ^ k) = y + z * 2 ^ k := by
  obtain ⟨n, rfl⟩ := Int.eq_ofNat_of_zero_le y0
  obtain ⟨m, rfl⟩ := Int.eq_ofNat_of_zero_le z0
  have e : (m : Int) * 2 ^ k = ((m * 2 ^ k : Nat) : Int) := by rw [Int.natCast_mul, Int.natCast_pow]; rfl
  have y2 : n < 2 ^ k := by
    have : ((n : Nat) : Int) < ((2 ^ k : Nat) : Int) := by rw [Int.natCast_pow]; exact y1
    exact Int.ofNat_lt.1 this
  have y3 : (n : Int) < 18446744073709551616 := Int.lt_of_lt_of_le y1 hk
  rw [e] at hz ⊢
  generalize hx : m * 2 ^ k = x at *
  have hm : x % 2 ^ k = 0 := by rw [← hx]; exact Nat.mul_mod_left _ _
  rw [u64_or_nat n x (by omega) (by omega), Nat.or_comm, nat_join k _ _ hm y2]
  omega
set_option maxHeartbeats 4000000 in
theorem gtake_in (y0 y1 y2 y3 y4 y5 y6 y7 x1 x2 x3 x4 x5 x6 x7 x8 : Int) (s0 : bits .or .u64 0 (IntKind.u64.wrap (IntKind.u64.wrap y0)) = x1) (s1 : bits .or .u64 x1 (IntKind.u64.wrap (IntKind.u64.wrap y1 * 256)) = x2) (s2 : bits .or .u64 x2 (IntKind.u64.wrap (IntKind.u64.wrap y2 * 65536)) = x3) (s3 : bits .or .u64 x3 (IntKind.u64.wrap (IntKind.u64.wrap y3 * 16777216)) = x4) (s4 : bits .or .u64 x4 (IntKind.u64.wrap (IntKind.u64.wrap y4 * 4294967296)) = x5) (s5 : bits .or .u64 x5 (IntKind.u64.wrap (IntKind.u64.wrap y5 * 1099511627776)) = x6) (s6 : bits .or .u64 x6 (IntKind.u64.wrap (IntKind.u64.wrap y6 * 281474976710656)) = x7) (s7 : bits .or .u64 x7 (IntKind.u64.wrap (IntKind.u64.wrap y7 * 72057594037927936)) = x8) (hd : x8 < 18446744069414584321) (w : World) :
    Calls Try.prog 68 #[.agg #[.int .u8 y0, .int .u8 y1, .int .u8 y2, .int .u8 y3, .int .u8 y4, .int .u8 y5, .int .u8 y6, .int .u8 y7]] w fun e w' => e = .returned (.tuple #[.int .u64 x8, .int .i64 0]) ∧ Below w.heap.size w w' := by
  have i0 : ∀ w : World, (Instr.index 75 (.agg #[.int .u8 y0, .int .u8 y1, .int .u8 y2, .int .u8 y3, .int .u8 y4, .int .u8 y5, .int .u8 y6, .int .u8 y7]) (.int .i64 0)).run Try.prog w = .ok (.int .u8 y0) w := fun _ => by kernel_rfl
  have i1 : ∀ w : World, (Instr.index 75 (.agg #[.int .u8 y0, .int .u8 y1, .int .u8 y2, .int .u8 y3, .int .u8 y4, .int .u8 y5, .int .u8 y6, .int .u8 y7]) (.int .i64 1)).run Try.prog w = .ok (.int .u8 y1) w := fun _ => by kernel_rfl
  have i2 : ∀ w : World, (Instr.index 75 (.agg #[.int .u8 y0, .int .u8 y1, .int .u8 y2, .int .u8 y3, .int .u8 y4, .int .u8 y5, .int .u8 y6, .int .u8 y7]) (.int .i64 2)).run Try.prog w = .ok (.int .u8 y2) w := fun _ => by kernel_rfl
  have i3 : ∀ w : World, (Instr.index 75 (.agg #[.int .u8 y0, .int .u8 y1, .int .u8 y2, .int .u8 y3, .int .u8 y4, .int .u8 y5, .int .u8 y6, .int .u8 y7]) (.int .i64 3)).run Try.prog w = .ok (.int .u8 y3) w := fun _ => by kernel_rfl
  have i4 : ∀ w : World, (Instr.index 75 (.agg #[.int .u8 y0, .int .u8 y1, .int .u8 y2, .int .u8 y3, .int .u8 y4, .int .u8 y5, .int .u8 y6, .int .u8 y7]) (.int .i64 4)).run Try.prog w = .ok (.int .u8 y4) w := fun _ => by kernel_rfl
  have i5 : ∀ w : World, (Instr.index 75 (.agg #[.int .u8 y0, .int .u8 y1, .int .u8 y2, .int .u8 y3, .int .u8 y4, .int .u8 y5, .int .u8 y6, .int .u8 y7]) (.int .i64 5)).run Try.prog w = .ok (.int .u8 y5) w := fun _ => by kernel_rfl
  have i6 : ∀ w : World, (Instr.index 75 (.agg #[.int .u8 y0, .int .u8 y1, .int .u8 y2, .int .u8 y3, .int .u8 y4, .int .u8 y5, .int .u8 y6, .int .u8 y7]) (.int .i64 6)).run Try.prog w = .ok (.int .u8 y6) w := fun _ => by kernel_rfl
  have i7 : ∀ w : World, (Instr.index 75 (.agg #[.int .u8 y0, .int .u8 y1, .int .u8 y2, .int .u8 y3, .int .u8 y4, .int .u8 y5, .int .u8 y6, .int .u8 y7]) (.int .i64 7)).run Try.prog w = .ok (.int .u8 y7) w := fun _ => by kernel_rfl
  have hdd : decide (x8 < 18446744069414584321) = true := by simpa using hd
  clear hd
  go_enter Try.func68, Try.ntmps68
  go_wp2
  refine wp_loop_rounds 9 ?_
  rw [rounds_succ]
  go_wp2
  rw [rounds_succ]
  go_wp2
  rw [rounds_succ]
  go_wp2
  rw [rounds_succ]
  go_wp2
  rw [rounds_succ]
  go_wp2
  rw [rounds_succ]
  go_wp2
  rw [rounds_succ]
  go_wp2
  rw [rounds_succ]
  go_wp2
  rw [rounds_succ]
  go_wp2_with (go_at_call 66; refine (gin_any x8 _).mono ?_; rintro e w' ⟨rfl, rfl⟩)
  go_ret2
  exact ⟨rfl, (Below.refl _ _).alloc (Nat.le_refl _) _⟩
set_option maxHeartbeats 4000000 in
theorem gtake_out (y0 y1 y2 y3 y4 y5 y6 y7 x1 x2 x3 x4 x5 x6 x7 x8 : Int) (s0 : bits .or .u64 0 (IntKind.u64.wrap (IntKind.u64.wrap y0)) = x1) (s1 : bits .or .u64 x1 (IntKind.u64.wrap (IntKind.u64.wrap y1 * 256)) = x2) (s2 : bits .or .u64 x2 (IntKind.u64.wrap (IntKind.u64.wrap y2 * 65536)) = x3) (s3 : bits .or .u64 x3 (IntKind.u64.wrap (IntKind.u64.wrap y3 * 16777216)) = x4) (s4 : bits .or .u64 x4 (IntKind.u64.wrap (IntKind.u64.wrap y4 * 4294967296)) = x5) (s5 : bits .or .u64 x5 (IntKind.u64.wrap (IntKind.u64.wrap y5 * 1099511627776)) = x6) (s6 : bits .or .u64 x6 (IntKind.u64.wrap (IntKind.u64.wrap y6 * 281474976710656)) = x7) (s7 : bits .or .u64 x7 (IntKind.u64.wrap (IntKind.u64.wrap y7 * 72057594037927936)) = x8) (hd : ¬ x8 < 18446744069414584321) (w : World) :
    Calls Try.prog 68 #[.agg #[.int .u8 y0, .int .u8 y1, .int .u8 y2, .int .u8 y3, .int .u8 y4, .int .u8 y5, .int .u8 y6, .int .u8 y7]] w fun e w' => e = .returned (.tuple #[.int .u64 0, .int .i64 7]) ∧ Below w.heap.size w w' := by
  have i0 : ∀ w : World, (Instr.index 75 (.agg #[.int .u8 y0, .int .u8 y1, .int .u8 y2, .int .u8 y3, .int .u8 y4, .int .u8 y5, .int .u8 y6, .int .u8 y7]) (.int .i64 0)).run Try.prog w = .ok (.int .u8 y0) w := fun _ => by kernel_rfl
  have i1 : ∀ w : World, (Instr.index 75 (.agg #[.int .u8 y0, .int .u8 y1, .int .u8 y2, .int .u8 y3, .int .u8 y4, .int .u8 y5, .int .u8 y6, .int .u8 y7]) (.int .i64 1)).run Try.prog w = .ok (.int .u8 y1) w := fun _ => by kernel_rfl
  have i2 : ∀ w : World, (Instr.index 75 (.agg #[.int .u8 y0, .int .u8 y1, .int .u8 y2, .int .u8 y3, .int .u8 y4, .int .u8 y5, .int .u8 y6, .int .u8 y7]) (.int .i64 2)).run Try.prog w = .ok (.int .u8 y2) w := fun _ => by kernel_rfl
  have i3 : ∀ w : World, (Instr.index 75 (.agg #[.int .u8 y0, .int .u8 y1, .int .u8 y2, .int .u8 y3, .int .u8 y4, .int .u8 y5, .int .u8 y6, .int .u8 y7]) (.int .i64 3)).run Try.prog w = .ok (.int .u8 y3) w := fun _ => by kernel_rfl
  have i4 : ∀ w : World, (Instr.index 75 (.agg #[.int .u8 y0, .int .u8 y1, .int .u8 y2, .int .u8 y3, .int .u8 y4, .int .u8 y5, .int .u8 y6, .int .u8 y7]) (.int .i64 4)).run Try.prog w = .ok (.int .u8 y4) w := fun _ => by kernel_rfl
  have i5 : ∀ w : World, (Instr.index 75 (.agg #[.int .u8 y0, .int .u8 y1, .int .u8 y2, .int .u8 y3, .int .u8 y4, .int .u8 y5, .int .u8 y6, .int .u8 y7]) (.int .i64 5)).run Try.prog w = .ok (.int .u8 y5) w := fun _ => by kernel_rfl
  have i6 : ∀ w : World, (Instr.index 75 (.agg #[.int .u8 y0, .int .u8 y1, .int .u8 y2, .int .u8 y3, .int .u8 y4, .int .u8 y5, .int .u8 y6, .int .u8 y7]) (.int .i64 6)).run Try.prog w = .ok (.int .u8 y6) w := fun _ => by kernel_rfl
  have i7 : ∀ w : World, (Instr.index 75 (.agg #[.int .u8 y0, .int .u8 y1, .int .u8 y2, .int .u8 y3, .int .u8 y4, .int .u8 y5, .int .u8 y6, .int .u8 y7]) (.int .i64 7)).run Try.prog w = .ok (.int .u8 y7) w := fun _ => by kernel_rfl
  have hdd : decide (x8 < 18446744069414584321) = false := by simpa using hd
  clear hd
  go_enter Try.func68, Try.ntmps68
  go_wp2
  refine wp_loop_rounds 9 ?_
  rw [rounds_succ]
  go_wp2
  rw [rounds_succ]
  go_wp2
  rw [rounds_succ]
  go_wp2
  rw [rounds_succ]
  go_wp2
  rw [rounds_succ]
  go_wp2
  rw [rounds_succ]
  go_wp2
  rw [rounds_succ]
  go_wp2
  rw [rounds_succ]
  go_wp2
  rw [rounds_succ]
  go_wp2_with (go_at_call 66; refine (gin_any x8 _).mono ?_; rintro e w' ⟨rfl, rfl⟩)
  go_ret2
  exact ⟨rfl, (Below.refl _ _).alloc (Nat.le_refl _) _⟩
theorem join_step {x y : Int} {k : Nat} (hk : k ≤ 56) (x0 : 0 ≤ x) (x1 : x < 2 ^ k) (y0 : 0 ≤ y) (y1 : y < 256) : bits .or .u64 x (IntKind.u64.wrap (IntKind.u64.wrap y * 2 ^ k)) = x + y * 2 ^ k := by
  have hp : (2 : Int) ^ k ≤ 2 ^ 56 := by
    have : (2 : Nat) ^ k ≤ 2 ^ 56 := Nat.pow_le_pow_right (by decide) hk
    exact_mod_cast this
  have hq : (0 : Int) < 2 ^ k := Int.pow_pos (by decide)
  have hm : y * 2 ^ k ≤ 255 * 2 ^ 56 := Int.mul_le_mul (by omega) hp (by omega) (by decide)
  have hn : 0 ≤ y * 2 ^ k := Int.mul_nonneg y0 (by omega)
  have e56 : (255 : Int) * 2 ^ 56 < 18446744073709551616 := by decide
  have e1 : IntKind.u64.wrap y = y := by rw [IntKind.wrap_u64, Int.emod_eq_of_lt y0 (by omega)]
  rw [e1, IntKind.wrap_u64, Int.emod_eq_of_lt hn (by omega)]
  exact join8 x0 x1 y0 (by omega) (Int.le_trans hp (by decide))
theorem blk8 {w : World} {b : Nat} {u0 u1 u2 u3 u4 u5 u6 u7 : Value} {t : TypeId} (h : w.heap[b]? = some (.cells #[u0, u1, u2, u3, u4, u5, u6, u7] t (0, 0))) :
    w.cell? ⟨b, 0, none⟩ = some u0 ∧ w.cell? ⟨b, 1, none⟩ = some u1 ∧ w.cell? ⟨b, 2, none⟩ = some u2 ∧ w.cell? ⟨b, 3, none⟩ = some u3 ∧ w.cell? ⟨b, 4, none⟩ = some u4 ∧ w.cell? ⟨b, 5, none⟩ = some u5 ∧ w.cell? ⟨b, 6, none⟩ = some u6 ∧ w.cell? ⟨b, 7, none⟩ = some u7 := by
  refine ⟨?_, ?_, ?_, ?_, ?_, ?_, ?_, ?_⟩ <;> simp [World.cell?, h]
theorem eight {W : World} {ι : Type} {φ : ι → World} (h : Family W ι φ) {b : Nat} {u0 u1 u2 u3 u4 u5 u6 u7 : Value} {t : TypeId} (hk : W.heap[b]? = some (.cells #[u0, u1, u2, u3, u4, u5, u6, u7] t (0, 0))) :
    (∀ i, (φ i).cell? ⟨b, 0, none⟩ = some u0) ∧ (∀ i, (φ i).cell? ⟨b, 1, none⟩ = some u1) ∧ (∀ i, (φ i).cell? ⟨b, 2, none⟩ = some u2) ∧ (∀ i, (φ i).cell? ⟨b, 3, none⟩ = some u3) ∧
      (∀ i, (φ i).cell? ⟨b, 4, none⟩ = some u4) ∧ (∀ i, (φ i).cell? ⟨b, 5, none⟩ = some u5) ∧ (∀ i, (φ i).cell? ⟨b, 6, none⟩ = some u6) ∧ (∀ i, (φ i).cell? ⟨b, 7, none⟩ = some u7) :=
  ⟨fun i => (blk8 (keeps (h.old i) hk)).1, fun i => (blk8 (keeps (h.old i) hk)).2.1, fun i => (blk8 (keeps (h.old i) hk)).2.2.1, fun i => (blk8 (keeps (h.old i) hk)).2.2.2.1,
    fun i => (blk8 (keeps (h.old i) hk)).2.2.2.2.1, fun i => (blk8 (keeps (h.old i) hk)).2.2.2.2.2.1, fun i => (blk8 (keeps (h.old i) hk)).2.2.2.2.2.2.1, fun i => (blk8 (keeps (h.old i) hk)).2.2.2.2.2.2.2⟩
set_option maxHeartbeats 1000000 in
theorem rin_word (a : Int) (a0 : 0 ≤ a) (a1 : a < 18446744073709551616) (w : World) :
    Calls Try.prog 26 #[.int .i64 1, .agg #[.int .u64 a, .int .u64 0]] w fun e w' => e = .returned (.bool (decide (a < 18446744069414584321))) ∧ Below w.heap.size w w' := by
  have hl := less_any a 18446744069414584321
  rw [lo_of_lt a0 a1, hi_of_lt a0 a1, show lo 18446744069414584321 = 18446744069414584321 from rfl, show hi 18446744069414584321 = 0 from rfl] at hl
  replace hl := Lib.hid hl
  go_enter Try.func26, Try.ntmps26
  go_wp2_with fail
  refine name_wp (fun w1 => Below w.heap.size w w1 ∧ w1.heap[w.heap.size]? = some (.cells #[.int .u64 a, .int .u64 0] 24 (0, 0))) ⟨(Below.refl _ _).alloc (Nat.le_refl _) _, alloc_at rfl⟩ ?_
  rintro w1 ⟨hb, k0⟩
  refine wp_region_flow0 (by kernel_rfl) (by kernel_rfl) ?_
  intro ι _ φ hφ
  obtain ⟨c0, d0⟩ := hφ.two k0
  repeat (go_big_quiet_step ((first
    | (go_at_call 48; exact flow_call hφ (p_one _))
    | (go_at_call 47; exact flow_call hφ (hl.out _)))))
  refine wpQuiet_nil ?_
  intro w2 hw2
  clear c0 d0 hφ
  go_wp2
  go_ret
  exact ⟨rfl, below_next hb hb.size hw2⟩
set_option maxHeartbeats 4000000 in
theorem rtake_in (p : Nat) (y0 y1 y2 y3 y4 y5 y6 y7 x1 x2 x3 x4 x5 x6 x7 x8 : Int) (r0 : IntKind.u64.wrap (IntKind.u64.wrap y7) = x1) (r1 : IntKind.u64.wrap (IntKind.u64.wrap (x1 * 256) + IntKind.u64.wrap y6) = x2) (r2 : IntKind.u64.wrap (IntKind.u64.wrap (x2 * 256) + IntKind.u64.wrap y5) = x3) (r3 : IntKind.u64.wrap (IntKind.u64.wrap (x3 * 256) + IntKind.u64.wrap y4) = x4) (r4 : IntKind.u64.wrap (IntKind.u64.wrap (x4 * 256) + IntKind.u64.wrap y3) = x5) (r5 : IntKind.u64.wrap (IntKind.u64.wrap (x5 * 256) + IntKind.u64.wrap y2) = x6) (r6 : IntKind.u64.wrap (IntKind.u64.wrap (x6 * 256) + IntKind.u64.wrap y1) = x7) (r7 : IntKind.u64.wrap (IntKind.u64.wrap (x7 * 256) + IntKind.u64.wrap y0) = x8) (b0 : 0 ≤ x8) (b1 : x8 < 18446744073709551616) (hd : x8 < 18446744069414584321) (w : World) (t : TypeId) (h : w.heap[p]? = some (.cells #[.int .u8 y0, .int .u8 y1, .int .u8 y2, .int .u8 y3, .int .u8 y4, .int .u8 y5, .int .u8 y6, .int .u8 y7] t (0, 0))) :
    Calls Try.prog 39 #[.int .i64 1, .slice (some ⟨p, 0, none⟩) 8 8] w fun e w' => e = .returned (.tuple #[.agg #[.int .u64 x8, .int .u64 0], .bool true]) ∧ Below w.heap.size w w' := by
  have hin := rin_word x8 b0 b1
  rw [show decide (x8 < 18446744069414584321) = true by simpa using hd] at hin
  replace hin := Lib.hid hin
  clear b0 b1 hd
  go_enter Try.func39, Try.ntmps39
  go_wp2
  refine name_wp (fun w2 => Below w.heap.size w w2 ∧ w2.heap[w.heap.size]? = some (.cells #[.int .u64 0, .int .u64 0] 24 (0, 0)) ∧ w2.heap[w.heap.size + 1]? = some (.cells #[.int .u64 0, .int .u64 0] 24 (0, 0)) ∧
      w2.heap[p]? = some (.cells #[.int .u8 y0, .int .u8 y1, .int .u8 y2, .int .u8 y3, .int .u8 y4, .int .u8 y5, .int .u8 y6, .int .u8 y7] t (0, 0)))
    ⟨((Below.refl _ _).alloc (Nat.le_refl _) _).alloc (by simp) _, alloc_keeps (alloc_at rfl), alloc_at (by simp), alloc_keeps (alloc_keeps h)⟩ ?_
  rintro w2 ⟨hb, kr, ka, kp⟩
  have l0 := lt_of_get h
  have l3 : p ≠ w.heap.size + 1 := Nat.ne_of_lt (Nat.lt_succ_of_lt l0)
  clear h
  refine wp_loop_rounds 9 ?_
  rw [rounds_succ]
  go_wp2
  refine wp_region_flow1 14 (by kernel_rfl) (by kernel_rfl) (by kernel_rfl) ?_
  apply Exists.intro
  refine ⟨fun ι _ φ hφ => ?_, fun wt hwt => ?_⟩
  · obtain ⟨c0, c1, c2, c3, c4, c5, c6, c7⟩ := eight hφ kp
    obtain ⟨a0, a1⟩ := hφ.two ka
    simp only [List.take_succ_cons, List.take_zero]
    repeat (go_big_quiet_step (fail))
    exact wpQuiet_nil rfl
  replace hb := below_next hb hb.size hwt
  replace kp := keeps hwt kp
  replace ka := keeps hwt ka
  replace kr := keeps hwt kr
  clear hwt
  simp only [List.drop_succ_cons, List.drop_zero]
  obtain ⟨a0, a1, a2, a3⟩ := blk2 ka
  go_wp2
  clear a0 a1 a2 a3
  have hb' := hb.setCell (p := ⟨w.heap.size + 1, 0, none⟩) (Nat.le_succ _) (.int .u64 x1)
  have kp' := store_far (a := ⟨w.heap.size + 1, 0, none⟩) (v := .int .u64 x1) kp l3
  have kr' := store_far (a := ⟨w.heap.size + 1, 0, none⟩) (v := .int .u64 x1) kr (Nat.ne_of_lt (Nat.lt_succ_self _))
  have ka' : (wt.setCell ⟨w.heap.size + 1, 0, none⟩ (.int .u64 x1)).heap[w.heap.size + 1]? = some (.cells #[.int .u64 x1, .int .u64 0] 24 (0, 0)) := store1 ka
  clear hb kp kr ka
  generalize wt.setCell ⟨w.heap.size + 1, 0, none⟩ (.int .u64 x1) = v1 at *
  have hb := hb'
  have kp := kp'
  have kr := kr'
  have ka := ka'
  clear hb' kp' kr' ka'
  rw [rounds_succ]
  go_wp2
  refine wp_region_flow1 14 (by kernel_rfl) (by kernel_rfl) (by kernel_rfl) ?_
  apply Exists.intro
  refine ⟨fun ι _ φ hφ => ?_, fun wt hwt => ?_⟩
  · obtain ⟨c0, c1, c2, c3, c4, c5, c6, c7⟩ := eight hφ kp
    obtain ⟨a0, a1⟩ := hφ.two ka
    simp only [List.take_succ_cons, List.take_zero]
    repeat (go_big_quiet_step (fail))
    exact wpQuiet_nil rfl
  replace hb := below_next hb hb.size hwt
  replace kp := keeps hwt kp
  replace ka := keeps hwt ka
  replace kr := keeps hwt kr
  clear hwt
  simp only [List.drop_succ_cons, List.drop_zero]
  obtain ⟨a0, a1, a2, a3⟩ := blk2 ka
  go_wp2
  clear a0 a1 a2 a3
  have hb' := hb.setCell (p := ⟨w.heap.size + 1, 0, none⟩) (Nat.le_succ _) (.int .u64 x2)
  have kp' := store_far (a := ⟨w.heap.size + 1, 0, none⟩) (v := .int .u64 x2) kp l3
  have kr' := store_far (a := ⟨w.heap.size + 1, 0, none⟩) (v := .int .u64 x2) kr (Nat.ne_of_lt (Nat.lt_succ_self _))
  have ka' : (wt.setCell ⟨w.heap.size + 1, 0, none⟩ (.int .u64 x2)).heap[w.heap.size + 1]? = some (.cells #[.int .u64 x2, .int .u64 0] 24 (0, 0)) := store1 ka
  clear hb kp kr ka
  generalize wt.setCell ⟨w.heap.size + 1, 0, none⟩ (.int .u64 x2) = v2 at *
  have hb := hb'
  have kp := kp'
  have kr := kr'
  have ka := ka'
  clear hb' kp' kr' ka'
  rw [rounds_succ]
  go_wp2
  refine wp_region_flow1 14 (by kernel_rfl) (by kernel_rfl) (by kernel_rfl) ?_
  apply Exists.intro
  refine ⟨fun ι _ φ hφ => ?_, fun wt hwt => ?_⟩
  · obtain ⟨c0, c1, c2, c3, c4, c5, c6, c7⟩ := eight hφ kp
    obtain ⟨a0, a1⟩ := hφ.two ka
    simp only [List.take_succ_cons, List.take_zero]
    repeat (go_big_quiet_step (fail))
    exact wpQuiet_nil rfl
  replace hb := below_next hb hb.size hwt
  replace kp := keeps hwt kp
  replace ka := keeps hwt ka
  replace kr := keeps hwt kr
  clear hwt
  simp only [List.drop_succ_cons, List.drop_zero]
  obtain ⟨a0, a1, a2, a3⟩ := blk2 ka
  go_wp2
  clear a0 a1 a2 a3
  have hb' := hb.setCell (p := ⟨w.heap.size + 1, 0, none⟩) (Nat.le_succ _) (.int .u64 x3)
  have kp' := store_far (a := ⟨w.heap.size + 1, 0, none⟩) (v := .int .u64 x3) kp l3
  have kr' := store_far (a := ⟨w.heap.size + 1, 0, none⟩) (v := .int .u64 x3) kr (Nat.ne_of_lt (Nat.lt_succ_self _))
  have ka' : (wt.setCell ⟨w.heap.size + 1, 0, none⟩ (.int .u64 x3)).heap[w.heap.size + 1]? = some (.cells #[.int .u64 x3, .int .u64 0] 24 (0, 0)) := store1 ka
  clear hb kp kr ka
  generalize wt.setCell ⟨w.heap.size + 1, 0, none⟩ (.int .u64 x3) = v3 at *
  have hb := hb'
  have kp := kp'
  have kr := kr'
  have ka := ka'
  clear hb' kp' kr' ka'
  rw [rounds_succ]
  go_wp2
  refine wp_region_flow1 14 (by kernel_rfl) (by kernel_rfl) (by kernel_rfl) ?_
  apply Exists.intro
  refine ⟨fun ι _ φ hφ => ?_, fun wt hwt => ?_⟩
  · obtain ⟨c0, c1, c2, c3, c4, c5, c6, c7⟩ := eight hφ kp
    obtain ⟨a0, a1⟩ := hφ.two ka
    simp only [List.take_succ_cons, List.take_zero]
    repeat (go_big_quiet_step (fail))
    exact wpQuiet_nil rfl
  replace hb := below_next hb hb.size hwt
  replace kp := keeps hwt kp
  replace ka := keeps hwt ka
  replace kr := keeps hwt kr
  clear hwt
  simp only [List.drop_succ_cons, List.drop_zero]
  obtain ⟨a0, a1, a2, a3⟩ := blk2 ka
  go_wp2
  clear a0 a1 a2 a3
  have hb' := hb.setCell (p := ⟨w.heap.size + 1, 0, none⟩) (Nat.le_succ _) (.int .u64 x4)
  have kp' := store_far (a := ⟨w.heap.size + 1, 0, none⟩) (v := .int .u64 x4) kp l3
  have kr' := store_far (a := ⟨w.heap.size + 1, 0, none⟩) (v := .int .u64 x4) kr (Nat.ne_of_lt (Nat.lt_succ_self _))
  have ka' : (wt.setCell ⟨w.heap.size + 1, 0, none⟩ (.int .u64 x4)).heap[w.heap.size + 1]? = some (.cells #[.int .u64 x4, .int .u64 0] 24 (0, 0)) := store1 ka
  clear hb kp kr ka
  generalize wt.setCell ⟨w.heap.size + 1, 0, none⟩ (.int .u64 x4) = v4 at *
  have hb := hb'
  have kp := kp'
  have kr := kr'
  have ka := ka'
  clear hb' kp' kr' ka'
  rw [rounds_succ]
  go_wp2
  refine wp_region_flow1 14 (by kernel_rfl) (by kernel_rfl) (by kernel_rfl) ?_
  apply Exists.intro
  refine ⟨fun ι _ φ hφ => ?_, fun wt hwt => ?_⟩
  · obtain ⟨c0, c1, c2, c3, c4, c5, c6, c7⟩ := eight hφ kp
    obtain ⟨a0, a1⟩ := hφ.two ka
    simp only [List.take_succ_cons, List.take_zero]
    repeat (go_big_quiet_step (fail))
    exact wpQuiet_nil rfl
  replace hb := below_next hb hb.size hwt
  replace kp := keeps hwt kp
  replace ka := keeps hwt ka
  replace kr := keeps hwt kr
  clear hwt
  simp only [List.drop_succ_cons, List.drop_zero]
  obtain ⟨a0, a1, a2, a3⟩ := blk2 ka
  go_wp2
  clear a0 a1 a2 a3
  have hb' := hb.setCell (p := ⟨w.heap.size + 1, 0, none⟩) (Nat.le_succ _) (.int .u64 x5)
  have kp' := store_far (a := ⟨w.heap.size + 1, 0, none⟩) (v := .int .u64 x5) kp l3
  have kr' := store_far (a := ⟨w.heap.size + 1, 0, none⟩) (v := .int .u64 x5) kr (Nat.ne_of_lt (Nat.lt_succ_self _))
  have ka' : (wt.setCell ⟨w.heap.size + 1, 0, none⟩ (.int .u64 x5)).heap[w.heap.size + 1]? = some (.cells #[.int .u64 x5, .int .u64 0] 24 (0, 0)) := store1 ka
  clear hb kp kr ka
  generalize wt.setCell ⟨w.heap.size + 1, 0, none⟩ (.int .u64 x5) = v5 at *
  have hb := hb'
  have kp := kp'
  have kr := kr'
  have ka := ka'
  clear hb' kp' kr' ka'
  rw [rounds_succ]
  go_wp2
  refine wp_region_flow1 14 (by kernel_rfl) (by kernel_rfl) (by kernel_rfl) ?_
  apply Exists.intro
  refine ⟨fun ι _ φ hφ => ?_, fun wt hwt => ?_⟩
  · obtain ⟨c0, c1, c2, c3, c4, c5, c6, c7⟩ := eight hφ kp
    obtain ⟨a0, a1⟩ := hφ.two ka
    simp only [List.take_succ_cons, List.take_zero]
    repeat (go_big_quiet_step (fail))
    exact wpQuiet_nil rfl
  replace hb := below_next hb hb.size hwt
  replace kp := keeps hwt kp
  replace ka := keeps hwt ka
  replace kr := keeps hwt kr
  clear hwt
  simp only [List.drop_succ_cons, List.drop_zero]
  obtain ⟨a0, a1, a2, a3⟩ := blk2 ka
  go_wp2
  clear a0 a1 a2 a3
  have hb' := hb.setCell (p := ⟨w.heap.size + 1, 0, none⟩) (Nat.le_succ _) (.int .u64 x6)
  have kp' := store_far (a := ⟨w.heap.size + 1, 0, none⟩) (v := .int .u64 x6) kp l3
  have kr' := store_far (a := ⟨w.heap.size + 1, 0, none⟩) (v := .int .u64 x6) kr (Nat.ne_of_lt (Nat.lt_succ_self _))
  have ka' : (wt.setCell ⟨w.heap.size + 1, 0, none⟩ (.int .u64 x6)).heap[w.heap.size + 1]? = some (.cells #[.int .u64 x6, .int .u64 0] 24 (0, 0)) := store1 ka
  clear hb kp kr ka
  generalize wt.setCell ⟨w.heap.size + 1, 0, none⟩ (.int .u64 x6) = v6 at *
  have hb := hb'
  have kp := kp'
  have kr := kr'
  have ka := ka'
  clear hb' kp' kr' ka'
  rw [rounds_succ]
  go_wp2
  refine wp_region_flow1 14 (by kernel_rfl) (by kernel_rfl) (by kernel_rfl) ?_
  apply Exists.intro
  refine ⟨fun ι _ φ hφ => ?_, fun wt hwt => ?_⟩
  · obtain ⟨c0, c1, c2, c3, c4, c5, c6, c7⟩ := eight hφ kp
    obtain ⟨a0, a1⟩ := hφ.two ka
    simp only [List.take_succ_cons, List.take_zero]
    repeat (go_big_quiet_step (fail))
    exact wpQuiet_nil rfl
  replace hb := below_next hb hb.size hwt
  replace kp := keeps hwt kp
  replace ka := keeps hwt ka
  replace kr := keeps hwt kr
  clear hwt
  simp only [List.drop_succ_cons, List.drop_zero]
  obtain ⟨a0, a1, a2, a3⟩ := blk2 ka
  go_wp2
  clear a0 a1 a2 a3
  have hb' := hb.setCell (p := ⟨w.heap.size + 1, 0, none⟩) (Nat.le_succ _) (.int .u64 x7)
  have kp' := store_far (a := ⟨w.heap.size + 1, 0, none⟩) (v := .int .u64 x7) kp l3
  have kr' := store_far (a := ⟨w.heap.size + 1, 0, none⟩) (v := .int .u64 x7) kr (Nat.ne_of_lt (Nat.lt_succ_self _))
  have ka' : (wt.setCell ⟨w.heap.size + 1, 0, none⟩ (.int .u64 x7)).heap[w.heap.size + 1]? = some (.cells #[.int .u64 x7, .int .u64 0] 24 (0, 0)) := store1 ka
  clear hb kp kr ka
  generalize wt.setCell ⟨w.heap.size + 1, 0, none⟩ (.int .u64 x7) = v7 at *
  have hb := hb'
  have kp := kp'
  have kr := kr'
  have ka := ka'
  clear hb' kp' kr' ka'
  rw [rounds_succ]
  go_wp2
  refine wp_region_flow1 14 (by kernel_rfl) (by kernel_rfl) (by kernel_rfl) ?_
  apply Exists.intro
  refine ⟨fun ι _ φ hφ => ?_, fun wt hwt => ?_⟩
  · obtain ⟨c0, c1, c2, c3, c4, c5, c6, c7⟩ := eight hφ kp
    obtain ⟨a0, a1⟩ := hφ.two ka
    simp only [List.take_succ_cons, List.take_zero]
    repeat (go_big_quiet_step (fail))
    exact wpQuiet_nil rfl
  replace hb := below_next hb hb.size hwt
  replace kp := keeps hwt kp
  replace ka := keeps hwt ka
  replace kr := keeps hwt kr
  clear hwt
  simp only [List.drop_succ_cons, List.drop_zero]
  obtain ⟨a0, a1, a2, a3⟩ := blk2 ka
  go_wp2
  clear a0 a1 a2 a3
  have hb' := hb.setCell (p := ⟨w.heap.size + 1, 0, none⟩) (Nat.le_succ _) (.int .u64 x8)
  have kp' := store_far (a := ⟨w.heap.size + 1, 0, none⟩) (v := .int .u64 x8) kp l3
  have kr' := store_far (a := ⟨w.heap.size + 1, 0, none⟩) (v := .int .u64 x8) kr (Nat.ne_of_lt (Nat.lt_succ_self _))
  have ka' : (wt.setCell ⟨w.heap.size + 1, 0, none⟩ (.int .u64 x8)).heap[w.heap.size + 1]? = some (.cells #[.int .u64 x8, .int .u64 0] 24 (0, 0)) := store1 ka
  clear hb kp kr ka
  generalize wt.setCell ⟨w.heap.size + 1, 0, none⟩ (.int .u64 x8) = v8 at *
  have hb := hb'
  have kp := kp'
  have kr := kr'
  have ka := ka'
  clear hb' kp' kr' ka'
  rw [rounds_succ]
  obtain ⟨a0, a1, a2, a3⟩ := blk2 ka
  go_wp2_with fail
  clear a0 a1 a2 a3
  refine call_then (hin.out _) ?_
  intro v9 hw9
  replace hb := below_next hb hb.size hw9
  replace kr := keeps hw9 kr
  replace ka := keeps hw9 ka
  clear hw9
  obtain ⟨a0, a1, a2, a3⟩ := blk2 ka
  obtain ⟨q0, q1, q2, q3⟩ := blk2 kr
  go_wp2
  obtain ⟨p2, q2, _, _⟩ := blk2 (store2 (u := .int .u64 x8) (v := .int .u64 0) kr)
  exact bodyPost_ret (v := .tuple #[.agg #[.int .u64 x8, .int .u64 0], .bool true]) (by simp [results, Try.results39, go_sem, p2, q2]) rfl ⟨rfl, below_store2 hb (Nat.le_refl _)⟩
set_option maxHeartbeats 4000000 in
theorem rtake_out (p : Nat) (y0 y1 y2 y3 y4 y5 y6 y7 x1 x2 x3 x4 x5 x6 x7 x8 : Int) (r0 : IntKind.u64.wrap (IntKind.u64.wrap y7) = x1) (r1 : IntKind.u64.wrap (IntKind.u64.wrap (x1 * 256) + IntKind.u64.wrap y6) = x2) (r2 : IntKind.u64.wrap (IntKind.u64.wrap (x2 * 256) + IntKind.u64.wrap y5) = x3) (r3 : IntKind.u64.wrap (IntKind.u64.wrap (x3 * 256) + IntKind.u64.wrap y4) = x4) (r4 : IntKind.u64.wrap (IntKind.u64.wrap (x4 * 256) + IntKind.u64.wrap y3) = x5) (r5 : IntKind.u64.wrap (IntKind.u64.wrap (x5 * 256) + IntKind.u64.wrap y2) = x6) (r6 : IntKind.u64.wrap (IntKind.u64.wrap (x6 * 256) + IntKind.u64.wrap y1) = x7) (r7 : IntKind.u64.wrap (IntKind.u64.wrap (x7 * 256) + IntKind.u64.wrap y0) = x8) (b0 : 0 ≤ x8) (b1 : x8 < 18446744073709551616) (hd : ¬ x8 < 18446744069414584321) (w : World) (t : TypeId) (h : w.heap[p]? = some (.cells #[.int .u8 y0, .int .u8 y1, .int .u8 y2, .int .u8 y3, .int .u8 y4, .int .u8 y5, .int .u8 y6, .int .u8 y7] t (0, 0))) :
    Calls Try.prog 39 #[.int .i64 1, .slice (some ⟨p, 0, none⟩) 8 8] w fun e w' => e = .returned (.tuple #[.agg #[.int .u64 0, .int .u64 0], .bool false]) ∧ Below w.heap.size w w' := by
  have hin := rin_word x8 b0 b1
  rw [show decide (x8 < 18446744069414584321) = false by simpa using hd] at hin
  replace hin := Lib.hid hin
  clear b0 b1 hd
  go_enter Try.func39, Try.ntmps39
  go_wp2
  refine name_wp (fun w2 => Below w.heap.size w w2 ∧ w2.heap[w.heap.size]? = some (.cells #[.int .u64 0, .int .u64 0] 24 (0, 0)) ∧ w2.heap[w.heap.size + 1]? = some (.cells #[.int .u64 0, .int .u64 0] 24 (0, 0)) ∧
      w2.heap[p]? = some (.cells #[.int .u8 y0, .int .u8 y1, .int .u8 y2, .int .u8 y3, .int .u8 y4, .int .u8 y5, .int .u8 y6, .int .u8 y7] t (0, 0)))
    ⟨((Below.refl _ _).alloc (Nat.le_refl _) _).alloc (by simp) _, alloc_keeps (alloc_at rfl), alloc_at (by simp), alloc_keeps (alloc_keeps h)⟩ ?_
  rintro w2 ⟨hb, kr, ka, kp⟩
  have l0 := lt_of_get h
  have l3 : p ≠ w.heap.size + 1 := Nat.ne_of_lt (Nat.lt_succ_of_lt l0)
  clear h
  refine wp_loop_rounds 9 ?_
  rw [rounds_succ]
  go_wp2
  refine wp_region_flow1 14 (by kernel_rfl) (by kernel_rfl) (by kernel_rfl) ?_
  apply Exists.intro
  refine ⟨fun ι _ φ hφ => ?_, fun wt hwt => ?_⟩
  · obtain ⟨c0, c1, c2, c3, c4, c5, c6, c7⟩ := eight hφ kp
    obtain ⟨a0, a1⟩ := hφ.two ka
    simp only [List.take_succ_cons, List.take_zero]
    repeat (go_big_quiet_step (fail))
    exact wpQuiet_nil rfl
  replace hb := below_next hb hb.size hwt
  replace kp := keeps hwt kp
  replace ka := keeps hwt ka
  replace kr := keeps hwt kr
  clear hwt
  simp only [List.drop_succ_cons, List.drop_zero]
  obtain ⟨a0, a1, a2, a3⟩ := blk2 ka
  go_wp2
  clear a0 a1 a2 a3
  have hb' := hb.setCell (p := ⟨w.heap.size + 1, 0, none⟩) (Nat.le_succ _) (.int .u64 x1)
  have kp' := store_far (a := ⟨w.heap.size + 1, 0, none⟩) (v := .int .u64 x1) kp l3
  have kr' := store_far (a := ⟨w.heap.size + 1, 0, none⟩) (v := .int .u64 x1) kr (Nat.ne_of_lt (Nat.lt_succ_self _))
  have ka' : (wt.setCell ⟨w.heap.size + 1, 0, none⟩ (.int .u64 x1)).heap[w.heap.size + 1]? = some (.cells #[.int .u64 x1, .int .u64 0] 24 (0, 0)) := store1 ka
  clear hb kp kr ka
  generalize wt.setCell ⟨w.heap.size + 1, 0, none⟩ (.int .u64 x1) = v1 at *
  have hb := hb'
  have kp := kp'
  have kr := kr'
  have ka := ka'
  clear hb' kp' kr' ka'
  rw [rounds_succ]
  go_wp2
  refine wp_region_flow1 14 (by kernel_rfl) (by kernel_rfl) (by kernel_rfl) ?_
  apply Exists.intro
  refine ⟨fun ι _ φ hφ => ?_, fun wt hwt => ?_⟩
  · obtain ⟨c0, c1, c2, c3, c4, c5, c6, c7⟩ := eight hφ kp
    obtain ⟨a0, a1⟩ := hφ.two ka
    simp only [List.take_succ_cons, List.take_zero]
    repeat (go_big_quiet_step (fail))
    exact wpQuiet_nil rfl
  replace hb := below_next hb hb.size hwt
  replace kp := keeps hwt kp
  replace ka := keeps hwt ka
  replace kr := keeps hwt kr
  clear hwt
  simp only [List.drop_succ_cons, List.drop_zero]
  obtain ⟨a0, a1, a2, a3⟩ := blk2 ka
  go_wp2
  clear a0 a1 a2 a3
  have hb' := hb.setCell (p := ⟨w.heap.size + 1, 0, none⟩) (Nat.le_succ _) (.int .u64 x2)
  have kp' := store_far (a := ⟨w.heap.size + 1, 0, none⟩) (v := .int .u64 x2) kp l3
  have kr' := store_far (a := ⟨w.heap.size + 1, 0, none⟩) (v := .int .u64 x2) kr (Nat.ne_of_lt (Nat.lt_succ_self _))
  have ka' : (wt.setCell ⟨w.heap.size + 1, 0, none⟩ (.int .u64 x2)).heap[w.heap.size + 1]? = some (.cells #[.int .u64 x2, .int .u64 0] 24 (0, 0)) := store1 ka
  clear hb kp kr ka
  generalize wt.setCell ⟨w.heap.size + 1, 0, none⟩ (.int .u64 x2) = v2 at *
  have hb := hb'
  have kp := kp'
  have kr := kr'
  have ka := ka'
  clear hb' kp' kr' ka'
  rw [rounds_succ]
  go_wp2
  refine wp_region_flow1 14 (by kernel_rfl) (by kernel_rfl) (by kernel_rfl) ?_
  apply Exists.intro
  refine ⟨fun ι _ φ hφ => ?_, fun wt hwt => ?_⟩
  · obtain ⟨c0, c1, c2, c3, c4, c5, c6, c7⟩ := eight hφ kp
    obtain ⟨a0, a1⟩ := hφ.two ka
    simp only [List.take_succ_cons, List.take_zero]
    repeat (go_big_quiet_step (fail))
    exact wpQuiet_nil rfl
  replace hb := below_next hb hb.size hwt
  replace kp := keeps hwt kp
  replace ka := keeps hwt ka
  replace kr := keeps hwt kr
  clear hwt
  simp only [List.drop_succ_cons, List.drop_zero]
  obtain ⟨a0, a1, a2, a3⟩ := blk2 ka
  go_wp2
  clear a0 a1 a2 a3
  have hb' := hb.setCell (p := ⟨w.heap.size + 1, 0, none⟩) (Nat.le_succ _) (.int .u64 x3)
  have kp' := store_far (a := ⟨w.heap.size + 1, 0, none⟩) (v := .int .u64 x3) kp l3
  have kr' := store_far (a := ⟨w.heap.size + 1, 0, none⟩) (v := .int .u64 x3) kr (Nat.ne_of_lt (Nat.lt_succ_self _))
  have ka' : (wt.setCell ⟨w.heap.size + 1, 0, none⟩ (.int .u64 x3)).heap[w.heap.size + 1]? = some (.cells #[.int .u64 x3, .int .u64 0] 24 (0, 0)) := store1 ka
  clear hb kp kr ka
  generalize wt.setCell ⟨w.heap.size + 1, 0, none⟩ (.int .u64 x3) = v3 at *
  have hb := hb'
  have kp := kp'
  have kr := kr'
  have ka := ka'
  clear hb' kp' kr' ka'
  rw [rounds_succ]
  go_wp2
  refine wp_region_flow1 14 (by kernel_rfl) (by kernel_rfl) (by kernel_rfl) ?_
  apply Exists.intro
  refine ⟨fun ι _ φ hφ => ?_, fun wt hwt => ?_⟩
  · obtain ⟨c0, c1, c2, c3, c4, c5, c6, c7⟩ := eight hφ kp
    obtain ⟨a0, a1⟩ := hφ.two ka
    simp only [List.take_succ_cons, List.take_zero]
    repeat (go_big_quiet_step (fail))
    exact wpQuiet_nil rfl
  replace hb := below_next hb hb.size hwt
  replace kp := keeps hwt kp
  replace ka := keeps hwt ka
  replace kr := keeps hwt kr
  clear hwt
  simp only [List.drop_succ_cons, List.drop_zero]
  obtain ⟨a0, a1, a2, a3⟩ := blk2 ka
  go_wp2
  clear a0 a1 a2 a3
  have hb' := hb.setCell (p := ⟨w.heap.size + 1, 0, none⟩) (Nat.le_succ _) (.int .u64 x4)
  have kp' := store_far (a := ⟨w.heap.size + 1, 0, none⟩) (v := .int .u64 x4) kp l3
  have kr' := store_far (a := ⟨w.heap.size + 1, 0, none⟩) (v := .int .u64 x4) kr (Nat.ne_of_lt (Nat.lt_succ_self _))
  have ka' : (wt.setCell ⟨w.heap.size + 1, 0, none⟩ (.int .u64 x4)).heap[w.heap.size + 1]? = some (.cells #[.int .u64 x4, .int .u64 0] 24 (0, 0)) := store1 ka
  clear hb kp kr ka
  generalize wt.setCell ⟨w.heap.size + 1, 0, none⟩ (.int .u64 x4) = v4 at *
  have hb := hb'
  have kp := kp'
  have kr := kr'
  have ka := ka'
  clear hb' kp' kr' ka'
  rw [rounds_succ]
  go_wp2
  refine wp_region_flow1 14 (by kernel_rfl) (by kernel_rfl) (by kernel_rfl) ?_
  apply Exists.intro
  refine ⟨fun ι _ φ hφ => ?_, fun wt hwt => ?_⟩
  · obtain ⟨c0, c1, c2, c3, c4, c5, c6, c7⟩ := eight hφ kp
    obtain ⟨a0, a1⟩ := hφ.two ka
    simp only [List.take_succ_cons, List.take_zero]
    repeat (go_big_quiet_step (fail))
    exact wpQuiet_nil rfl
  replace hb := below_next hb hb.size hwt
  replace kp := keeps hwt kp
  replace ka := keeps hwt ka
  replace kr := keeps hwt kr
  clear hwt
  simp only [List.drop_succ_cons, List.drop_zero]
  obtain ⟨a0, a1, a2, a3⟩ := blk2 ka
  go_wp2
  clear a0 a1 a2 a3
  have hb' := hb.setCell (p := ⟨w.heap.size + 1, 0, none⟩) (Nat.le_succ _) (.int .u64 x5)
  have kp' := store_far (a := ⟨w.heap.size + 1, 0, none⟩) (v := .int .u64 x5) kp l3
  have kr' := store_far (a := ⟨w.heap.size + 1, 0, none⟩) (v := .int .u64 x5) kr (Nat.ne_of_lt (Nat.lt_succ_self _))
  have ka' : (wt.setCell ⟨w.heap.size + 1, 0, none⟩ (.int .u64 x5)).heap[w.heap.size + 1]? = some (.cells #[.int .u64 x5, .int .u64 0] 24 (0, 0)) := store1 ka
  clear hb kp kr ka
  generalize wt.setCell ⟨w.heap.size + 1, 0, none⟩ (.int .u64 x5) = v5 at *
  have hb := hb'
  have kp := kp'
  have kr := kr'
  have ka := ka'
  clear hb' kp' kr' ka'
  rw [rounds_succ]
  go_wp2
  refine wp_region_flow1 14 (by kernel_rfl) (by kernel_rfl) (by kernel_rfl) ?_
  apply Exists.intro
  refine ⟨fun ι _ φ hφ => ?_, fun wt hwt => ?_⟩
  · obtain ⟨c0, c1, c2, c3, c4, c5, c6, c7⟩ := eight hφ kp
    obtain ⟨a0, a1⟩ := hφ.two ka
    simp only [List.take_succ_cons, List.take_zero]
    repeat (go_big_quiet_step (fail))
    exact wpQuiet_nil rfl
  replace hb := below_next hb hb.size hwt
  replace kp := keeps hwt kp
  replace ka := keeps hwt ka
  replace kr := keeps hwt kr
  clear hwt
  simp only [List.drop_succ_cons, List.drop_zero]
  obtain ⟨a0, a1, a2, a3⟩ := blk2 ka
  go_wp2
  clear a0 a1 a2 a3
  have hb' := hb.setCell (p := ⟨w.heap.size + 1, 0, none⟩) (Nat.le_succ _) (.int .u64 x6)
  have kp' := store_far (a := ⟨w.heap.size + 1, 0, none⟩) (v := .int .u64 x6) kp l3
  have kr' := store_far (a := ⟨w.heap.size + 1, 0, none⟩) (v := .int .u64 x6) kr (Nat.ne_of_lt (Nat.lt_succ_self _))
  have ka' : (wt.setCell ⟨w.heap.size + 1, 0, none⟩ (.int .u64 x6)).heap[w.heap.size + 1]? = some (.cells #[.int .u64 x6, .int .u64 0] 24 (0, 0)) := store1 ka
  clear hb kp kr ka
  generalize wt.setCell ⟨w.heap.size + 1, 0, none⟩ (.int .u64 x6) = v6 at *
  have hb := hb'
  have kp := kp'
  have kr := kr'
  have ka := ka'
  clear hb' kp' kr' ka'
  rw [rounds_succ]
  go_wp2
  refine wp_region_flow1 14 (by kernel_rfl) (by kernel_rfl) (by kernel_rfl) ?_
  apply Exists.intro
  refine ⟨fun ι _ φ hφ => ?_, fun wt hwt => ?_⟩
  · obtain ⟨c0, c1, c2, c3, c4, c5, c6, c7⟩ := eight hφ kp
    obtain ⟨a0, a1⟩ := hφ.two ka
    simp only [List.take_succ_cons, List.take_zero]
    repeat (go_big_quiet_step (fail))
    exact wpQuiet_nil rfl
  replace hb := below_next hb hb.size hwt
  replace kp := keeps hwt kp
  replace ka := keeps hwt ka
  replace kr := keeps hwt kr
  clear hwt
  simp only [List.drop_succ_cons, List.drop_zero]
  obtain ⟨a0, a1, a2, a3⟩ := blk2 ka
  go_wp2
  clear a0 a1 a2 a3
  have hb' := hb.setCell (p := ⟨w.heap.size + 1, 0, none⟩) (Nat.le_succ _) (.int .u64 x7)
  have kp' := store_far (a := ⟨w.heap.size + 1, 0, none⟩) (v := .int .u64 x7) kp l3
  have kr' := store_far (a := ⟨w.heap.size + 1, 0, none⟩) (v := .int .u64 x7) kr (Nat.ne_of_lt (Nat.lt_succ_self _))
  have ka' : (wt.setCell ⟨w.heap.size + 1, 0, none⟩ (.int .u64 x7)).heap[w.heap.size + 1]? = some (.cells #[.int .u64 x7, .int .u64 0] 24 (0, 0)) := store1 ka
  clear hb kp kr ka
  generalize wt.setCell ⟨w.heap.size + 1, 0, none⟩ (.int .u64 x7) = v7 at *
  have hb := hb'
  have kp := kp'
  have kr := kr'
  have ka := ka'
  clear hb' kp' kr' ka'
  rw [rounds_succ]
  go_wp2
  refine wp_region_flow1 14 (by kernel_rfl) (by kernel_rfl) (by kernel_rfl) ?_
  apply Exists.intro
  refine ⟨fun ι _ φ hφ => ?_, fun wt hwt => ?_⟩
  · obtain ⟨c0, c1, c2, c3, c4, c5, c6, c7⟩ := eight hφ kp
    obtain ⟨a0, a1⟩ := hφ.two ka
    simp only [List.take_succ_cons, List.take_zero]
    repeat (go_big_quiet_step (fail))
    exact wpQuiet_nil rfl
  replace hb := below_next hb hb.size hwt
  replace kp := keeps hwt kp
  replace ka := keeps hwt ka
  replace kr := keeps hwt kr
  clear hwt
  simp only [List.drop_succ_cons, List.drop_zero]
  obtain ⟨a0, a1, a2, a3⟩ := blk2 ka
  go_wp2
  clear a0 a1 a2 a3
  have hb' := hb.setCell (p := ⟨w.heap.size + 1, 0, none⟩) (Nat.le_succ _) (.int .u64 x8)
  have kp' := store_far (a := ⟨w.heap.size + 1, 0, none⟩) (v := .int .u64 x8) kp l3
  have kr' := store_far (a := ⟨w.heap.size + 1, 0, none⟩) (v := .int .u64 x8) kr (Nat.ne_of_lt (Nat.lt_succ_self _))
  have ka' : (wt.setCell ⟨w.heap.size + 1, 0, none⟩ (.int .u64 x8)).heap[w.heap.size + 1]? = some (.cells #[.int .u64 x8, .int .u64 0] 24 (0, 0)) := store1 ka
  clear hb kp kr ka
  generalize wt.setCell ⟨w.heap.size + 1, 0, none⟩ (.int .u64 x8) = v8 at *
  have hb := hb'
  have kp := kp'
  have kr := kr'
  have ka := ka'
  clear hb' kp' kr' ka'
  rw [rounds_succ]
  obtain ⟨a0, a1, a2, a3⟩ := blk2 ka
  go_wp2_with fail
  clear a0 a1 a2 a3
  refine call_then (hin.out _) ?_
  intro v9 hw9
  replace hb := below_next hb hb.size hw9
  replace kr := keeps hw9 kr
  replace ka := keeps hw9 ka
  clear hw9
  obtain ⟨a0, a1, a2, a3⟩ := blk2 ka
  obtain ⟨q0, q1, q2, q3⟩ := blk2 kr
  go_wp2
  obtain ⟨p2, q2, _, _⟩ := blk2 (store2 (u := .int .u64 0) (v := .int .u64 0) kr)
  exact bodyPost_ret (v := .tuple #[.agg #[.int .u64 0, .int .u64 0], .bool false]) (by simp [results, Try.results39, go_sem, p2, q2]) rfl ⟨rfl, below_store2 hb (Nat.le_refl _)⟩
end Go.Proofs.Ytokdbedineoklaa
