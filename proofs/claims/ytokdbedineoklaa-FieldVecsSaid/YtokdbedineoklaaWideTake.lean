/-
  Contracts of wide's bytes: bytes as a number.
-/
import Derived.Test.YtokdbedineoklaaWideBytes
import Derived.Test.YtokdbedineoklaaGoldBytesB
namespace Go.Proofs.Ytokdbedineoklaa
open Go.RowKit F Flow
set_option linter.unusedVariables false
attribute [local go_sem] eql_elem

set_option maxHeartbeats 8000000 in
theorem wtake_in (y0 y1 y2 y3 y4 y5 y6 y7 y8 y9 y10 y11 y12 y13 y14 y15 x1 x2 x3 x4 x5 x6 x7 x8 z1 z2 z3 z4 z5 z6 z7 z8 : Int) (xs0 : bits .or .u64 0 (IntKind.u64.wrap (IntKind.u64.wrap y0)) = x1) (xs1 : bits .or .u64 x1 (IntKind.u64.wrap (IntKind.u64.wrap y1 * 256)) = x2) (xs2 : bits .or .u64 x2 (IntKind.u64.wrap (IntKind.u64.wrap y2 * 65536)) = x3) (xs3 : bits .or .u64 x3 (IntKind.u64.wrap (IntKind.u64.wrap y3 * 16777216)) = x4) (xs4 : bits .or .u64 x4 (IntKind.u64.wrap (IntKind.u64.wrap y4 * 4294967296)) = x5) (xs5 : bits .or .u64 x5 (IntKind.u64.wrap (IntKind.u64.wrap y5 * 1099511627776)) = x6) (xs6 : bits .or .u64 x6 (IntKind.u64.wrap (IntKind.u64.wrap y6 * 281474976710656)) = x7) (xs7 : bits .or .u64 x7 (IntKind.u64.wrap (IntKind.u64.wrap y7 * 72057594037927936)) = x8) (zs0 : bits .or .u64 0 (IntKind.u64.wrap (IntKind.u64.wrap y8)) = z1) (zs1 : bits .or .u64 z1 (IntKind.u64.wrap (IntKind.u64.wrap y9 * 256)) = z2) (zs2 : bits .or .u64 z2 (IntKind.u64.wrap (IntKind.u64.wrap y10 * 65536)) = z3) (zs3 : bits .or .u64 z3 (IntKind.u64.wrap (IntKind.u64.wrap y11 * 16777216)) = z4) (zs4 : bits .or .u64 z4 (IntKind.u64.wrap (IntKind.u64.wrap y12 * 4294967296)) = z5) (zs5 : bits .or .u64 z5 (IntKind.u64.wrap (IntKind.u64.wrap y13 * 1099511627776)) = z6) (zs6 : bits .or .u64 z6 (IntKind.u64.wrap (IntKind.u64.wrap y14 * 281474976710656)) = z7) (zs7 : bits .or .u64 z7 (IntKind.u64.wrap (IntKind.u64.wrap y15 * 72057594037927936)) = z8) (V : Int) (hlo : lo V = x8) (hhi : hi V = z8) (hd :  V < M 2) (w : World) :
    Calls Try.prog 69 #[.agg #[.int .u8 y0, .int .u8 y1, .int .u8 y2, .int .u8 y3, .int .u8 y4, .int .u8 y5, .int .u8 y6, .int .u8 y7, .int .u8 y8, .int .u8 y9, .int .u8 y10, .int .u8 y11, .int .u8 y12, .int .u8 y13, .int .u8 y14, .int .u8 y15]] w fun e w' => e = .returned (.tuple #[.agg #[.int .u64 x8, .int .u64 z8], .int .i64 0]) ∧ Below w.heap.size w w' := by
  have hin := win_any V
  rw [hlo, hhi] at hin
  rw [show decide (V < M 2) = true by simpa using hd] at hin
  replace hin := Lib.hid hin
  clear hlo hhi hd
  have i0 : ∀ w : World, (Instr.index 77 (.agg #[.int .u8 y0, .int .u8 y1, .int .u8 y2, .int .u8 y3, .int .u8 y4, .int .u8 y5, .int .u8 y6, .int .u8 y7, .int .u8 y8, .int .u8 y9, .int .u8 y10, .int .u8 y11, .int .u8 y12, .int .u8 y13, .int .u8 y14, .int .u8 y15]) (.int .i64 0)).run Try.prog w = .ok (.int .u8 y0) w := fun _ => by kernel_rfl
  have i1 : ∀ w : World, (Instr.index 77 (.agg #[.int .u8 y0, .int .u8 y1, .int .u8 y2, .int .u8 y3, .int .u8 y4, .int .u8 y5, .int .u8 y6, .int .u8 y7, .int .u8 y8, .int .u8 y9, .int .u8 y10, .int .u8 y11, .int .u8 y12, .int .u8 y13, .int .u8 y14, .int .u8 y15]) (.int .i64 1)).run Try.prog w = .ok (.int .u8 y1) w := fun _ => by kernel_rfl
  have i2 : ∀ w : World, (Instr.index 77 (.agg #[.int .u8 y0, .int .u8 y1, .int .u8 y2, .int .u8 y3, .int .u8 y4, .int .u8 y5, .int .u8 y6, .int .u8 y7, .int .u8 y8, .int .u8 y9, .int .u8 y10, .int .u8 y11, .int .u8 y12, .int .u8 y13, .int .u8 y14, .int .u8 y15]) (.int .i64 2)).run Try.prog w = .ok (.int .u8 y2) w := fun _ => by kernel_rfl
  have i3 : ∀ w : World, (Instr.index 77 (.agg #[.int .u8 y0, .int .u8 y1, .int .u8 y2, .int .u8 y3, .int .u8 y4, .int .u8 y5, .int .u8 y6, .int .u8 y7, .int .u8 y8, .int .u8 y9, .int .u8 y10, .int .u8 y11, .int .u8 y12, .int .u8 y13, .int .u8 y14, .int .u8 y15]) (.int .i64 3)).run Try.prog w = .ok (.int .u8 y3) w := fun _ => by kernel_rfl
  have i4 : ∀ w : World, (Instr.index 77 (.agg #[.int .u8 y0, .int .u8 y1, .int .u8 y2, .int .u8 y3, .int .u8 y4, .int .u8 y5, .int .u8 y6, .int .u8 y7, .int .u8 y8, .int .u8 y9, .int .u8 y10, .int .u8 y11, .int .u8 y12, .int .u8 y13, .int .u8 y14, .int .u8 y15]) (.int .i64 4)).run Try.prog w = .ok (.int .u8 y4) w := fun _ => by kernel_rfl
  have i5 : ∀ w : World, (Instr.index 77 (.agg #[.int .u8 y0, .int .u8 y1, .int .u8 y2, .int .u8 y3, .int .u8 y4, .int .u8 y5, .int .u8 y6, .int .u8 y7, .int .u8 y8, .int .u8 y9, .int .u8 y10, .int .u8 y11, .int .u8 y12, .int .u8 y13, .int .u8 y14, .int .u8 y15]) (.int .i64 5)).run Try.prog w = .ok (.int .u8 y5) w := fun _ => by kernel_rfl
  have i6 : ∀ w : World, (Instr.index 77 (.agg #[.int .u8 y0, .int .u8 y1, .int .u8 y2, .int .u8 y3, .int .u8 y4, .int .u8 y5, .int .u8 y6, .int .u8 y7, .int .u8 y8, .int .u8 y9, .int .u8 y10, .int .u8 y11, .int .u8 y12, .int .u8 y13, .int .u8 y14, .int .u8 y15]) (.int .i64 6)).run Try.prog w = .ok (.int .u8 y6) w := fun _ => by kernel_rfl
  have i7 : ∀ w : World, (Instr.index 77 (.agg #[.int .u8 y0, .int .u8 y1, .int .u8 y2, .int .u8 y3, .int .u8 y4, .int .u8 y5, .int .u8 y6, .int .u8 y7, .int .u8 y8, .int .u8 y9, .int .u8 y10, .int .u8 y11, .int .u8 y12, .int .u8 y13, .int .u8 y14, .int .u8 y15]) (.int .i64 7)).run Try.prog w = .ok (.int .u8 y7) w := fun _ => by kernel_rfl
  have i8 : ∀ w : World, (Instr.index 77 (.agg #[.int .u8 y0, .int .u8 y1, .int .u8 y2, .int .u8 y3, .int .u8 y4, .int .u8 y5, .int .u8 y6, .int .u8 y7, .int .u8 y8, .int .u8 y9, .int .u8 y10, .int .u8 y11, .int .u8 y12, .int .u8 y13, .int .u8 y14, .int .u8 y15]) (.int .i64 8)).run Try.prog w = .ok (.int .u8 y8) w := fun _ => by kernel_rfl
  have i9 : ∀ w : World, (Instr.index 77 (.agg #[.int .u8 y0, .int .u8 y1, .int .u8 y2, .int .u8 y3, .int .u8 y4, .int .u8 y5, .int .u8 y6, .int .u8 y7, .int .u8 y8, .int .u8 y9, .int .u8 y10, .int .u8 y11, .int .u8 y12, .int .u8 y13, .int .u8 y14, .int .u8 y15]) (.int .i64 9)).run Try.prog w = .ok (.int .u8 y9) w := fun _ => by kernel_rfl
  have i10 : ∀ w : World, (Instr.index 77 (.agg #[.int .u8 y0, .int .u8 y1, .int .u8 y2, .int .u8 y3, .int .u8 y4, .int .u8 y5, .int .u8 y6, .int .u8 y7, .int .u8 y8, .int .u8 y9, .int .u8 y10, .int .u8 y11, .int .u8 y12, .int .u8 y13, .int .u8 y14, .int .u8 y15]) (.int .i64 10)).run Try.prog w = .ok (.int .u8 y10) w := fun _ => by kernel_rfl
  have i11 : ∀ w : World, (Instr.index 77 (.agg #[.int .u8 y0, .int .u8 y1, .int .u8 y2, .int .u8 y3, .int .u8 y4, .int .u8 y5, .int .u8 y6, .int .u8 y7, .int .u8 y8, .int .u8 y9, .int .u8 y10, .int .u8 y11, .int .u8 y12, .int .u8 y13, .int .u8 y14, .int .u8 y15]) (.int .i64 11)).run Try.prog w = .ok (.int .u8 y11) w := fun _ => by kernel_rfl
  have i12 : ∀ w : World, (Instr.index 77 (.agg #[.int .u8 y0, .int .u8 y1, .int .u8 y2, .int .u8 y3, .int .u8 y4, .int .u8 y5, .int .u8 y6, .int .u8 y7, .int .u8 y8, .int .u8 y9, .int .u8 y10, .int .u8 y11, .int .u8 y12, .int .u8 y13, .int .u8 y14, .int .u8 y15]) (.int .i64 12)).run Try.prog w = .ok (.int .u8 y12) w := fun _ => by kernel_rfl
  have i13 : ∀ w : World, (Instr.index 77 (.agg #[.int .u8 y0, .int .u8 y1, .int .u8 y2, .int .u8 y3, .int .u8 y4, .int .u8 y5, .int .u8 y6, .int .u8 y7, .int .u8 y8, .int .u8 y9, .int .u8 y10, .int .u8 y11, .int .u8 y12, .int .u8 y13, .int .u8 y14, .int .u8 y15]) (.int .i64 13)).run Try.prog w = .ok (.int .u8 y13) w := fun _ => by kernel_rfl
  have i14 : ∀ w : World, (Instr.index 77 (.agg #[.int .u8 y0, .int .u8 y1, .int .u8 y2, .int .u8 y3, .int .u8 y4, .int .u8 y5, .int .u8 y6, .int .u8 y7, .int .u8 y8, .int .u8 y9, .int .u8 y10, .int .u8 y11, .int .u8 y12, .int .u8 y13, .int .u8 y14, .int .u8 y15]) (.int .i64 14)).run Try.prog w = .ok (.int .u8 y14) w := fun _ => by kernel_rfl
  have i15 : ∀ w : World, (Instr.index 77 (.agg #[.int .u8 y0, .int .u8 y1, .int .u8 y2, .int .u8 y3, .int .u8 y4, .int .u8 y5, .int .u8 y6, .int .u8 y7, .int .u8 y8, .int .u8 y9, .int .u8 y10, .int .u8 y11, .int .u8 y12, .int .u8 y13, .int .u8 y14, .int .u8 y15]) (.int .i64 15)).run Try.prog w = .ok (.int .u8 y15) w := fun _ => by kernel_rfl
  go_enter Try.func69, Try.ntmps69
  go_wp2
  refine wp_loop_rounds 17 ?_
  rw [rounds_succ]
  go_wp2
  rw [rounds_succ]
  go_wp2
  rw [rounds_succ]
  go_wp2
  rw [rounds_succ]
  go_wp2
  rw [rounds_succ]
  go_wp2
  rw [rounds_succ]
  go_wp2
  rw [rounds_succ]
  go_wp2
  rw [rounds_succ]
  go_wp2
  rw [rounds_succ]
  go_wp2
  rw [rounds_succ]
  go_wp2
  rw [rounds_succ]
  go_wp2
  rw [rounds_succ]
  go_wp2
  rw [rounds_succ]
  go_wp2
  rw [rounds_succ]
  go_wp2
  rw [rounds_succ]
  go_wp2
  rw [rounds_succ]
  go_wp2
  rw [rounds_succ]
  go_wp2_with fail
  clear i0 i1 i2 i3 i4 i5 i6 i7 i8 i9 i10 i11 i12 i13 i14 i15
  refine name_calls (fun w1 => Below w.heap.size w w1 ∧ w1.heap[w.heap.size + 1]? = some (.cells #[.int .u64 0, .int .u64 0] 24 (0, 0)) ∧ w1.heap[w.heap.size + 1 + 1]? = some (.cells #[.int .u64 x8, .int .u64 z8] 24 (0, 0)))
    ⟨(((Below.refl _ _).alloc (Nat.le_refl _) _).alloc (by simp) _).alloc (by simp; omega) _, alloc_keeps (alloc_at (by simp)), alloc_at (by simp)⟩ ?_
  rintro w1 ⟨hb, hr, ha⟩
  refine call_then (hin.out _) ?_
  intro w2 hw
  replace hb := below_next hb hb.size hw
  replace hr := keeps hw hr
  replace ha := keeps hw ha
  clear hw hin
  obtain ⟨c0, c1, c2, c3⟩ := blk2 hr
  obtain ⟨d0, d1, d2, d3⟩ := blk2 ha
  go_wp2
  obtain ⟨p2, q2, _, _⟩ := blk2 (store2 (u := .int .u64 x8) (v := .int .u64 z8) hr)
  exact bodyPost_ret (v := .tuple #[.agg #[.int .u64 x8, .int .u64 z8], .int .i64 0]) (by simp [results, Try.results69, go_sem, p2, q2]) rfl ⟨rfl, below_store2 hb (Nat.le_succ _)⟩
set_option maxHeartbeats 8000000 in
theorem wtake_out (y0 y1 y2 y3 y4 y5 y6 y7 y8 y9 y10 y11 y12 y13 y14 y15 x1 x2 x3 x4 x5 x6 x7 x8 z1 z2 z3 z4 z5 z6 z7 z8 : Int) (xs0 : bits .or .u64 0 (IntKind.u64.wrap (IntKind.u64.wrap y0)) = x1) (xs1 : bits .or .u64 x1 (IntKind.u64.wrap (IntKind.u64.wrap y1 * 256)) = x2) (xs2 : bits .or .u64 x2 (IntKind.u64.wrap (IntKind.u64.wrap y2 * 65536)) = x3) (xs3 : bits .or .u64 x3 (IntKind.u64.wrap (IntKind.u64.wrap y3 * 16777216)) = x4) (xs4 : bits .or .u64 x4 (IntKind.u64.wrap (IntKind.u64.wrap y4 * 4294967296)) = x5) (xs5 : bits .or .u64 x5 (IntKind.u64.wrap (IntKind.u64.wrap y5 * 1099511627776)) = x6) (xs6 : bits .or .u64 x6 (IntKind.u64.wrap (IntKind.u64.wrap y6 * 281474976710656)) = x7) (xs7 : bits .or .u64 x7 (IntKind.u64.wrap (IntKind.u64.wrap y7 * 72057594037927936)) = x8) (zs0 : bits .or .u64 0 (IntKind.u64.wrap (IntKind.u64.wrap y8)) = z1) (zs1 : bits .or .u64 z1 (IntKind.u64.wrap (IntKind.u64.wrap y9 * 256)) = z2) (zs2 : bits .or .u64 z2 (IntKind.u64.wrap (IntKind.u64.wrap y10 * 65536)) = z3) (zs3 : bits .or .u64 z3 (IntKind.u64.wrap (IntKind.u64.wrap y11 * 16777216)) = z4) (zs4 : bits .or .u64 z4 (IntKind.u64.wrap (IntKind.u64.wrap y12 * 4294967296)) = z5) (zs5 : bits .or .u64 z5 (IntKind.u64.wrap (IntKind.u64.wrap y13 * 1099511627776)) = z6) (zs6 : bits .or .u64 z6 (IntKind.u64.wrap (IntKind.u64.wrap y14 * 281474976710656)) = z7) (zs7 : bits .or .u64 z7 (IntKind.u64.wrap (IntKind.u64.wrap y15 * 72057594037927936)) = z8) (V : Int) (hlo : lo V = x8) (hhi : hi V = z8) (hd : ¬ V < M 2) (w : World) :
    Calls Try.prog 69 #[.agg #[.int .u8 y0, .int .u8 y1, .int .u8 y2, .int .u8 y3, .int .u8 y4, .int .u8 y5, .int .u8 y6, .int .u8 y7, .int .u8 y8, .int .u8 y9, .int .u8 y10, .int .u8 y11, .int .u8 y12, .int .u8 y13, .int .u8 y14, .int .u8 y15]] w fun e w' => e = .returned (.tuple #[.agg #[.int .u64 0, .int .u64 0], .int .i64 7]) ∧ Below w.heap.size w w' := by
  have hin := win_any V
  rw [hlo, hhi] at hin
  rw [show decide (V < M 2) = false by simpa using hd] at hin
  replace hin := Lib.hid hin
  clear hlo hhi hd
  have i0 : ∀ w : World, (Instr.index 77 (.agg #[.int .u8 y0, .int .u8 y1, .int .u8 y2, .int .u8 y3, .int .u8 y4, .int .u8 y5, .int .u8 y6, .int .u8 y7, .int .u8 y8, .int .u8 y9, .int .u8 y10, .int .u8 y11, .int .u8 y12, .int .u8 y13, .int .u8 y14, .int .u8 y15]) (.int .i64 0)).run Try.prog w = .ok (.int .u8 y0) w := fun _ => by kernel_rfl
  have i1 : ∀ w : World, (Instr.index 77 (.agg #[.int .u8 y0, .int .u8 y1, .int .u8 y2, .int .u8 y3, .int .u8 y4, .int .u8 y5, .int .u8 y6, .int .u8 y7, .int .u8 y8, .int .u8 y9, .int .u8 y10, .int .u8 y11, .int .u8 y12, .int .u8 y13, .int .u8 y14, .int .u8 y15]) (.int .i64 1)).run Try.prog w = .ok (.int .u8 y1) w := fun _ => by kernel_rfl
  have i2 : ∀ w : World, (Instr.index 77 (.agg #[.int .u8 y0, .int .u8 y1, .int .u8 y2, .int .u8 y3, .int .u8 y4, .int .u8 y5, .int .u8 y6, .int .u8 y7, .int .u8 y8, .int .u8 y9, .int .u8 y10, .int .u8 y11, .int .u8 y12, .int .u8 y13, .int .u8 y14, .int .u8 y15]) (.int .i64 2)).run Try.prog w = .ok (.int .u8 y2) w := fun _ => by kernel_rfl
  have i3 : ∀ w : World, (Instr.index 77 (.agg #[.int .u8 y0, .int .u8 y1, .int .u8 y2, .int .u8 y3, .int .u8 y4, .int .u8 y5, .int .u8 y6, .int .u8 y7, .int .u8 y8, .int .u8 y9, .int .u8 y10, .int .u8 y11, .int .u8 y12, .int .u8 y13, .int .u8 y14, .int .u8 y15]) (.int .i64 3)).run Try.prog w = .ok (.int .u8 y3) w := fun _ => by kernel_rfl
  have i4 : ∀ w : World, (Instr.index 77 (.agg #[.int .u8 y0, .int .u8 y1, .int .u8 y2, .int .u8 y3, .int .u8 y4, .int .u8 y5, .int .u8 y6, .int .u8 y7, .int .u8 y8, .int .u8 y9, .int .u8 y10, .int .u8 y11, .int .u8 y12, .int .u8 y13, .int .u8 y14, .int .u8 y15]) (.int .i64 4)).run Try.prog w = .ok (.int .u8 y4) w := fun _ => by kernel_rfl
  have i5 : ∀ w : World, (Instr.index 77 (.agg #[.int .u8 y0, .int .u8 y1, .int .u8 y2, .int .u8 y3, .int .u8 y4, .int .u8 y5, .int .u8 y6, .int .u8 y7, .int .u8 y8, .int .u8 y9, .int .u8 y10, .int .u8 y11, .int .u8 y12, .int .u8 y13, .int .u8 y14, .int .u8 y15]) (.int .i64 5)).run Try.prog w = .ok (.int .u8 y5) w := fun _ => by kernel_rfl
  have i6 : ∀ w : World, (Instr.index 77 (.agg #[.int .u8 y0, .int .u8 y1, .int .u8 y2, .int .u8 y3, .int .u8 y4, .int .u8 y5, .int .u8 y6, .int .u8 y7, .int .u8 y8, .int .u8 y9, .int .u8 y10, .int .u8 y11, .int .u8 y12, .int .u8 y13, .int .u8 y14, .int .u8 y15]) (.int .i64 6)).run Try.prog w = .ok (.int .u8 y6) w := fun _ => by kernel_rfl
  have i7 : ∀ w : World, (Instr.index 77 (.agg #[.int .u8 y0, .int .u8 y1, .int .u8 y2, .int .u8 y3, .int .u8 y4, .int .u8 y5, .int .u8 y6, .int .u8 y7, .int .u8 y8, .int .u8 y9, .int .u8 y10, .int .u8 y11, .int .u8 y12, .int .u8 y13, .int .u8 y14, .int .u8 y15]) (.int .i64 7)).run Try.prog w = .ok (.int .u8 y7) w := fun _ => by kernel_rfl
  have i8 : ∀ w : World, (Instr.index 77 (.agg #[.int .u8 y0, .int .u8 y1, .int .u8 y2, .int .u8 y3, .int .u8 y4, .int .u8 y5, .int .u8 y6, .int .u8 y7, .int .u8 y8, .int .u8 y9, .int .u8 y10, .int .u8 y11, .int .u8 y12, .int .u8 y13, .int .u8 y14, .int .u8 y15]) (.int .i64 8)).run Try.prog w = .ok (.int .u8 y8) w := fun _ => by kernel_rfl
  have i9 : ∀ w : World, (Instr.index 77 (.agg #[.int .u8 y0, .int .u8 y1, .int .u8 y2, .int .u8 y3, .int .u8 y4, .int .u8 y5, .int .u8 y6, .int .u8 y7, .int .u8 y8, .int .u8 y9, .int .u8 y10, .int .u8 y11, .int .u8 y12, .int .u8 y13, .int .u8 y14, .int .u8 y15]) (.int .i64 9)).run Try.prog w = .ok (.int .u8 y9) w := fun _ => by kernel_rfl
  have i10 : ∀ w : World, (Instr.index 77 (.agg #[.int .u8 y0, .int .u8 y1, .int .u8 y2, .int .u8 y3, .int .u8 y4, .int .u8 y5, .int .u8 y6, .int .u8 y7, .int .u8 y8, .int .u8 y9, .int .u8 y10, .int .u8 y11, .int .u8 y12, .int .u8 y13, .int .u8 y14, .int .u8 y15]) (.int .i64 10)).run Try.prog w = .ok (.int .u8 y10) w := fun _ => by kernel_rfl
  have i11 : ∀ w : World, (Instr.index 77 (.agg #[.int .u8 y0, .int .u8 y1, .int .u8 y2, .int .u8 y3, .int .u8 y4, .int .u8 y5, .int .u8 y6, .int .u8 y7, .int .u8 y8, .int .u8 y9, .int .u8 y10, .int .u8 y11, .int .u8 y12, .int .u8 y13, .int .u8 y14, .int .u8 y15]) (.int .i64 11)).run Try.prog w = .ok (.int .u8 y11) w := fun _ => by kernel_rfl
  have i12 : ∀ w : World, (Instr.index 77 (.agg #[.int .u8 y0, .int .u8 y1, .int .u8 y2, .int .u8 y3, .int .u8 y4, .int .u8 y5, .int .u8 y6, .int .u8 y7, .int .u8 y8, .int .u8 y9, .int .u8 y10, .int .u8 y11, .int .u8 y12, .int .u8 y13, .int .u8 y14, .int .u8 y15]) (.int .i64 12)).run Try.prog w = .ok (.int .u8 y12) w := fun _ => by kernel_rfl
  have i13 : ∀ w : World, (Instr.index 77 (.agg #[.int .u8 y0, .int .u8 y1, .int .u8 y2, .int .u8 y3, .int .u8 y4, .int .u8 y5, .int .u8 y6, .int .u8 y7, .int .u8 y8, .int .u8 y9, .int .u8 y10, .int .u8 y11, .int .u8 y12, .int .u8 y13, .int .u8 y14, .int .u8 y15]) (.int .i64 13)).run Try.prog w = .ok (.int .u8 y13) w := fun _ => by kernel_rfl
  have i14 : ∀ w : World, (Instr.index 77 (.agg #[.int .u8 y0, .int .u8 y1, .int .u8 y2, .int .u8 y3, .int .u8 y4, .int .u8 y5, .int .u8 y6, .int .u8 y7, .int .u8 y8, .int .u8 y9, .int .u8 y10, .int .u8 y11, .int .u8 y12, .int .u8 y13, .int .u8 y14, .int .u8 y15]) (.int .i64 14)).run Try.prog w = .ok (.int .u8 y14) w := fun _ => by kernel_rfl
  have i15 : ∀ w : World, (Instr.index 77 (.agg #[.int .u8 y0, .int .u8 y1, .int .u8 y2, .int .u8 y3, .int .u8 y4, .int .u8 y5, .int .u8 y6, .int .u8 y7, .int .u8 y8, .int .u8 y9, .int .u8 y10, .int .u8 y11, .int .u8 y12, .int .u8 y13, .int .u8 y14, .int .u8 y15]) (.int .i64 15)).run Try.prog w = .ok (.int .u8 y15) w := fun _ => by kernel_rfl
  go_enter Try.func69, Try.ntmps69
  go_wp2
  refine wp_loop_rounds 17 ?_
  rw [rounds_succ]
  go_wp2
  rw [rounds_succ]
  go_wp2
  rw [rounds_succ]
  go_wp2
  rw [rounds_succ]
  go_wp2
  rw [rounds_succ]
  go_wp2
  rw [rounds_succ]
  go_wp2
  rw [rounds_succ]
  go_wp2
  rw [rounds_succ]
  go_wp2
  rw [rounds_succ]
  go_wp2
  rw [rounds_succ]
  go_wp2
  rw [rounds_succ]
  go_wp2
  rw [rounds_succ]
  go_wp2
  rw [rounds_succ]
  go_wp2
  rw [rounds_succ]
  go_wp2
  rw [rounds_succ]
  go_wp2
  rw [rounds_succ]
  go_wp2
  rw [rounds_succ]
  go_wp2_with fail
  clear i0 i1 i2 i3 i4 i5 i6 i7 i8 i9 i10 i11 i12 i13 i14 i15
  refine name_calls (fun w1 => Below w.heap.size w w1 ∧ w1.heap[w.heap.size + 1]? = some (.cells #[.int .u64 0, .int .u64 0] 24 (0, 0)) ∧ w1.heap[w.heap.size + 1 + 1]? = some (.cells #[.int .u64 x8, .int .u64 z8] 24 (0, 0)))
    ⟨(((Below.refl _ _).alloc (Nat.le_refl _) _).alloc (by simp) _).alloc (by simp; omega) _, alloc_keeps (alloc_at (by simp)), alloc_at (by simp)⟩ ?_
  rintro w1 ⟨hb, hr, ha⟩
  refine call_then (hin.out _) ?_
  intro w2 hw
  replace hb := below_next hb hb.size hw
  replace hr := keeps hw hr
  replace ha := keeps hw ha
  clear hw hin
  obtain ⟨c0, c1, c2, c3⟩ := blk2 hr
  obtain ⟨d0, d1, d2, d3⟩ := blk2 ha
  go_wp2
  obtain ⟨p2, q2, _, _⟩ := blk2 (store2 (u := .int .u64 0) (v := .int .u64 0) hr)
  exact bodyPost_ret (v := .tuple #[.agg #[.int .u64 0, .int .u64 0], .int .i64 7]) (by simp [results, Try.results69, go_sem, p2, q2]) rfl ⟨rfl, below_store2 hb (Nat.le_succ _)⟩

theorem val8_bound (y0 y1 y2 y3 y4 y5 y6 y7 : Int) (h0 : 0 ≤ y0 ∧ y0 < 256) (h1 : 0 ≤ y1 ∧ y1 < 256) (h2 : 0 ≤ y2 ∧ y2 < 256) (h3 : 0 ≤ y3 ∧ y3 < 256) (h4 : 0 ≤ y4 ∧ y4 < 256) (h5 : 0 ≤ y5 ∧ y5 < 256) (h6 : 0 ≤ y6 ∧ y6 < 256) (h7 : 0 ≤ y7 ∧ y7 < 256) :
    0 ≤ val8 y0 y1 y2 y3 y4 y5 y6 y7 ∧ val8 y0 y1 y2 y3 y4 y5 y6 y7 < 18446744073709551616 := by unfold val8; omega
theorem loVal_16 (y0 y1 y2 y3 y4 y5 y6 y7 y8 y9 y10 y11 y12 y13 y14 y15 : Int) : loVal [y0, y1, y2, y3, y4, y5, y6, y7, y8, y9, y10, y11, y12, y13, y14, y15] = val (val8 y0 y1 y2 y3 y4 y5 y6 y7) (val8 y8 y9 y10 y11 y12 y13 y14 y15) := by
  unfold val val8; simp only [loVal]; omega
theorem loVal_8 (y0 y1 y2 y3 y4 y5 y6 y7 : Int) : loVal [y0, y1, y2, y3, y4, y5, y6, y7] = val8 y0 y1 y2 y3 y4 y5 y6 y7 := by
  unfold val8; simp only [loVal]; omega
theorem wtake_ins (y0 y1 y2 y3 y4 y5 y6 y7 y8 y9 y10 y11 y12 y13 y14 y15 : Int) (h0 : 0 ≤ y0 ∧ y0 < 256) (h1 : 0 ≤ y1 ∧ y1 < 256) (h2 : 0 ≤ y2 ∧ y2 < 256) (h3 : 0 ≤ y3 ∧ y3 < 256) (h4 : 0 ≤ y4 ∧ y4 < 256) (h5 : 0 ≤ y5 ∧ y5 < 256) (h6 : 0 ≤ y6 ∧ y6 < 256) (h7 : 0 ≤ y7 ∧ y7 < 256) (h8 : 0 ≤ y8 ∧ y8 < 256) (h9 : 0 ≤ y9 ∧ y9 < 256) (h10 : 0 ≤ y10 ∧ y10 < 256) (h11 : 0 ≤ y11 ∧ y11 < 256) (h12 : 0 ≤ y12 ∧ y12 < 256) (h13 : 0 ≤ y13 ∧ y13 < 256) (h14 : 0 ≤ y14 ∧ y14 < 256) (h15 : 0 ≤ y15 ∧ y15 < 256) (V : Int) (hV : loVal [y0, y1, y2, y3, y4, y5, y6, y7, y8, y9, y10, y11, y12, y13, y14, y15] = V) (hd :  V < M 2) (w : World) :
    Calls Try.prog 69 #[.agg #[.int .u8 y0, .int .u8 y1, .int .u8 y2, .int .u8 y3, .int .u8 y4, .int .u8 y5, .int .u8 y6, .int .u8 y7, .int .u8 y8, .int .u8 y9, .int .u8 y10, .int .u8 y11, .int .u8 y12, .int .u8 y13, .int .u8 y14, .int .u8 y15]] w fun e w' => e = .returned (.tuple #[.agg #[.int .u64 (lo V), .int .u64 (hi V)], .int .i64 0]) ∧ Below w.heap.size w w' := by
  obtain ⟨f0, f1, f2, f3, f4, f5, f6, f7⟩ := gor_facts y0 y1 y2 y3 y4 y5 y6 y7 h0 h1 h2 h3 h4 h5 h6 h7
  obtain ⟨g0, g1, g2, g3, g4, g5, g6, g7⟩ := gor_facts y8 y9 y10 y11 y12 y13 y14 y15 h8 h9 h10 h11 h12 h13 h14 h15
  have b1 := val8_bound y0 y1 y2 y3 y4 y5 y6 y7 h0 h1 h2 h3 h4 h5 h6 h7
  have b2 := val8_bound y8 y9 y10 y11 y12 y13 y14 y15 h8 h9 h10 h11 h12 h13 h14 h15
  rw [loVal_16] at hV
  have e1 : lo V = val8 y0 y1 y2 y3 y4 y5 y6 y7 := by rw [← hV]; exact lo_val b1.1 b1.2
  have e2 : hi V = val8 y8 y9 y10 y11 y12 y13 y14 y15 := by rw [← hV]; exact hi_val b1.1 b1.2
  have key := wtake_in y0 y1 y2 y3 y4 y5 y6 y7 y8 y9 y10 y11 y12 y13 y14 y15 _ _ _ _ _ _ _ _ _ _ _ _ _ _ _ _ f0 f1 f2 f3 f4 f5 f6 f7 g0 g1 g2 g3 g4 g5 g6 g7 V e1 e2 hd w
  first | exact key | (rw [e1, e2]; exact key)
theorem wtake_outs (y0 y1 y2 y3 y4 y5 y6 y7 y8 y9 y10 y11 y12 y13 y14 y15 : Int) (h0 : 0 ≤ y0 ∧ y0 < 256) (h1 : 0 ≤ y1 ∧ y1 < 256) (h2 : 0 ≤ y2 ∧ y2 < 256) (h3 : 0 ≤ y3 ∧ y3 < 256) (h4 : 0 ≤ y4 ∧ y4 < 256) (h5 : 0 ≤ y5 ∧ y5 < 256) (h6 : 0 ≤ y6 ∧ y6 < 256) (h7 : 0 ≤ y7 ∧ y7 < 256) (h8 : 0 ≤ y8 ∧ y8 < 256) (h9 : 0 ≤ y9 ∧ y9 < 256) (h10 : 0 ≤ y10 ∧ y10 < 256) (h11 : 0 ≤ y11 ∧ y11 < 256) (h12 : 0 ≤ y12 ∧ y12 < 256) (h13 : 0 ≤ y13 ∧ y13 < 256) (h14 : 0 ≤ y14 ∧ y14 < 256) (h15 : 0 ≤ y15 ∧ y15 < 256) (V : Int) (hV : loVal [y0, y1, y2, y3, y4, y5, y6, y7, y8, y9, y10, y11, y12, y13, y14, y15] = V) (hd : ¬ V < M 2) (w : World) :
    Calls Try.prog 69 #[.agg #[.int .u8 y0, .int .u8 y1, .int .u8 y2, .int .u8 y3, .int .u8 y4, .int .u8 y5, .int .u8 y6, .int .u8 y7, .int .u8 y8, .int .u8 y9, .int .u8 y10, .int .u8 y11, .int .u8 y12, .int .u8 y13, .int .u8 y14, .int .u8 y15]] w fun e w' => e = .returned (.tuple #[.agg #[.int .u64 (0), .int .u64 (0)], .int .i64 7]) ∧ Below w.heap.size w w' := by
  obtain ⟨f0, f1, f2, f3, f4, f5, f6, f7⟩ := gor_facts y0 y1 y2 y3 y4 y5 y6 y7 h0 h1 h2 h3 h4 h5 h6 h7
  obtain ⟨g0, g1, g2, g3, g4, g5, g6, g7⟩ := gor_facts y8 y9 y10 y11 y12 y13 y14 y15 h8 h9 h10 h11 h12 h13 h14 h15
  have b1 := val8_bound y0 y1 y2 y3 y4 y5 y6 y7 h0 h1 h2 h3 h4 h5 h6 h7
  have b2 := val8_bound y8 y9 y10 y11 y12 y13 y14 y15 h8 h9 h10 h11 h12 h13 h14 h15
  rw [loVal_16] at hV
  have e1 : lo V = val8 y0 y1 y2 y3 y4 y5 y6 y7 := by rw [← hV]; exact lo_val b1.1 b1.2
  have e2 : hi V = val8 y8 y9 y10 y11 y12 y13 y14 y15 := by rw [← hV]; exact hi_val b1.1 b1.2
  have key := wtake_out y0 y1 y2 y3 y4 y5 y6 y7 y8 y9 y10 y11 y12 y13 y14 y15 _ _ _ _ _ _ _ _ _ _ _ _ _ _ _ _ f0 f1 f2 f3 f4 f5 f6 f7 g0 g1 g2 g3 g4 g5 g6 g7 V e1 e2 hd w
  first | exact key | (rw [e1, e2]; exact key)
end Go.Proofs.Ytokdbedineoklaa
