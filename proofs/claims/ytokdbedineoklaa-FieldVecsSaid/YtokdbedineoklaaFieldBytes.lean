/-
  Contracts of Field's bytes: an element as bytes.
-/
import Derived.Test.YtokdbedineoklaaFieldPow
import Derived.Test.YtokdbedineoklaaWideTake
import Derived.Test.YtokdbedineoklaaRefBytes
namespace Go.Proofs.Ytokdbedineoklaa
open Go.RowKit F Flow
set_option linter.unusedVariables false
attribute [local go_sem] eql_elem

def FbytesBy (n f : Int) (N : Nat) : Prop := ∀ a w, 0 ≤ a → a < 340282366920938463463374607431768211456 → Calls Try.prog 35 #[.int .u8 n, .agg #[.int .u64 (lo a), .int .u64 (hi a)]] w fun e w' =>
  ∃ b o, e = .returned (.slice (some ⟨b, o, none⟩) N N) ∧ Below w.heap.size w w' ∧ BytesAt w' (some ⟨b, o, none⟩) (loBytes N (redu f a))
theorem bytesAt_blk {w : World} {p : Nat} {t : TypeId} {ys : List Int} (h : w.heap[p]? = some (.cells (ys.map (Value.int .u8)).toArray t (0, 0))) : BytesAt w (some ⟨p, 0, none⟩) ys := by
  intro k hk
  refine ⟨p, 0, rfl, ?_⟩
  rw [Nat.zero_add]
  simp [World.cell?, h, hk]
theorem cells8_lo (x : Int) : (cells8 x) = ((loBytes 8 x).map (Value.int .u8)).toArray := by
  simp only [loBytes, List.map_cons, List.map_nil, cells8]
  refine congrArg List.toArray ?_
  simp only [List.cons.injEq, Value.int.injEq, true_and, and_true]
  omega
set_option maxHeartbeats 4000000 in
theorem fbytes_one : FbytesBy 1 1 8 := by
  intro a w a0 a1
  have hc : ∀ w, Calls Try.prog 70 #[.int .u64 (lo a)] w fun e w' => e = .returned (.agg ((loBytes 8 (redu 1 a)).map (.int .u8)).toArray) ∧ Below w.heap.size w w' := by
    intro w
    have h := gbytes_any (lo a) (lo_nonneg a) (lo_lt a) w
    have e : redu 1 (lo a) = redu 1 a := by simp [redu, lo_lo]
    rw [e] at h
    rwa [cells8_lo] at h
  obtain ⟨z0, z1, z2, z3, z4, z5, z6, z7, hz⟩ : ∃ z0 z1 z2 z3 z4 z5 z6 z7, loBytes 8 (redu 1 a) = [z0, z1, z2, z3, z4, z5, z6, z7] := ⟨_, _, _, _, _, _, _, _, rfl⟩
  rw [hz] at hc ⊢
  simp only [List.map_cons, List.map_nil] at hc
  replace hc := Lib.hid hc
  clear hz a0 a1
  go_enter Try.func35, Try.ntmps35
  go_wp2_with fail
  refine name_calls (fun w1 => Below w.heap.size w w1 ∧ w1.heap[w.heap.size]? = some (.cells #[.int .u64 (lo a), .int .u64 (hi a)] 24 (0, 0))) ⟨(Below.refl _ _).alloc (Nat.le_refl _) _, alloc_at rfl⟩ ?_
  rintro w1 ⟨hb, k0⟩
  obtain ⟨c0, c1, _, _⟩ := blk2 k0
  go_wp2_with fail
  clear c0 c1
  refine call_then (hc.out _) ?_
  intro w2 hb2
  replace hb := below_next hb hb.size hb2
  clear hb2 k0
  go_wp2
  go_ret
  refine ⟨_, _, rfl, hb.alloc hb.size _, bytesAt_blk (t := 75) (alloc_at ?_)⟩
  rfl
set_option maxHeartbeats 4000000 in
theorem fbytes_two : FbytesBy 2 2 16 := by
  intro a w a0 a1
  have hc : ∀ w, Calls Try.prog 71 #[.agg #[.int .u64 (lo a), .int .u64 (hi a)]] w fun e w' => e = .returned (.agg ((loBytes 16 (redu 2 a)).map (.int .u8)).toArray) ∧ Below w.heap.size w w' :=
    fun w => wbytes_any a _ a0 a1 rfl w
  obtain ⟨z0, z1, z2, z3, z4, z5, z6, z7, z8, z9, z10, z11, z12, z13, z14, z15, hz⟩ : ∃ z0 z1 z2 z3 z4 z5 z6 z7 z8 z9 z10 z11 z12 z13 z14 z15, loBytes 16 (redu 2 a) = [z0, z1, z2, z3, z4, z5, z6, z7, z8, z9, z10, z11, z12, z13, z14, z15] := ⟨_, _, _, _, _, _, _, _, _, _, _, _, _, _, _, _, rfl⟩
  rw [hz] at hc ⊢
  simp only [List.map_cons, List.map_nil] at hc
  replace hc := Lib.hid hc
  clear hz a0 a1
  go_enter Try.func35, Try.ntmps35
  go_wp2_with fail
  refine name_calls (fun w1 => Below w.heap.size w w1 ∧ w1.heap[w.heap.size]? = some (.cells #[.int .u64 (lo a), .int .u64 (hi a)] 24 (0, 0))) ⟨(Below.refl _ _).alloc (Nat.le_refl _) _, alloc_at rfl⟩ ?_
  rintro w1 ⟨hb, k0⟩
  obtain ⟨c0, c1, _, _⟩ := blk2 k0
  go_wp2_with fail
  clear c0 c1
  refine call_then (hc.out _) ?_
  intro w2 hb2
  replace hb := below_next hb hb.size hb2
  clear hb2 k0
  go_wp2
  go_ret
  refine ⟨_, _, rfl, hb.alloc hb.size _, bytesAt_blk (t := 77) (alloc_at ?_)⟩
  rfl
end Go.Proofs.Ytokdbedineoklaa
