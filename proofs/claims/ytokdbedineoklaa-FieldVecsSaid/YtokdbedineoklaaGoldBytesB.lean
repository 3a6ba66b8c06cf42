/-
  Contracts of gold's bytes: bytes as a number, at both sides.
-/
import Derived.Test.YtokdbedineoklaaGoldBytes
namespace Go.Proofs.Ytokdbedineoklaa
open Go.RowKit F Flow
set_option linter.unusedVariables false

/-- The number that eight bytes are. -/
def val8 (y0 y1 y2 y3 y4 y5 y6 y7 : Int) : Int := y0 + y1 * 256 + y2 * 65536 + y3 * 16777216 + y4 * 4294967296 + y5 * 1099511627776 + y6 * 281474976710656 + y7 * 72057594037927936
theorem gor_facts (y0 y1 y2 y3 y4 y5 y6 y7 : Int) (h0 : 0 ≤ y0 ∧ y0 < 256) (h1 : 0 ≤ y1 ∧ y1 < 256) (h2 : 0 ≤ y2 ∧ y2 < 256) (h3 : 0 ≤ y3 ∧ y3 < 256) (h4 : 0 ≤ y4 ∧ y4 < 256) (h5 : 0 ≤ y5 ∧ y5 < 256) (h6 : 0 ≤ y6 ∧ y6 < 256) (h7 : 0 ≤ y7 ∧ y7 < 256) :
    bits .or .u64 0 (IntKind.u64.wrap (IntKind.u64.wrap y0)) = y0 ∧
    bits .or .u64 (y0) (IntKind.u64.wrap (IntKind.u64.wrap y1 * 256)) = y0 + y1 * 256 ∧
    bits .or .u64 (y0 + y1 * 256) (IntKind.u64.wrap (IntKind.u64.wrap y2 * 65536)) = y0 + y1 * 256 + y2 * 65536 ∧
    bits .or .u64 (y0 + y1 * 256 + y2 * 65536) (IntKind.u64.wrap (IntKind.u64.wrap y3 * 16777216)) = y0 + y1 * 256 + y2 * 65536 + y3 * 16777216 ∧
    bits .or .u64 (y0 + y1 * 256 + y2 * 65536 + y3 * 16777216) (IntKind.u64.wrap (IntKind.u64.wrap y4 * 4294967296)) = y0 + y1 * 256 + y2 * 65536 + y3 * 16777216 + y4 * 4294967296 ∧
    bits .or .u64 (y0 + y1 * 256 + y2 * 65536 + y3 * 16777216 + y4 * 4294967296) (IntKind.u64.wrap (IntKind.u64.wrap y5 * 1099511627776)) = y0 + y1 * 256 + y2 * 65536 + y3 * 16777216 + y4 * 4294967296 + y5 * 1099511627776 ∧
    bits .or .u64 (y0 + y1 * 256 + y2 * 65536 + y3 * 16777216 + y4 * 4294967296 + y5 * 1099511627776) (IntKind.u64.wrap (IntKind.u64.wrap y6 * 281474976710656)) = y0 + y1 * 256 + y2 * 65536 + y3 * 16777216 + y4 * 4294967296 + y5 * 1099511627776 + y6 * 281474976710656 ∧
    bits .or .u64 (y0 + y1 * 256 + y2 * 65536 + y3 * 16777216 + y4 * 4294967296 + y5 * 1099511627776 + y6 * 281474976710656) (IntKind.u64.wrap (IntKind.u64.wrap y7 * 72057594037927936)) = y0 + y1 * 256 + y2 * 65536 + y3 * 16777216 + y4 * 4294967296 + y5 * 1099511627776 + y6 * 281474976710656 + y7 * 72057594037927936 := by
  refine ⟨?_, ?_, ?_, ?_, ?_, ?_, ?_, ?_⟩
  · have := join_step (x := 0) (y := y0) (k := 0) (by omega) (by omega) (by omega) h0.1 h0.2
    simpa using this
  · exact join_step (x := y0) (y := y1) (k := 8) (by omega) (by omega) (by show _ < (256 : Int); omega) h1.1 h1.2
  · exact join_step (x := y0 + y1 * 256) (y := y2) (k := 16) (by omega) (by omega) (by show _ < (65536 : Int); omega) h2.1 h2.2
  · exact join_step (x := y0 + y1 * 256 + y2 * 65536) (y := y3) (k := 24) (by omega) (by omega) (by show _ < (16777216 : Int); omega) h3.1 h3.2
  · exact join_step (x := y0 + y1 * 256 + y2 * 65536 + y3 * 16777216) (y := y4) (k := 32) (by omega) (by omega) (by show _ < (4294967296 : Int); omega) h4.1 h4.2
  · exact join_step (x := y0 + y1 * 256 + y2 * 65536 + y3 * 16777216 + y4 * 4294967296) (y := y5) (k := 40) (by omega) (by omega) (by show _ < (1099511627776 : Int); omega) h5.1 h5.2
  · exact join_step (x := y0 + y1 * 256 + y2 * 65536 + y3 * 16777216 + y4 * 4294967296 + y5 * 1099511627776) (y := y6) (k := 48) (by omega) (by omega) (by show _ < (281474976710656 : Int); omega) h6.1 h6.2
  · exact join_step (x := y0 + y1 * 256 + y2 * 65536 + y3 * 16777216 + y4 * 4294967296 + y5 * 1099511627776 + y6 * 281474976710656) (y := y7) (k := 56) (by omega) (by omega) (by show _ < (72057594037927936 : Int); omega) h7.1 h7.2
theorem gtake_in8 (y0 y1 y2 y3 y4 y5 y6 y7 : Int) (h0 : 0 ≤ y0 ∧ y0 < 256) (h1 : 0 ≤ y1 ∧ y1 < 256) (h2 : 0 ≤ y2 ∧ y2 < 256) (h3 : 0 ≤ y3 ∧ y3 < 256) (h4 : 0 ≤ y4 ∧ y4 < 256) (h5 : 0 ≤ y5 ∧ y5 < 256) (h6 : 0 ≤ y6 ∧ y6 < 256) (h7 : 0 ≤ y7 ∧ y7 < 256) (hd : val8 y0 y1 y2 y3 y4 y5 y6 y7 < 18446744069414584321) (w : World) :
    Calls Try.prog 68 #[.agg #[.int .u8 y0, .int .u8 y1, .int .u8 y2, .int .u8 y3, .int .u8 y4, .int .u8 y5, .int .u8 y6, .int .u8 y7]] w fun e w' => e = .returned (.tuple #[.int .u64 (val8 y0 y1 y2 y3 y4 y5 y6 y7), .int .i64 0]) ∧ Below w.heap.size w w' := by
  obtain ⟨f0, f1, f2, f3, f4, f5, f6, f7⟩ := gor_facts y0 y1 y2 y3 y4 y5 y6 y7 h0 h1 h2 h3 h4 h5 h6 h7
  exact gtake_in y0 y1 y2 y3 y4 y5 y6 y7 _ _ _ _ _ _ _ _ f0 f1 f2 f3 f4 f5 f6 f7 hd w
theorem gtake_out8 (y0 y1 y2 y3 y4 y5 y6 y7 : Int) (h0 : 0 ≤ y0 ∧ y0 < 256) (h1 : 0 ≤ y1 ∧ y1 < 256) (h2 : 0 ≤ y2 ∧ y2 < 256) (h3 : 0 ≤ y3 ∧ y3 < 256) (h4 : 0 ≤ y4 ∧ y4 < 256) (h5 : 0 ≤ y5 ∧ y5 < 256) (h6 : 0 ≤ y6 ∧ y6 < 256) (h7 : 0 ≤ y7 ∧ y7 < 256) (hd : ¬ val8 y0 y1 y2 y3 y4 y5 y6 y7 < 18446744069414584321) (w : World) :
    Calls Try.prog 68 #[.agg #[.int .u8 y0, .int .u8 y1, .int .u8 y2, .int .u8 y3, .int .u8 y4, .int .u8 y5, .int .u8 y6, .int .u8 y7]] w fun e w' => e = .returned (.tuple #[.int .u64 0, .int .i64 7]) ∧ Below w.heap.size w w' := by
  obtain ⟨f0, f1, f2, f3, f4, f5, f6, f7⟩ := gor_facts y0 y1 y2 y3 y4 y5 y6 y7 h0 h1 h2 h3 h4 h5 h6 h7
  exact gtake_out y0 y1 y2 y3 y4 y5 y6 y7 _ _ _ _ _ _ _ _ f0 f1 f2 f3 f4 f5 f6 f7 hd w
theorem horner {x y : Int} (x0 : 0 ≤ x) (x1 : x < 72057594037927936) (y0 : 0 ≤ y) (y1 : y < 256) : IntKind.u64.wrap (IntKind.u64.wrap (x * 256) + IntKind.u64.wrap y) = x * 256 + y := by
  simp only [IntKind.wrap_u64]; omega
theorem horner_first {y : Int} (y0 : 0 ≤ y) (y1 : y < 256) : IntKind.u64.wrap (IntKind.u64.wrap y) = y := by
  simp only [IntKind.wrap_u64]; omega
theorem rtake_in8 (p : Nat) (y0 y1 y2 y3 y4 y5 y6 y7 : Int) (h0 : 0 ≤ y0 ∧ y0 < 256) (h1 : 0 ≤ y1 ∧ y1 < 256) (h2 : 0 ≤ y2 ∧ y2 < 256) (h3 : 0 ≤ y3 ∧ y3 < 256) (h4 : 0 ≤ y4 ∧ y4 < 256) (h5 : 0 ≤ y5 ∧ y5 < 256) (h6 : 0 ≤ y6 ∧ y6 < 256) (h7 : 0 ≤ y7 ∧ y7 < 256) (hd : val8 y0 y1 y2 y3 y4 y5 y6 y7 < 18446744069414584321) (w : World) (t : TypeId) (h : w.heap[p]? = some (.cells #[.int .u8 y0, .int .u8 y1, .int .u8 y2, .int .u8 y3, .int .u8 y4, .int .u8 y5, .int .u8 y6, .int .u8 y7] t (0, 0))) :
    Calls Try.prog 39 #[.int .i64 1, .slice (some ⟨p, 0, none⟩) 8 8] w fun e w' => e = .returned (.tuple #[.agg #[.int .u64 (val8 y0 y1 y2 y3 y4 y5 y6 y7), .int .u64 0], .bool true]) ∧ Below w.heap.size w w' := by
  have e : ((((((y7 * 256 + y6) * 256 + y5) * 256 + y4) * 256 + y3) * 256 + y2) * 256 + y1) * 256 + y0 = val8 y0 y1 y2 y3 y4 y5 y6 y7 := by unfold val8; omega
  have hb : 0 ≤ val8 y0 y1 y2 y3 y4 y5 y6 y7 ∧ val8 y0 y1 y2 y3 y4 y5 y6 y7 < 18446744073709551616 := by unfold val8; omega
  have k := rtake_in p y0 y1 y2 y3 y4 y5 y6 y7 _ _ _ _ _ _ _ _ (horner_first h7.1 h7.2) (horner (x := y7) (y := y6) (by omega) (by omega) h6.1 h6.2) (horner (x := y7 * 256 + y6) (y := y5) (by omega) (by omega) h5.1 h5.2) (horner (x := (y7 * 256 + y6) * 256 + y5) (y := y4) (by omega) (by omega) h4.1 h4.2) (horner (x := ((y7 * 256 + y6) * 256 + y5) * 256 + y4) (y := y3) (by omega) (by omega) h3.1 h3.2) (horner (x := (((y7 * 256 + y6) * 256 + y5) * 256 + y4) * 256 + y3) (y := y2) (by omega) (by omega) h2.1 h2.2) (horner (x := ((((y7 * 256 + y6) * 256 + y5) * 256 + y4) * 256 + y3) * 256 + y2) (y := y1) (by omega) (by omega) h1.1 h1.2) (horner (x := (((((y7 * 256 + y6) * 256 + y5) * 256 + y4) * 256 + y3) * 256 + y2) * 256 + y1) (y := y0) (by omega) (by omega) h0.1 h0.2) (by rw [e]; exact hb.1) (by rw [e]; exact hb.2) (by rw [e]; exact hd) w t h
  first | exact k | (rw [e] at k; exact k)
theorem rtake_out8 (p : Nat) (y0 y1 y2 y3 y4 y5 y6 y7 : Int) (h0 : 0 ≤ y0 ∧ y0 < 256) (h1 : 0 ≤ y1 ∧ y1 < 256) (h2 : 0 ≤ y2 ∧ y2 < 256) (h3 : 0 ≤ y3 ∧ y3 < 256) (h4 : 0 ≤ y4 ∧ y4 < 256) (h5 : 0 ≤ y5 ∧ y5 < 256) (h6 : 0 ≤ y6 ∧ y6 < 256) (h7 : 0 ≤ y7 ∧ y7 < 256) (hd : ¬ val8 y0 y1 y2 y3 y4 y5 y6 y7 < 18446744069414584321) (w : World) (t : TypeId) (h : w.heap[p]? = some (.cells #[.int .u8 y0, .int .u8 y1, .int .u8 y2, .int .u8 y3, .int .u8 y4, .int .u8 y5, .int .u8 y6, .int .u8 y7] t (0, 0))) :
    Calls Try.prog 39 #[.int .i64 1, .slice (some ⟨p, 0, none⟩) 8 8] w fun e w' => e = .returned (.tuple #[.agg #[.int .u64 0, .int .u64 0], .bool false]) ∧ Below w.heap.size w w' := by
  have e : ((((((y7 * 256 + y6) * 256 + y5) * 256 + y4) * 256 + y3) * 256 + y2) * 256 + y1) * 256 + y0 = val8 y0 y1 y2 y3 y4 y5 y6 y7 := by unfold val8; omega
  have hb : 0 ≤ val8 y0 y1 y2 y3 y4 y5 y6 y7 ∧ val8 y0 y1 y2 y3 y4 y5 y6 y7 < 18446744073709551616 := by unfold val8; omega
  have k := rtake_out p y0 y1 y2 y3 y4 y5 y6 y7 _ _ _ _ _ _ _ _ (horner_first h7.1 h7.2) (horner (x := y7) (y := y6) (by omega) (by omega) h6.1 h6.2) (horner (x := y7 * 256 + y6) (y := y5) (by omega) (by omega) h5.1 h5.2) (horner (x := (y7 * 256 + y6) * 256 + y5) (y := y4) (by omega) (by omega) h4.1 h4.2) (horner (x := ((y7 * 256 + y6) * 256 + y5) * 256 + y4) (y := y3) (by omega) (by omega) h3.1 h3.2) (horner (x := (((y7 * 256 + y6) * 256 + y5) * 256 + y4) * 256 + y3) (y := y2) (by omega) (by omega) h2.1 h2.2) (horner (x := ((((y7 * 256 + y6) * 256 + y5) * 256 + y4) * 256 + y3) * 256 + y2) (y := y1) (by omega) (by omega) h1.1 h1.2) (horner (x := (((((y7 * 256 + y6) * 256 + y5) * 256 + y4) * 256 + y3) * 256 + y2) * 256 + y1) (y := y0) (by omega) (by omega) h0.1 h0.2) (by rw [e]; exact hb.1) (by rw [e]; exact hb.2) (by rw [e]; exact hd) w t h
  first | exact k | (rw [e] at k; exact k)
end Go.Proofs.Ytokdbedineoklaa
