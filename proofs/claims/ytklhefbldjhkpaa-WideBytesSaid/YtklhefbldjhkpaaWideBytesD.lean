/-
  (the law) Any number as bytes is the reference's bytes and comes back; any bytes are a number just where the reference says so.
-/
import Derived.Test.YtklhefbldjhkpaaWideE
import Derived.Test.YtklhefbldjhkpaaWideTake
import Derived.Test.YtklhefbldjhkpaaRefBytes
import Derived.Test.YtklhefbldjhkpaaArr
import Derived.Test.YtklhefbldjhkpaaOwn
import Derived.Test.YtklhefbldjhkpaaSeg
import Derived.Test.YtklhefbldjhkpaaFrame
namespace Go.Proofs.Ytklhefbldjhkpaa
open Go.ChangeShapes Go.WideShapes Go.ChangeAt Go.RowKit F Flow
set_option linter.unusedVariables false
attribute [local go_sem] eql_elem

theorem blk16 {w : World} {p : Nat} {t : TypeId} {y0 y1 y2 y3 y4 y5 y6 y7 y8 y9 y10 y11 y12 y13 y14 y15 : Value} (h : w.heap[p]? = some (.cells #[y0, y1, y2, y3, y4, y5, y6, y7, y8, y9, y10, y11, y12, y13, y14, y15] t (0, 0))) :
    w.cell? ⟨p, 0, none⟩ = some y0 ∧ w.cell? ⟨p, 1, none⟩ = some y1 ∧ w.cell? ⟨p, 2, none⟩ = some y2 ∧ w.cell? ⟨p, 3, none⟩ = some y3 ∧ w.cell? ⟨p, 4, none⟩ = some y4 ∧ w.cell? ⟨p, 5, none⟩ = some y5 ∧ w.cell? ⟨p, 6, none⟩ = some y6 ∧ w.cell? ⟨p, 7, none⟩ = some y7 ∧ w.cell? ⟨p, 8, none⟩ = some y8 ∧ w.cell? ⟨p, 9, none⟩ = some y9 ∧ w.cell? ⟨p, 10, none⟩ = some y10 ∧ w.cell? ⟨p, 11, none⟩ = some y11 ∧ w.cell? ⟨p, 12, none⟩ = some y12 ∧ w.cell? ⟨p, 13, none⟩ = some y13 ∧ w.cell? ⟨p, 14, none⟩ = some y14 ∧ w.cell? ⟨p, 15, none⟩ = some y15 := by
  have hk : ∀ k v, (#[y0, y1, y2, y3, y4, y5, y6, y7, y8, y9, y10, y11, y12, y13, y14, y15] : Array Value)[k]? = some v → w.cell? ⟨p, k, none⟩ = some v := by
    intro k v hv
    simp [World.cell?, h, hv]
  exact ⟨hk _ _ rfl, hk _ _ rfl, hk _ _ rfl, hk _ _ rfl, hk _ _ rfl, hk _ _ rfl, hk _ _ rfl, hk _ _ rfl, hk _ _ rfl, hk _ _ rfl, hk _ _ rfl, hk _ _ rfl, hk _ _ rfl, hk _ _ rfl, hk _ _ rfl, hk _ _ rfl⟩
theorem conv16 {w : World} {p : Nat} {t : TypeId} {y0 y1 y2 y3 y4 y5 y6 y7 y8 y9 y10 y11 y12 y13 y14 y15 : Int} (h : w.heap[p]? = some (.cells #[.int .u8 y0, .int .u8 y1, .int .u8 y2, .int .u8 y3, .int .u8 y4, .int .u8 y5, .int .u8 y6, .int .u8 y7, .int .u8 y8, .int .u8 y9, .int .u8 y10, .int .u8 y11, .int .u8 y12, .int .u8 y13, .int .u8 y14, .int .u8 y15] t (0, 0))) :
    (convert 43 9 (.slice (some ⟨p, 0, none⟩) 16 16)).run Try.prog w = .ok (.string (strOfNums [y0, y1, y2, y3, y4, y5, y6, y7, y8, y9, y10, y11, y12, y13, y14, y15])) w := by
  obtain ⟨c0, c1, c2, c3, c4, c5, c6, c7, c8, c9, c10, c11, c12, c13, c14, c15⟩ := blk16 h
  refine run_convert_bytes_arg w _ _ Try.underlying43 Try.underlying5 p 0 16 16 _ rfl (fun i hi => ?_) _ Try.underlying9
  have hi' : i = 0 ∨ i = 1 ∨ i = 2 ∨ i = 3 ∨ i = 4 ∨ i = 5 ∨ i = 6 ∨ i = 7 ∨ i = 8 ∨ i = 9 ∨ i = 10 ∨ i = 11 ∨ i = 12 ∨ i = 13 ∨ i = 14 ∨ i = 15 := by omega
  rcases hi' with rfl | rfl | rfl | rfl | rfl | rfl | rfl | rfl | rfl | rfl | rfl | rfl | rfl | rfl | rfl | rfl
  · exact c0
  · exact c1
  · exact c2
  · exact c3
  · exact c4
  · exact c5
  · exact c6
  · exact c7
  · exact c8
  · exact c9
  · exact c10
  · exact c11
  · exact c12
  · exact c13
  · exact c14
  · exact c15
theorem bytesAt16 {w : World} {p : Nat} {t : TypeId} {y0 y1 y2 y3 y4 y5 y6 y7 y8 y9 y10 y11 y12 y13 y14 y15 : Int} (h : w.heap[p]? = some (.cells #[.int .u8 y0, .int .u8 y1, .int .u8 y2, .int .u8 y3, .int .u8 y4, .int .u8 y5, .int .u8 y6, .int .u8 y7, .int .u8 y8, .int .u8 y9, .int .u8 y10, .int .u8 y11, .int .u8 y12, .int .u8 y13, .int .u8 y14, .int .u8 y15] t (0, 0))) : BytesAt w (some ⟨p, 0, none⟩) [y0, y1, y2, y3, y4, y5, y6, y7, y8, y9, y10, y11, y12, y13, y14, y15] := by
  obtain ⟨c0, c1, c2, c3, c4, c5, c6, c7, c8, c9, c10, c11, c12, c13, c14, c15⟩ := blk16 h
  intro k hk
  refine ⟨p, 0, rfl, ?_⟩
  rw [Nat.zero_add]
  have hi' : k = 0 ∨ k = 1 ∨ k = 2 ∨ k = 3 ∨ k = 4 ∨ k = 5 ∨ k = 6 ∨ k = 7 ∨ k = 8 ∨ k = 9 ∨ k = 10 ∨ k = 11 ∨ k = 12 ∨ k = 13 ∨ k = 14 ∨ k = 15 := by simp at hk; omega
  rcases hi' with rfl | rfl | rfl | rfl | rfl | rfl | rfl | rfl | rfl | rfl | rfl | rfl | rfl | rfl | rfl | rfl
  · exact c0
  · exact c1
  · exact c2
  · exact c3
  · exact c4
  · exact c5
  · exact c6
  · exact c7
  · exact c8
  · exact c9
  · exact c10
  · exact c11
  · exact c12
  · exact c13
  · exact c14
  · exact c15
theorem bytesOK16 {y0 y1 y2 y3 y4 y5 y6 y7 y8 y9 y10 y11 y12 y13 y14 y15 : Int} (h0 : 0 ≤ y0 ∧ y0 < 256) (h1 : 0 ≤ y1 ∧ y1 < 256) (h2 : 0 ≤ y2 ∧ y2 < 256) (h3 : 0 ≤ y3 ∧ y3 < 256) (h4 : 0 ≤ y4 ∧ y4 < 256) (h5 : 0 ≤ y5 ∧ y5 < 256) (h6 : 0 ≤ y6 ∧ y6 < 256) (h7 : 0 ≤ y7 ∧ y7 < 256) (h8 : 0 ≤ y8 ∧ y8 < 256) (h9 : 0 ≤ y9 ∧ y9 < 256) (h10 : 0 ≤ y10 ∧ y10 < 256) (h11 : 0 ≤ y11 ∧ y11 < 256) (h12 : 0 ≤ y12 ∧ y12 < 256) (h13 : 0 ≤ y13 ∧ y13 < 256) (h14 : 0 ≤ y14 ∧ y14 < 256) (h15 : 0 ≤ y15 ∧ y15 < 256) : BytesOK [y0, y1, y2, y3, y4, y5, y6, y7, y8, y9, y10, y11, y12, y13, y14, y15] := by
  intro x hx
  simp only [List.mem_cons, List.not_mem_nil, or_false] at hx
  rcases hx with rfl | rfl | rfl | rfl | rfl | rfl | rfl | rfl | rfl | rfl | rfl | rfl | rfl | rfl | rfl | rfl <;> assumption
theorem rbytes_str (a x : Int) (a0 : 0 ≤ a) (a1 : a < 340282366920938463463374607431768211456) (hx : redu 2 a = x) (x0 : 0 ≤ x) (x1 : x < 340282366920938463463374607431768211456) (w : World) :
    Calls Try.prog 29 #[.int .i64 2, .agg #[.int .u64 (lo a), .int .u64 (hi a)]] w fun e w' => ∃ v, e = .returned v ∧ Below w.heap.size w w' ∧ StrAt w' v (strOfNums (loBytes 16 x)) :=
  (rbytesN 2 a x 16 (by omega) rsizeBy2 a0 a1 hx x0 x1 w).mono fun e w' ⟨v, he, hb, ho⟩ => ⟨v, he, hb, ownsRow_strAt ho⟩
set_option maxHeartbeats 8000000 in
theorem wideBytes_in (a y0 y1 y2 y3 y4 y5 y6 y7 y8 y9 y10 y11 y12 y13 y14 y15 : Int) (a0 : 0 ≤ a) (a1 : a < 340282366920938463463374607431768211456) (h0 : 0 ≤ y0 ∧ y0 < 256) (h1 : 0 ≤ y1 ∧ y1 < 256) (h2 : 0 ≤ y2 ∧ y2 < 256) (h3 : 0 ≤ y3 ∧ y3 < 256) (h4 : 0 ≤ y4 ∧ y4 < 256) (h5 : 0 ≤ y5 ∧ y5 < 256) (h6 : 0 ≤ y6 ∧ y6 < 256) (h7 : 0 ≤ y7 ∧ y7 < 256) (h8 : 0 ≤ y8 ∧ y8 < 256) (h9 : 0 ≤ y9 ∧ y9 < 256) (h10 : 0 ≤ y10 ∧ y10 < 256) (h11 : 0 ≤ y11 ∧ y11 < 256) (h12 : 0 ≤ y12 ∧ y12 < 256) (h13 : 0 ≤ y13 ∧ y13 < 256) (h14 : 0 ≤ y14 ∧ y14 < 256) (h15 : 0 ≤ y15 ∧ y15 < 256) (hd :  loVal [y0, y1, y2, y3, y4, y5, y6, y7, y8, y9, y10, y11, y12, y13, y14, y15] < M 2) (w : World) :
    Calls Try.prog 7 #[.agg #[.int .u64 (lo a), .int .u64 (hi a)], .agg #[.int .u8 y0, .int .u8 y1, .int .u8 y2, .int .u8 y3, .int .u8 y4, .int .u8 y5, .int .u8 y6, .int .u8 y7, .int .u8 y8, .int .u8 y9, .int .u8 y10, .int .u8 y11, .int .u8 y12, .int .u8 y13, .int .u8 y14, .int .u8 y15]] w fun e w' => e = .returned (.bool true) ∧ Below w.heap.size w w' := by
  have hr : 0 ≤ redu 2 a ∧ redu 2 a < M 2 := ⟨redu_nonneg 2 a, redu_lt 2 a⟩
  have hr1 : redu 2 a < 340282366920938463463374607431768211456 := by have := M_lt 2; omega
  have hbytes := wbytes_any a (redu 2 a) a0 a1 rfl
  have hof := wof_any a a0 a1
  have hrb := rbytes_str a (redu 2 a) a0 a1 rfl hr.1 hr1
  have hpow : redu 2 a < (256 : Int) ^ 16 := hr1
  have hback := loVal_loBytes 16 (redu 2 a) hr.1 hpow
  have hzok := loBytes_ok 16 (redu 2 a)
  generalize redu 2 a = x at *
  have hrt := fun w p t (h : (w : World).heap[p]? = some (.cells #[.int .u8 y0, .int .u8 y1, .int .u8 y2, .int .u8 y3, .int .u8 y4, .int .u8 y5, .int .u8 y6, .int .u8 y7, .int .u8 y8, .int .u8 y9, .int .u8 y10, .int .u8 y11, .int .u8 y12, .int .u8 y13, .int .u8 y14, .int .u8 y15] t (0, 0))) => rtake_any 2 [y0, y1, y2, y3, y4, y5, y6, y7, y8, y9, y10, y11, y12, y13, y14, y15] (some ⟨p, 0, none⟩) 16 16 rfl (by omega) (by omega) (bytesOK16 h0 h1 h2 h3 h4 h5 h6 h7 h8 h9 h10 h11 h12 h13 h14 h15) rinBy2 w (bytesAt16 h) _ rfl hd
  have hwt := wtake_ins y0 y1 y2 y3 y4 y5 y6 y7 y8 y9 y10 y11 y12 y13 y14 y15 h0 h1 h2 h3 h4 h5 h6 h7 h8 h9 h10 h11 h12 h13 h14 h15 _ rfl hd
  obtain ⟨z0, z1, z2, z3, z4, z5, z6, z7, z8, z9, z10, z11, z12, z13, z14, z15, hz⟩ : ∃ z0 z1 z2 z3 z4 z5 z6 z7 z8 z9 z10 z11 z12 z13 z14 z15, loBytes 16 x = [z0, z1, z2, z3, z4, z5, z6, z7, z8, z9, z10, z11, z12, z13, z14, z15] := ⟨_, _, _, _, _, _, _, _, _, _, _, _, _, _, _, _, rfl⟩
  rw [hz] at hbytes hrb hback hzok
  have hwt2 := wtake_ins z0 z1 z2 z3 z4 z5 z6 z7 z8 z9 z10 z11 z12 z13 z14 z15 (hzok _ (by simp)) (hzok _ (by simp)) (hzok _ (by simp)) (hzok _ (by simp)) (hzok _ (by simp)) (hzok _ (by simp)) (hzok _ (by simp)) (hzok _ (by simp)) (hzok _ (by simp)) (hzok _ (by simp)) (hzok _ (by simp)) (hzok _ (by simp)) (hzok _ (by simp)) (hzok _ (by simp)) (hzok _ (by simp)) (hzok _ (by simp)) x hback hr.2
  simp only [List.map_cons, List.map_nil] at hbytes
  generalize loVal [y0, y1, y2, y3, y4, y5, y6, y7, y8, y9, y10, y11, y12, y13, y14, y15] = V at *
  clear hd hz hback hzok hpow hr hr1 a0 a1 h0 h1 h2 h3 h4 h5 h6 h7 h8 h9 h10 h11 h12 h13 h14 h15
  replace hbytes := Lib.hid hbytes
  replace hof := Lib.hid hof
  replace hrb := Lib.hid hrb
  replace hrt := Lib.hid hrt
  replace hwt := Lib.hid hwt
  replace hwt2 := Lib.hid hwt2
  go_enter Try.func7, Try.ntmps7
  go_wp2_with fail
  refine name_calls (fun w1 => Below w.heap.size w w1 ∧ w1.heap[w.heap.size]? = some (.cells #[.int .u64 (lo a), .int .u64 (hi a)] 24 (0, 0)) ∧ w1.heap[w.heap.size + 1]? = some (.cells #[.int .u8 y0, .int .u8 y1, .int .u8 y2, .int .u8 y3, .int .u8 y4, .int .u8 y5, .int .u8 y6, .int .u8 y7, .int .u8 y8, .int .u8 y9, .int .u8 y10, .int .u8 y11, .int .u8 y12, .int .u8 y13, .int .u8 y14, .int .u8 y15] 38 (0, 0))) ⟨((Below.refl _ _).alloc (Nat.le_refl _) _).alloc (by simp) _, alloc_keeps (alloc_at rfl), alloc_at (by simp)⟩ ?_
  rintro w1 ⟨hb, ka, k0⟩
  refine call_then (wawake_any _) ?_
  intro w2 hb2
  replace hb := below_next hb hb.size hb2
  replace ka := keeps hb2 ka
  replace k0 := keeps hb2 k0
  clear hb2
  obtain ⟨d0, d1, _, _⟩ := blk2 ka
  go_wp2_with fail
  clear d0 d1
  refine call_then (hbytes.out _) ?_
  intro w3 hb2
  replace hb := below_next hb hb.size hb2
  replace ka := keeps hb2 ka
  replace k0 := keeps hb2 k0
  clear hb2
  obtain ⟨c0, c1, c2, c3, c4, c5, c6, c7, c8, c9, c10, c11, c12, c13, c14, c15⟩ := blk16 k0
  have l0 := lt_of_get k0
  go_wp2_with fail
  clear c0 c1 c2 c3 c4 c5 c6 c7 c8 c9 c10 c11 c12 c13 c14 c15
  refine name_calls (fun w4 => Below w.heap.size w w4 ∧ w4.heap[w.heap.size]? = some (.cells #[.int .u64 (lo a), .int .u64 (hi a)] 24 (0, 0)) ∧ w4.heap[w.heap.size + 1]? = some (.cells #[.int .u8 y0, .int .u8 y1, .int .u8 y2, .int .u8 y3, .int .u8 y4, .int .u8 y5, .int .u8 y6, .int .u8 y7, .int .u8 y8, .int .u8 y9, .int .u8 y10, .int .u8 y11, .int .u8 y12, .int .u8 y13, .int .u8 y14, .int .u8 y15] 38 (0, 0)) ∧ w4.heap[w3.heap.size]? = some (.cells #[.int .u8 z0, .int .u8 z1, .int .u8 z2, .int .u8 z3, .int .u8 z4, .int .u8 z5, .int .u8 z6, .int .u8 z7, .int .u8 z8, .int .u8 z9, .int .u8 z10, .int .u8 z11, .int .u8 z12, .int .u8 z13, .int .u8 z14, .int .u8 z15] 38 (0, 0))) ⟨hb.alloc hb.size _, alloc_keeps ka, alloc_keeps k0, alloc_at rfl⟩ ?_
  clear hb k0 ka
  generalize w3.heap.size = p at *
  rintro w4 ⟨hb, ka, k0, k1⟩
  refine call_then (hwt.out _) ?_
  intro w5 hb2
  replace hb := below_next hb hb.size hb2
  replace ka := keeps hb2 ka
  replace k0 := keeps hb2 k0
  replace k1 := keeps hb2 k1
  clear hb2
  go_wp2_with fail
  refine name_calls (fun w6 => Below w.heap.size w w6 ∧ w6.heap[w.heap.size]? = some (.cells #[.int .u64 (lo a), .int .u64 (hi a)] 24 (0, 0)) ∧ w6.heap[w.heap.size + 1]? = some (.cells #[.int .u8 y0, .int .u8 y1, .int .u8 y2, .int .u8 y3, .int .u8 y4, .int .u8 y5, .int .u8 y6, .int .u8 y7, .int .u8 y8, .int .u8 y9, .int .u8 y10, .int .u8 y11, .int .u8 y12, .int .u8 y13, .int .u8 y14, .int .u8 y15] 38 (0, 0)) ∧ w6.heap[p]? = some (.cells #[.int .u8 z0, .int .u8 z1, .int .u8 z2, .int .u8 z3, .int .u8 z4, .int .u8 z5, .int .u8 z6, .int .u8 z7, .int .u8 z8, .int .u8 z9, .int .u8 z10, .int .u8 z11, .int .u8 z12, .int .u8 z13, .int .u8 z14, .int .u8 z15] 38 (0, 0)) ∧ w6.heap[w5.heap.size]? = some (.cells #[.int .u64 (lo V), .int .u64 (hi V)] 24 (0, 0))) ⟨hb.alloc hb.size _, alloc_keeps ka, alloc_keeps k0, alloc_keeps k1, alloc_at rfl⟩ ?_
  clear hb k0 k1 ka
  generalize w5.heap.size = q at *
  rintro w6 ⟨hb, ka, k0, k1, k2⟩
  refine call_then (hrt.out _ _ _ k0) ?_
  intro w7 hb2
  replace hb := below_next hb hb.size hb2
  replace ka := keeps hb2 ka
  replace k1 := keeps hb2 k1
  replace k2 := keeps hb2 k2
  clear hb2 k0
  obtain ⟨c0, c1, c2, c3, c4, c5, c6, c7, c8, c9, c10, c11, c12, c13, c14, c15⟩ := blk16 k1
  have l1 := lt_of_get k1
  go_wp2_with fail
  clear c0 c1 c2 c3 c4 c5 c6 c7 c8 c9 c10 c11 c12 c13 c14 c15
  refine name_calls (fun w8 => Below w.heap.size w w8 ∧ w8.heap[w.heap.size]? = some (.cells #[.int .u64 (lo a), .int .u64 (hi a)] 24 (0, 0)) ∧ w8.heap[p]? = some (.cells #[.int .u8 z0, .int .u8 z1, .int .u8 z2, .int .u8 z3, .int .u8 z4, .int .u8 z5, .int .u8 z6, .int .u8 z7, .int .u8 z8, .int .u8 z9, .int .u8 z10, .int .u8 z11, .int .u8 z12, .int .u8 z13, .int .u8 z14, .int .u8 z15] 38 (0, 0)) ∧ w8.heap[q]? = some (.cells #[.int .u64 (lo V), .int .u64 (hi V)] 24 (0, 0)) ∧ w8.heap[w7.heap.size]? = some (.cells #[.int .u64 (lo V), .int .u64 (hi V)] 24 (0, 0))) ⟨hb.alloc hb.size _, alloc_keeps ka, alloc_keeps k1, alloc_keeps k2, alloc_at rfl⟩ ?_
  clear hb k1 k2 ka
  generalize w7.heap.size = q' at *
  rintro w8 ⟨hb, ka, k1, k2, k3⟩
  refine call_then (hwt2.out _) ?_
  intro w9 hb2
  replace hb := below_next hb hb.size hb2
  replace ka := keeps hb2 ka
  replace k1 := keeps hb2 k1
  replace k2 := keeps hb2 k2
  replace k3 := keeps hb2 k3
  clear hb2
  go_wp2
  refine name_wp (fun w10 => Below w.heap.size w w10 ∧ w10.heap[w.heap.size]? = some (.cells #[.int .u64 (lo a), .int .u64 (hi a)] 24 (0, 0)) ∧ w10.heap[p]? = some (.cells #[.int .u8 z0, .int .u8 z1, .int .u8 z2, .int .u8 z3, .int .u8 z4, .int .u8 z5, .int .u8 z6, .int .u8 z7, .int .u8 z8, .int .u8 z9, .int .u8 z10, .int .u8 z11, .int .u8 z12, .int .u8 z13, .int .u8 z14, .int .u8 z15] 38 (0, 0)) ∧ w10.heap[q]? = some (.cells #[.int .u64 (lo V), .int .u64 (hi V)] 24 (0, 0)) ∧ w10.heap[q']? = some (.cells #[.int .u64 (lo V), .int .u64 (hi V)] 24 (0, 0)) ∧ w10.heap[w9.heap.size]? = some (.cells #[.int .u64 (lo x), .int .u64 (hi x)] 24 (0, 0))) ⟨hb.alloc hb.size _, alloc_keeps ka, alloc_keeps k1, alloc_keeps k2, alloc_keeps k3, alloc_at rfl⟩ ?_
  clear hb k1 k2 k3 ka
  generalize w9.heap.size = r at *
  rintro w10 ⟨hb, ka, k1, k2, k3, k4⟩
  have hcv : ∀ w', Below w10.heap.size w10 w' → (convert 43 9 (.slice (some ⟨p, 0, none⟩) 16 16)).run Try.prog w' = .ok (.string (strOfNums [z0, z1, z2, z3, z4, z5, z6, z7, z8, z9, z10, z11, z12, z13, z14, z15])) w' := fun w' h => conv16 (keeps h k1)
  have ha' : ∀ w', Below w10.heap.size w10 w' → w'.heap[w.heap.size]? = some (.cells #[.int .u64 (lo a), .int .u64 (hi a)] 24 (0, 0)) := fun w' h => keeps h ka
  have hq : ∀ w', Below w10.heap.size w10 w' → w'.heap[q]? = some (.cells #[.int .u64 (lo V), .int .u64 (hi V)] 24 (0, 0)) := fun w' h => keeps h k2
  have hq' : ∀ w', Below w10.heap.size w10 w' → w'.heap[q']? = some (.cells #[.int .u64 (lo V), .int .u64 (hi V)] 24 (0, 0)) := fun w' h => keeps h k3
  have hr' : ∀ w', Below w10.heap.size w10 w' → w'.heap[r]? = some (.cells #[.int .u64 (lo x), .int .u64 (hi x)] 24 (0, 0)) := fun w' h => keeps h k4
  generalize strOfNums [z0, z1, z2, z3, z4, z5, z6, z7, z8, z9, z10, z11, z12, z13, z14, z15] = s at *
  clear k1 k2 k3 k4 ka
  replace hcv := Lib.hid hcv
  replace ha' := Lib.hid ha'
  replace hq := Lib.hid hq
  replace hq' := Lib.hid hq'
  replace hr' := Lib.hid hr'
  refine seg_start 40 (by kernel_rfl) (by decide) ?_
  intro v0 hv0
  refine seg_batch 33 [0, 1, 2, 3, 4, 5, 6] (by kernel_rfl) rfl (by kernel_rfl) (by kernel_rfl) (by kernel_rfl) ?_
  apply Exists.intro
  refine ⟨fun ι _ φ hφ => ?_, fun v1 hv1 => ?_⟩
  · have hcv' : ∀ i, (convert 43 9 (.slice (some ⟨p, 0, none⟩) 16 16)).run Try.prog (φ i) = .ok (.string s) (φ i) := fun i => hcv.out _ (below_chain hv0 (hφ.old i))
    obtain ⟨c0, c1⟩ := Family.two (φ := φ) hφ (ha'.out _ hv0)
    repeat (refine pick_step rfl ?_; go_big_quiet_step ((first | (go_at_call 27; exact flow_call hφ (wp_any _)) | (go_at_call 28; exact flow_call hφ (p_any _ _)))))
    exact pick_end
  replace hv0 := below_chain hv0 hv1
  clear hv1
  refine seg_one 7 _ (by decide) rfl (by kernel_rfl) ?_
  intro v2 K hv2 hK
  replace hv0 := below_chain hv0 hv2
  clear hv2
  replace hK := Lib.hid hK
  go_simp
  refine (hrb.out _).mono ?_
  rintro e v3 ⟨u, rfl, hv3, hcu⟩
  refine hK.out _ _ hv3 ?_
  clear hK K
  replace hv0 := below_chain hv0 hv3
  clear hv3
  refine seg_batch 0 [8, 9, 10, 11, 12, 13, 14, 15, 16, 17, 18, 19, 20, 21, 22, 23, 24, 25, 26, 27, 28, 29, 30, 31, 32, 33, 34, 35, 36, 37, 38, 39] (by kernel_rfl) rfl (by kernel_rfl) (by kernel_rfl) (by kernel_rfl) ?_
  apply Exists.intro
  refine ⟨fun ι _ φ hφ => ?_, fun v4 hv4 => ?_⟩
  · have hcu' : ∀ i, (convert 43 9 u).run Try.prog (φ i) = .ok (.string s) (φ i) := fun i => (hcu.up (hφ.old i)).conv Try.underlying43 Try.underlying5 Try.underlying9
    obtain ⟨c0, c1⟩ := Family.two (φ := φ) hφ (hq.out _ hv0)
    obtain ⟨c2, c3⟩ := Family.two (φ := φ) hφ (hq'.out _ hv0)
    obtain ⟨c4, c5⟩ := Family.two (φ := φ) hφ (hr'.out _ hv0)
    obtain ⟨c6, c7⟩ := Family.two (φ := φ) hφ (ha'.out _ hv0)
    repeat (refine pick_step rfl ?_; go_big_quiet_step ((go_at_call 10; exact flow_call hφ (hof.out _))))
    exact pick_end
  replace hv0 := below_chain hv0 hv4
  clear hv4
  refine seg_done rfl (by kernel_rfl) ?_
  intro v5 hv5
  replace hv0 := below_chain hv0 hv5
  go_wp2
  go_ret
  exact ⟨rfl, below_next hb hb.size hv0⟩
set_option maxHeartbeats 8000000 in
theorem wideBytes_out (a y0 y1 y2 y3 y4 y5 y6 y7 y8 y9 y10 y11 y12 y13 y14 y15 : Int) (a0 : 0 ≤ a) (a1 : a < 340282366920938463463374607431768211456) (h0 : 0 ≤ y0 ∧ y0 < 256) (h1 : 0 ≤ y1 ∧ y1 < 256) (h2 : 0 ≤ y2 ∧ y2 < 256) (h3 : 0 ≤ y3 ∧ y3 < 256) (h4 : 0 ≤ y4 ∧ y4 < 256) (h5 : 0 ≤ y5 ∧ y5 < 256) (h6 : 0 ≤ y6 ∧ y6 < 256) (h7 : 0 ≤ y7 ∧ y7 < 256) (h8 : 0 ≤ y8 ∧ y8 < 256) (h9 : 0 ≤ y9 ∧ y9 < 256) (h10 : 0 ≤ y10 ∧ y10 < 256) (h11 : 0 ≤ y11 ∧ y11 < 256) (h12 : 0 ≤ y12 ∧ y12 < 256) (h13 : 0 ≤ y13 ∧ y13 < 256) (h14 : 0 ≤ y14 ∧ y14 < 256) (h15 : 0 ≤ y15 ∧ y15 < 256) (hd : ¬ loVal [y0, y1, y2, y3, y4, y5, y6, y7, y8, y9, y10, y11, y12, y13, y14, y15] < M 2) (w : World) :
    Calls Try.prog 7 #[.agg #[.int .u64 (lo a), .int .u64 (hi a)], .agg #[.int .u8 y0, .int .u8 y1, .int .u8 y2, .int .u8 y3, .int .u8 y4, .int .u8 y5, .int .u8 y6, .int .u8 y7, .int .u8 y8, .int .u8 y9, .int .u8 y10, .int .u8 y11, .int .u8 y12, .int .u8 y13, .int .u8 y14, .int .u8 y15]] w fun e w' => e = .returned (.bool true) ∧ Below w.heap.size w w' := by
  have hr : 0 ≤ redu 2 a ∧ redu 2 a < M 2 := ⟨redu_nonneg 2 a, redu_lt 2 a⟩
  have hr1 : redu 2 a < 340282366920938463463374607431768211456 := by have := M_lt 2; omega
  have hbytes := wbytes_any a (redu 2 a) a0 a1 rfl
  have hof := wof_any a a0 a1
  have hrb := rbytes_str a (redu 2 a) a0 a1 rfl hr.1 hr1
  have hpow : redu 2 a < (256 : Int) ^ 16 := hr1
  have hback := loVal_loBytes 16 (redu 2 a) hr.1 hpow
  have hzok := loBytes_ok 16 (redu 2 a)
  generalize redu 2 a = x at *
  have hrt := fun w p t (h : (w : World).heap[p]? = some (.cells #[.int .u8 y0, .int .u8 y1, .int .u8 y2, .int .u8 y3, .int .u8 y4, .int .u8 y5, .int .u8 y6, .int .u8 y7, .int .u8 y8, .int .u8 y9, .int .u8 y10, .int .u8 y11, .int .u8 y12, .int .u8 y13, .int .u8 y14, .int .u8 y15] t (0, 0))) => rtake_none 2 [y0, y1, y2, y3, y4, y5, y6, y7, y8, y9, y10, y11, y12, y13, y14, y15] (some ⟨p, 0, none⟩) 16 16 rfl (by omega) (by omega) (bytesOK16 h0 h1 h2 h3 h4 h5 h6 h7 h8 h9 h10 h11 h12 h13 h14 h15) rinBy2 w (bytesAt16 h) _ rfl hd
  have hwt := wtake_outs y0 y1 y2 y3 y4 y5 y6 y7 y8 y9 y10 y11 y12 y13 y14 y15 h0 h1 h2 h3 h4 h5 h6 h7 h8 h9 h10 h11 h12 h13 h14 h15 _ rfl hd
  obtain ⟨z0, z1, z2, z3, z4, z5, z6, z7, z8, z9, z10, z11, z12, z13, z14, z15, hz⟩ : ∃ z0 z1 z2 z3 z4 z5 z6 z7 z8 z9 z10 z11 z12 z13 z14 z15, loBytes 16 x = [z0, z1, z2, z3, z4, z5, z6, z7, z8, z9, z10, z11, z12, z13, z14, z15] := ⟨_, _, _, _, _, _, _, _, _, _, _, _, _, _, _, _, rfl⟩
  rw [hz] at hbytes hrb hback hzok
  have hwt2 := wtake_ins z0 z1 z2 z3 z4 z5 z6 z7 z8 z9 z10 z11 z12 z13 z14 z15 (hzok _ (by simp)) (hzok _ (by simp)) (hzok _ (by simp)) (hzok _ (by simp)) (hzok _ (by simp)) (hzok _ (by simp)) (hzok _ (by simp)) (hzok _ (by simp)) (hzok _ (by simp)) (hzok _ (by simp)) (hzok _ (by simp)) (hzok _ (by simp)) (hzok _ (by simp)) (hzok _ (by simp)) (hzok _ (by simp)) (hzok _ (by simp)) x hback hr.2
  simp only [List.map_cons, List.map_nil] at hbytes
  generalize loVal [y0, y1, y2, y3, y4, y5, y6, y7, y8, y9, y10, y11, y12, y13, y14, y15] = V at *
  clear hd hz hback hzok hpow hr hr1 a0 a1 h0 h1 h2 h3 h4 h5 h6 h7 h8 h9 h10 h11 h12 h13 h14 h15
  replace hbytes := Lib.hid hbytes
  replace hof := Lib.hid hof
  replace hrb := Lib.hid hrb
  replace hrt := Lib.hid hrt
  replace hwt := Lib.hid hwt
  replace hwt2 := Lib.hid hwt2
  go_enter Try.func7, Try.ntmps7
  go_wp2_with fail
  refine name_calls (fun w1 => Below w.heap.size w w1 ∧ w1.heap[w.heap.size]? = some (.cells #[.int .u64 (lo a), .int .u64 (hi a)] 24 (0, 0)) ∧ w1.heap[w.heap.size + 1]? = some (.cells #[.int .u8 y0, .int .u8 y1, .int .u8 y2, .int .u8 y3, .int .u8 y4, .int .u8 y5, .int .u8 y6, .int .u8 y7, .int .u8 y8, .int .u8 y9, .int .u8 y10, .int .u8 y11, .int .u8 y12, .int .u8 y13, .int .u8 y14, .int .u8 y15] 38 (0, 0))) ⟨((Below.refl _ _).alloc (Nat.le_refl _) _).alloc (by simp) _, alloc_keeps (alloc_at rfl), alloc_at (by simp)⟩ ?_
  rintro w1 ⟨hb, ka, k0⟩
  refine call_then (wawake_any _) ?_
  intro w2 hb2
  replace hb := below_next hb hb.size hb2
  replace ka := keeps hb2 ka
  replace k0 := keeps hb2 k0
  clear hb2
  obtain ⟨d0, d1, _, _⟩ := blk2 ka
  go_wp2_with fail
  clear d0 d1
  refine call_then (hbytes.out _) ?_
  intro w3 hb2
  replace hb := below_next hb hb.size hb2
  replace ka := keeps hb2 ka
  replace k0 := keeps hb2 k0
  clear hb2
  obtain ⟨c0, c1, c2, c3, c4, c5, c6, c7, c8, c9, c10, c11, c12, c13, c14, c15⟩ := blk16 k0
  have l0 := lt_of_get k0
  go_wp2_with fail
  clear c0 c1 c2 c3 c4 c5 c6 c7 c8 c9 c10 c11 c12 c13 c14 c15
  refine name_calls (fun w4 => Below w.heap.size w w4 ∧ w4.heap[w.heap.size]? = some (.cells #[.int .u64 (lo a), .int .u64 (hi a)] 24 (0, 0)) ∧ w4.heap[w.heap.size + 1]? = some (.cells #[.int .u8 y0, .int .u8 y1, .int .u8 y2, .int .u8 y3, .int .u8 y4, .int .u8 y5, .int .u8 y6, .int .u8 y7, .int .u8 y8, .int .u8 y9, .int .u8 y10, .int .u8 y11, .int .u8 y12, .int .u8 y13, .int .u8 y14, .int .u8 y15] 38 (0, 0)) ∧ w4.heap[w3.heap.size]? = some (.cells #[.int .u8 z0, .int .u8 z1, .int .u8 z2, .int .u8 z3, .int .u8 z4, .int .u8 z5, .int .u8 z6, .int .u8 z7, .int .u8 z8, .int .u8 z9, .int .u8 z10, .int .u8 z11, .int .u8 z12, .int .u8 z13, .int .u8 z14, .int .u8 z15] 38 (0, 0))) ⟨hb.alloc hb.size _, alloc_keeps ka, alloc_keeps k0, alloc_at rfl⟩ ?_
  clear hb k0 ka
  generalize w3.heap.size = p at *
  rintro w4 ⟨hb, ka, k0, k1⟩
  refine call_then (hwt.out _) ?_
  intro w5 hb2
  replace hb := below_next hb hb.size hb2
  replace ka := keeps hb2 ka
  replace k0 := keeps hb2 k0
  replace k1 := keeps hb2 k1
  clear hb2
  go_wp2_with fail
  refine name_calls (fun w6 => Below w.heap.size w w6 ∧ w6.heap[w.heap.size]? = some (.cells #[.int .u64 (lo a), .int .u64 (hi a)] 24 (0, 0)) ∧ w6.heap[w.heap.size + 1]? = some (.cells #[.int .u8 y0, .int .u8 y1, .int .u8 y2, .int .u8 y3, .int .u8 y4, .int .u8 y5, .int .u8 y6, .int .u8 y7, .int .u8 y8, .int .u8 y9, .int .u8 y10, .int .u8 y11, .int .u8 y12, .int .u8 y13, .int .u8 y14, .int .u8 y15] 38 (0, 0)) ∧ w6.heap[p]? = some (.cells #[.int .u8 z0, .int .u8 z1, .int .u8 z2, .int .u8 z3, .int .u8 z4, .int .u8 z5, .int .u8 z6, .int .u8 z7, .int .u8 z8, .int .u8 z9, .int .u8 z10, .int .u8 z11, .int .u8 z12, .int .u8 z13, .int .u8 z14, .int .u8 z15] 38 (0, 0)) ∧ w6.heap[w5.heap.size]? = some (.cells #[.int .u64 0, .int .u64 0] 24 (0, 0))) ⟨hb.alloc hb.size _, alloc_keeps ka, alloc_keeps k0, alloc_keeps k1, alloc_at rfl⟩ ?_
  clear hb k0 k1 ka
  generalize w5.heap.size = q at *
  rintro w6 ⟨hb, ka, k0, k1, k2⟩
  refine call_then (hrt.out _ _ _ k0) ?_
  intro w7 hb2
  replace hb := below_next hb hb.size hb2
  replace ka := keeps hb2 ka
  replace k1 := keeps hb2 k1
  replace k2 := keeps hb2 k2
  clear hb2 k0
  obtain ⟨c0, c1, c2, c3, c4, c5, c6, c7, c8, c9, c10, c11, c12, c13, c14, c15⟩ := blk16 k1
  have l1 := lt_of_get k1
  go_wp2_with fail
  clear c0 c1 c2 c3 c4 c5 c6 c7 c8 c9 c10 c11 c12 c13 c14 c15
  refine name_calls (fun w8 => Below w.heap.size w w8 ∧ w8.heap[w.heap.size]? = some (.cells #[.int .u64 (lo a), .int .u64 (hi a)] 24 (0, 0)) ∧ w8.heap[p]? = some (.cells #[.int .u8 z0, .int .u8 z1, .int .u8 z2, .int .u8 z3, .int .u8 z4, .int .u8 z5, .int .u8 z6, .int .u8 z7, .int .u8 z8, .int .u8 z9, .int .u8 z10, .int .u8 z11, .int .u8 z12, .int .u8 z13, .int .u8 z14, .int .u8 z15] 38 (0, 0)) ∧ w8.heap[q]? = some (.cells #[.int .u64 0, .int .u64 0] 24 (0, 0)) ∧ w8.heap[w7.heap.size]? = some (.cells #[.int .u64 0, .int .u64 0] 24 (0, 0))) ⟨hb.alloc hb.size _, alloc_keeps ka, alloc_keeps k1, alloc_keeps k2, alloc_at rfl⟩ ?_
  clear hb k1 k2 ka
  generalize w7.heap.size = q' at *
  rintro w8 ⟨hb, ka, k1, k2, k3⟩
  refine call_then (hwt2.out _) ?_
  intro w9 hb2
  replace hb := below_next hb hb.size hb2
  replace ka := keeps hb2 ka
  replace k1 := keeps hb2 k1
  replace k2 := keeps hb2 k2
  replace k3 := keeps hb2 k3
  clear hb2
  go_wp2
  refine name_wp (fun w10 => Below w.heap.size w w10 ∧ w10.heap[w.heap.size]? = some (.cells #[.int .u64 (lo a), .int .u64 (hi a)] 24 (0, 0)) ∧ w10.heap[p]? = some (.cells #[.int .u8 z0, .int .u8 z1, .int .u8 z2, .int .u8 z3, .int .u8 z4, .int .u8 z5, .int .u8 z6, .int .u8 z7, .int .u8 z8, .int .u8 z9, .int .u8 z10, .int .u8 z11, .int .u8 z12, .int .u8 z13, .int .u8 z14, .int .u8 z15] 38 (0, 0)) ∧ w10.heap[q]? = some (.cells #[.int .u64 0, .int .u64 0] 24 (0, 0)) ∧ w10.heap[q']? = some (.cells #[.int .u64 0, .int .u64 0] 24 (0, 0)) ∧ w10.heap[w9.heap.size]? = some (.cells #[.int .u64 (lo x), .int .u64 (hi x)] 24 (0, 0))) ⟨hb.alloc hb.size _, alloc_keeps ka, alloc_keeps k1, alloc_keeps k2, alloc_keeps k3, alloc_at rfl⟩ ?_
  clear hb k1 k2 k3 ka
  generalize w9.heap.size = r at *
  rintro w10 ⟨hb, ka, k1, k2, k3, k4⟩
  have hcv : ∀ w', Below w10.heap.size w10 w' → (convert 43 9 (.slice (some ⟨p, 0, none⟩) 16 16)).run Try.prog w' = .ok (.string (strOfNums [z0, z1, z2, z3, z4, z5, z6, z7, z8, z9, z10, z11, z12, z13, z14, z15])) w' := fun w' h => conv16 (keeps h k1)
  have ha' : ∀ w', Below w10.heap.size w10 w' → w'.heap[w.heap.size]? = some (.cells #[.int .u64 (lo a), .int .u64 (hi a)] 24 (0, 0)) := fun w' h => keeps h ka
  have hq : ∀ w', Below w10.heap.size w10 w' → w'.heap[q]? = some (.cells #[.int .u64 0, .int .u64 0] 24 (0, 0)) := fun w' h => keeps h k2
  have hq' : ∀ w', Below w10.heap.size w10 w' → w'.heap[q']? = some (.cells #[.int .u64 0, .int .u64 0] 24 (0, 0)) := fun w' h => keeps h k3
  have hr' : ∀ w', Below w10.heap.size w10 w' → w'.heap[r]? = some (.cells #[.int .u64 (lo x), .int .u64 (hi x)] 24 (0, 0)) := fun w' h => keeps h k4
  generalize strOfNums [z0, z1, z2, z3, z4, z5, z6, z7, z8, z9, z10, z11, z12, z13, z14, z15] = s at *
  clear k1 k2 k3 k4 ka
  replace hcv := Lib.hid hcv
  replace ha' := Lib.hid ha'
  replace hq := Lib.hid hq
  replace hq' := Lib.hid hq'
  replace hr' := Lib.hid hr'
  refine seg_start 40 (by kernel_rfl) (by decide) ?_
  intro v0 hv0
  refine seg_batch 33 [0, 1, 2, 3, 4, 5, 6] (by kernel_rfl) rfl (by kernel_rfl) (by kernel_rfl) (by kernel_rfl) ?_
  apply Exists.intro
  refine ⟨fun ι _ φ hφ => ?_, fun v1 hv1 => ?_⟩
  · have hcv' : ∀ i, (convert 43 9 (.slice (some ⟨p, 0, none⟩) 16 16)).run Try.prog (φ i) = .ok (.string s) (φ i) := fun i => hcv.out _ (below_chain hv0 (hφ.old i))
    obtain ⟨c0, c1⟩ := Family.two (φ := φ) hφ (ha'.out _ hv0)
    repeat (refine pick_step rfl ?_; go_big_quiet_step ((first | (go_at_call 27; exact flow_call hφ (wp_any _)) | (go_at_call 28; exact flow_call hφ (p_any _ _)))))
    exact pick_end
  replace hv0 := below_chain hv0 hv1
  clear hv1
  refine seg_one 7 _ (by decide) rfl (by kernel_rfl) ?_
  intro v2 K hv2 hK
  replace hv0 := below_chain hv0 hv2
  clear hv2
  replace hK := Lib.hid hK
  go_simp
  refine (hrb.out _).mono ?_
  rintro e v3 ⟨u, rfl, hv3, hcu⟩
  refine hK.out _ _ hv3 ?_
  clear hK K
  replace hv0 := below_chain hv0 hv3
  clear hv3
  refine seg_batch 0 [8, 9, 10, 11, 12, 13, 14, 15, 16, 17, 18, 19, 20, 21, 22, 23, 24, 25, 26, 27, 28, 29, 30, 31, 32, 33, 34, 35, 36, 37, 38, 39] (by kernel_rfl) rfl (by kernel_rfl) (by kernel_rfl) (by kernel_rfl) ?_
  apply Exists.intro
  refine ⟨fun ι _ φ hφ => ?_, fun v4 hv4 => ?_⟩
  · have hcu' : ∀ i, (convert 43 9 u).run Try.prog (φ i) = .ok (.string s) (φ i) := fun i => (hcu.up (hφ.old i)).conv Try.underlying43 Try.underlying5 Try.underlying9
    obtain ⟨c0, c1⟩ := Family.two (φ := φ) hφ (hq.out _ hv0)
    obtain ⟨c2, c3⟩ := Family.two (φ := φ) hφ (hq'.out _ hv0)
    obtain ⟨c4, c5⟩ := Family.two (φ := φ) hφ (hr'.out _ hv0)
    obtain ⟨c6, c7⟩ := Family.two (φ := φ) hφ (ha'.out _ hv0)
    repeat (refine pick_step rfl ?_; go_big_quiet_step ((go_at_call 10; exact flow_call hφ (hof.out _))))
    exact pick_end
  replace hv0 := below_chain hv0 hv4
  clear hv4
  refine seg_done rfl (by kernel_rfl) ?_
  intro v5 hv5
  replace hv0 := below_chain hv0 hv5
  go_wp2
  go_ret
  exact ⟨rfl, below_next hb hb.size hv0⟩

theorem wideBytes_list (a : Int) (zs : List Int) (hn : zs.length = 16) (a0 : 0 ≤ a) (a1 : a < 340282366920938463463374607431768211456) (hz : ∀ z, z ∈ zs → (Lit.int .u8 z).wf = true) (w : World) :
    Calls Try.prog 7 #[.agg #[.int .u64 (lo a), .int .u64 (hi a)], .agg (zs.map (.int .u8)).toArray] w fun e w' => e = .returned (.bool true) ∧ Below w.heap.size w w' := by
  have hb : ∀ z, z ∈ zs → 0 ≤ z ∧ z < 256 := fun z h => by
    have := hz z h
    simp [Lit.wf, IntKind.min, IntKind.max, IntKind.signed, IntKind.bits] at this
    omega
  match zs, hn with
  | [y0, y1, y2, y3, y4, y5, y6, y7, y8, y9, y10, y11, y12, y13, y14, y15], _ =>
    by_cases hd : loVal [y0, y1, y2, y3, y4, y5, y6, y7, y8, y9, y10, y11, y12, y13, y14, y15] < M 2
    · exact wideBytes_in a y0 y1 y2 y3 y4 y5 y6 y7 y8 y9 y10 y11 y12 y13 y14 y15 a0 a1 (hb _ (by simp)) (hb _ (by simp)) (hb _ (by simp)) (hb _ (by simp)) (hb _ (by simp)) (hb _ (by simp)) (hb _ (by simp)) (hb _ (by simp)) (hb _ (by simp)) (hb _ (by simp)) (hb _ (by simp)) (hb _ (by simp)) (hb _ (by simp)) (hb _ (by simp)) (hb _ (by simp)) (hb _ (by simp)) hd w
    · exact wideBytes_out a y0 y1 y2 y3 y4 y5 y6 y7 y8 y9 y10 y11 y12 y13 y14 y15 a0 a1 (hb _ (by simp)) (hb _ (by simp)) (hb _ (by simp)) (hb _ (by simp)) (hb _ (by simp)) (hb _ (by simp)) (hb _ (by simp)) (hb _ (by simp)) (hb _ (by simp)) (hb _ (by simp)) (hb _ (by simp)) (hb _ (by simp)) (hb _ (by simp)) (hb _ (by simp)) (hb _ (by simp)) (hb _ (by simp)) hd w

theorem own_wideBytes : ownKnob Try.prog.godebug = none := by kernel_rfl
set_option maxRecDepth 100000 in
theorem lifted_wideBytes (os : Os) (started : os.Started) (H : Type) (enc : TypeId × Value → H) :
    ReturnsInHanded {} Try.checked os 7 .any (Rows.wideBytesSpec.pre6 enc Try.prog Try.f7 Rows.wideBytesRow.domain false) (Rows.wideBytesSpec.post enc Try.prog Try.f7 false true false false) := by
  refine returnsInHanded_of_change (C := Try.checked) own_wideBytes started (by kernel_rfl) Try.func7
    (ChangeSpec.witness6 (enc := enc) (C := Try.checked) false ⟨#[], #[.agg #[.int .u64 0, .int .u64 0], .agg #[.int .u8 0, .int .u8 0, .int .u8 0, .int .u8 0, .int .u8 0, .int .u8 0, .int .u8 0, .int .u8 0, .int .u8 0, .int .u8 0, .int .u8 0, .int .u8 0, .int .u8 0, .int .u8 0, .int .u8 0, .int .u8 0]], []⟩ 8 (by kernel_rfl) (by kernel_rfl) (by kernel_rfl) (by kernel_rfl)) ?_
  intro W base args ds gs before hval0 hW hcnd _
  have hval : ∀ (j : Nat) t v, Try.f7.params[j]? = some t → args[j]? = some v → Value.okWide Try.prog W .any base t v := hval0
  have hW' := hW
  obtain ⟨p, q, hA0, hV, rfl, hfz, hnd⟩ := hW
  have hA : DataW.TrodAll enc Try.prog W 0 (fun _ => true) true Try.f7.params.toList args.toList ds p := hA0
  rw [Try.params7] at hA hval
  obtain ⟨v0, vs0, d0, ds0, p0, q0, hargs, rfl, rfl, h0, r0⟩ := trodAll_cons hA
  obtain ⟨v1, vs1, d1, ds1, p1, q1, rfl, rfl, rfl, h1, r1⟩ := trodAll_cons r0
  obtain ⟨rfl, rfl, rfl⟩ := trodAll_nil r1
  obtain rfl : args = #[v0, v1] := by cases args; simp_all
  obtain ⟨rfl, rfl⟩ := trodVars_none hV
  obtain ⟨a0, w0, u0, rfl, _, _⟩ := open_elem (hval 0 24 v0 rfl rfl) h0
  obtain ⟨zs, hn, rfl, _, _, hz⟩ := open_int_array (k := .u8) Try.underlying38 Try.underlying5 (by kernel_rfl) (by kernel_rfl) (hval 1 38 v1 rfl rfl) h1
  clear hA0 hval0
  refine (wideBytes_list a0 zs hn w0 u0 hz W).mono fun e W' ⟨he, hb⟩ => ?_
  subst he
  exact ⟨_, rfl, law_true (by decide +kernel) rfl rfl Try.underlying4 hW' rfl hb⟩
theorem over_wideBytes : Rows.wideBytesRow.holds Try.pinned (OpenSpec.ofChange Rows.wideBytesSpec) :=
  OpenClaim.holds_of_wide 7 Try.f7 rfl rfl rfl rfl rfl rfl rfl ⟨rfl, rfl, rfl, rfl, rfl⟩ rfl rfl rfl rfl rfl (by kernel_rfl) Try.func7 (by kernel_rfl)
    (of_decide_eq_true (by kernel_rfl)) (by unfold Func.isWrapper; first | (rw [if_pos (by decide +kernel)]; kernel_rfl) | (rw [if_neg (by decide +kernel)]; exact ⟨rfl, rfl⟩))
    (fun os started H enc _ => lifted_wideBytes os started H enc)
theorem wideBytes_proved : Rows.WideBytesSaid := over_wideBytes
#print axioms wideBytes_proved
end Go.Proofs.Ytklhefbldjhkpaa
