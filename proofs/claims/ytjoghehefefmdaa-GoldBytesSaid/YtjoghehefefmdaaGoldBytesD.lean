/-
  (the law) Any number as bytes is the reference's bytes and comes back; any bytes are a number just where the reference says so.
-/
import Derived.Test.YtjoghehefefmdaaGoldBytesC
import Derived.Test.YtjoghehefefmdaaArr
import Derived.Test.YtjoghehefefmdaaOwn
import Derived.Test.YtjoghehefefmdaaSeg
namespace Go.Proofs.Ytjoghehefefmdaa
open Go.ChangeShapes Go.WideShapes Go.ChangeAt Go.RowKit F Flow
set_option linter.unusedVariables false
attribute [local go_sem] eql_elem

theorem val8_redu (x : Int) (x0 : 0 ≤ x) (x1 : x < 18446744073709551616) : val8 (x % 256) (x / 256 % 256) (x / 65536 % 256) (x / 16777216 % 256) (x / 4294967296 % 256) (x / 1099511627776 % 256) (x / 281474976710656 % 256) (x / 72057594037927936 % 256) = x := by
  unfold val8; omega
theorem gbytes_lit (a x : Int) (h0 : 0 ≤ a) (h1 : a < 18446744073709551616) (hx : redu 1 a = x) (w : World) :
    Calls Try.prog 25 #[.int .u64 a] w fun e w' => e = .returned (.agg #[.int .u8 (x % 256), .int .u8 (x / 256 % 256), .int .u8 (x / 65536 % 256), .int .u8 (x / 16777216 % 256), .int .u8 (x / 4294967296 % 256), .int .u8 (x / 1099511627776 % 256), .int .u8 (x / 281474976710656 % 256), .int .u8 (x / 72057594037927936 % 256)]) ∧ Below w.heap.size w w' := by
  subst hx; exact gbytes_any a h0 h1 w
theorem below_step {W w1 w2 : World} (h : Below W.heap.size W w1) (h2 : Below w1.heap.size w1 w2) : Below W.heap.size W w2 := below_next h h.size h2
theorem rbytes_str (a x : Int) (a0 : 0 ≤ a) (a1 : a < 18446744073709551616) (hx : redu 1 a = x) (x0 : 0 ≤ x) (x1 : x < 18446744069414584321) (w : World) :
    Calls Try.prog 28 #[.int .i64 1, .agg #[.int .u64 a, .int .u64 0]] w fun e w' => ∃ v, e = .returned v ∧ Below w.heap.size w w' ∧ StrAt w' v (strOfNums [x % 256, x / 256 % 256, x / 65536 % 256, x / 16777216 % 256, x / 4294967296 % 256, x / 1099511627776 % 256, x / 281474976710656 % 256, x / 72057594037927936 % 256]) :=
  (rbytes_any a x a0 a1 hx x0 x1 w).mono fun e w' ⟨v, he, hb, ho⟩ => ⟨v, he, hb, ownsRow_strAt (by simpa [cells8] using ho)⟩
theorem conv8 {w : World} {p : Nat} {t : TypeId} {y0 y1 y2 y3 y4 y5 y6 y7 : Int} (h : w.heap[p]? = some (.cells #[.int .u8 y0, .int .u8 y1, .int .u8 y2, .int .u8 y3, .int .u8 y4, .int .u8 y5, .int .u8 y6, .int .u8 y7] t (0, 0))) :
    (convert 44 9 (.slice (some ⟨p, 0, none⟩) 8 8)).run Try.prog w = .ok (.string (strOfNums [y0, y1, y2, y3, y4, y5, y6, y7])) w := by
  obtain ⟨c0, c1, c2, c3, c4, c5, c6, c7⟩ := blk8 h
  refine run_convert_bytes_arg w _ _ Try.underlying44 Try.underlying5 p 0 8 8 _ rfl (fun i hi => ?_) _ Try.underlying9
  match i, hi with
  | 0, _ => exact c0
  | 1, _ => exact c1
  | 2, _ => exact c2
  | 3, _ => exact c3
  | 4, _ => exact c4
  | 5, _ => exact c5
  | 6, _ => exact c6
  | 7, _ => exact c7
set_option maxHeartbeats 4000000 in
theorem goldBytes_in (a y0 y1 y2 y3 y4 y5 y6 y7 : Int) (wa : (Lit.int .u64 a).wf = true) (h0 : 0 ≤ y0 ∧ y0 < 256) (h1 : 0 ≤ y1 ∧ y1 < 256) (h2 : 0 ≤ y2 ∧ y2 < 256) (h3 : 0 ≤ y3 ∧ y3 < 256) (h4 : 0 ≤ y4 ∧ y4 < 256) (h5 : 0 ≤ y5 ∧ y5 < 256) (h6 : 0 ≤ y6 ∧ y6 < 256) (h7 : 0 ≤ y7 ∧ y7 < 256) (hd :  val8 y0 y1 y2 y3 y4 y5 y6 y7 < 18446744069414584321) (w : World) :
    Calls Try.prog 7 #[.int .u64 a, .agg #[.int .u8 y0, .int .u8 y1, .int .u8 y2, .int .u8 y3, .int .u8 y4, .int .u8 y5, .int .u8 y6, .int .u8 y7]] w fun e w' => e = .returned (.bool true) ∧ Below w.heap.size w w' := by
  obtain ⟨a0, a1⟩ := wf_u64 wa
  clear wa
  have hr : 0 ≤ redu 1 a ∧ redu 1 a < 18446744069414584321 := ⟨(redu1_bound a).1, redu_lt 1 a⟩
  have hbytes := gbytes_lit a (redu 1 a) a0 a1 rfl
  have hof := gof_any a a0 a1
  have hrb := rbytes_str a (redu 1 a) a0 a1 rfl hr.1 hr.2
  generalize redu 1 a = x at *
  have ht1 := gtake_in8 y0 y1 y2 y3 y4 y5 y6 y7 h0 h1 h2 h3 h4 h5 h6 h7 hd
  have hr1 := fun p => rtake_in8 p y0 y1 y2 y3 y4 y5 y6 y7 h0 h1 h2 h3 h4 h5 h6 h7 hd
  have ht2 := gtake_in8 (x % 256) (x / 256 % 256) (x / 65536 % 256) (x / 16777216 % 256) (x / 4294967296 % 256) (x / 1099511627776 % 256) (x / 281474976710656 % 256) (x / 72057594037927936 % 256) (by omega) (by omega) (by omega) (by omega) (by omega) (by omega) (by omega) (by omega) (by rw [val8_redu x (by omega) (by omega)]; omega)
  rw [val8_redu x (by omega) (by omega)] at ht2
  generalize val8 y0 y1 y2 y3 y4 y5 y6 y7 = v at *
  clear hd
  replace hbytes := Lib.hid hbytes
  replace hof := Lib.hid hof
  replace ht1 := Lib.hid ht1
  replace hr1 := Lib.hid hr1
  replace ht2 := Lib.hid ht2
  replace hrb := Lib.hid hrb
  clear h0 h1 h2 h3 h4 h5 h6 h7
  go_enter Try.func7, Try.ntmps7
  go_wp2_with fail
  refine name_calls (fun w1 => Below w.heap.size w w1 ∧ w1.heap[w.heap.size]? = some (.cells #[.int .u8 y0, .int .u8 y1, .int .u8 y2, .int .u8 y3, .int .u8 y4, .int .u8 y5, .int .u8 y6, .int .u8 y7] 39 (0, 0))) ⟨(Below.refl _ _).alloc (Nat.le_refl _) _, alloc_at rfl⟩ ?_
  rintro w1 ⟨hb, k0⟩
  refine call_then (awake_any _) ?_
  intro w2 hb2
  replace hb := below_next hb hb.size hb2
  replace k0 := keeps hb2 k0
  clear hb2
  go_wp2_with fail
  refine call_then (hbytes.out _) ?_
  intro w3 hb2
  replace hb := below_next hb hb.size hb2
  replace k0 := keeps hb2 k0
  clear hb2
  obtain ⟨c0, c1, c2, c3, c4, c5, c6, c7⟩ := blk8 k0
  have l0 := lt_of_get k0
  go_wp2_with fail
  clear c0 c1 c2 c3 c4 c5 c6 c7
  refine name_calls (fun w4 => Below w.heap.size w w4 ∧ w4.heap[w.heap.size]? = some (.cells #[.int .u8 y0, .int .u8 y1, .int .u8 y2, .int .u8 y3, .int .u8 y4, .int .u8 y5, .int .u8 y6, .int .u8 y7] 39 (0, 0)) ∧ w4.heap[w3.heap.size]? = some (.cells #[.int .u8 (x % 256), .int .u8 (x / 256 % 256), .int .u8 (x / 65536 % 256), .int .u8 (x / 16777216 % 256), .int .u8 (x / 4294967296 % 256), .int .u8 (x / 1099511627776 % 256), .int .u8 (x / 281474976710656 % 256), .int .u8 (x / 72057594037927936 % 256)] 39 (0, 0))) ⟨hb.alloc hb.size _, alloc_keeps k0, alloc_at rfl⟩ ?_
  clear hb k0
  generalize w3.heap.size = p at *
  rintro w4 ⟨hb, k0, k1⟩
  refine call_then (ht1.out _) ?_
  intro w5 hb2
  replace hb := below_next hb hb.size hb2
  replace k0 := keeps hb2 k0
  replace k1 := keeps hb2 k1
  clear hb2
  go_wp2_with fail
  refine call_then (hr1.out _ _ _ k0) ?_
  intro w6 hb2
  replace hb := below_next hb hb.size hb2
  replace k0 := keeps hb2 k0
  replace k1 := keeps hb2 k1
  clear hb2
  obtain ⟨c0, c1, c2, c3, c4, c5, c6, c7⟩ := blk8 k1
  have l1 := lt_of_get k1
  go_wp2_with fail
  clear c0 c1 c2 c3 c4 c5 c6 c7
  refine name_calls (fun w7 => Below w.heap.size w w7 ∧ w7.heap[p]? = some (.cells #[.int .u8 (x % 256), .int .u8 (x / 256 % 256), .int .u8 (x / 65536 % 256), .int .u8 (x / 16777216 % 256), .int .u8 (x / 4294967296 % 256), .int .u8 (x / 1099511627776 % 256), .int .u8 (x / 281474976710656 % 256), .int .u8 (x / 72057594037927936 % 256)] 39 (0, 0)) ∧ w7.heap[w6.heap.size]? = some (.cells #[.int .u64 v, .int .u64 0] 25 (0, 0))) ⟨hb.alloc hb.size _, alloc_keeps k1, alloc_at rfl⟩ ?_
  clear hb k0 k1
  generalize w6.heap.size = q at *
  rintro w7 ⟨hb, k1, k2⟩
  refine call_then (ht2.out _) ?_
  intro w8 hb2
  replace hb := below_next hb hb.size hb2
  replace k1 := keeps hb2 k1
  replace k2 := keeps hb2 k2
  clear hb2
  go_wp2
  have hcv : ∀ w', Below w8.heap.size w8 w' → (convert 44 9 (.slice (some ⟨p, 0, none⟩) 8 8)).run Try.prog w' = .ok (.string (strOfNums [x % 256, x / 256 % 256, x / 65536 % 256, x / 16777216 % 256, x / 4294967296 % 256, x / 1099511627776 % 256, x / 281474976710656 % 256, x / 72057594037927936 % 256])) w' :=
    fun w' h => conv8 (keeps h k1)
  have hq : ∀ w', Below w8.heap.size w8 w' → w'.heap[q]? = some (.cells #[.int .u64 v, .int .u64 0] 25 (0, 0)) := fun w' h => keeps h k2
  generalize hs : strOfNums [x % 256, x / 256 % 256, x / 65536 % 256, x / 16777216 % 256, x / 4294967296 % 256, x / 1099511627776 % 256, x / 281474976710656 % 256, x / 72057594037927936 % 256] = s at *
  clear hs k1 k2
  replace hcv := Lib.hid hcv
  replace hq := Lib.hid hq
  refine seg_start 37 (by kernel_rfl) (by decide) ?_
  intro v0 hv0
  refine seg_batch 33 [0, 1, 2, 3] (by kernel_rfl) rfl (by kernel_rfl) (by kernel_rfl) (by kernel_rfl) ?_
  apply Exists.intro
  refine ⟨fun ι _ φ hφ => ?_, fun v1 hv1 => ?_⟩
  · have hcv' : ∀ i, (convert 44 9 (.slice (some ⟨p, 0, none⟩) 8 8)).run Try.prog (φ i) = .ok (.string s) (φ i) := fun i => hcv.out _ (below_chain hv0 (hφ.old i))
    repeat (refine pick_step rfl ?_; go_big_quiet_step ((go_at_call 10; exact flow_call hφ (e_any _ _))))
    exact pick_end
  replace hv0 := below_chain hv0 hv1
  clear hv1
  refine seg_one 4 _ (by decide) rfl (by kernel_rfl) ?_
  intro v2 K hv2 hK
  replace hv0 := below_chain hv0 hv2
  clear hv2
  replace hK := Lib.hid hK
  go_simp
  refine (hrb.out _).mono ?_
  rintro e v3 ⟨u, rfl, hv3, hcu⟩
  refine hK.out _ _ hv3 ?_
  clear hK K
  replace hv0 := below_chain hv0 hv3
  clear hv3
  refine seg_batch 0 [5, 6, 7, 8, 9, 10, 11, 12, 13, 14, 15, 16, 17, 18, 19, 20, 21, 22, 23, 24, 25, 26, 27, 28, 29, 30, 31, 32, 33, 34, 35, 36] (by kernel_rfl) rfl (by kernel_rfl) (by kernel_rfl) (by kernel_rfl) ?_
  apply Exists.intro
  refine ⟨fun ι _ φ hφ => ?_, fun v4 hv4 => ?_⟩
  · have hcu' : ∀ i, (convert 44 9 u).run Try.prog (φ i) = .ok (.string s) (φ i) := fun i => (hcu.up (hφ.old i)).conv Try.underlying44 Try.underlying5 Try.underlying9
    obtain ⟨c0, c1⟩ := Family.two (φ := φ) hφ (hq.out _ hv0)
    repeat (refine pick_step rfl ?_; go_big_quiet_step ((first | (go_at_call 10; exact flow_call hφ (e_any _ _)) | (go_at_call 11; exact flow_same hφ (hof.out _)))))
    exact pick_end
  replace hv0 := below_chain hv0 hv4
  clear hv4
  refine seg_done rfl (by kernel_rfl) ?_
  intro v5 hv5
  replace hv0 := below_chain hv0 hv5
  go_wp2
  go_ret
  exact ⟨rfl, below_next hb hb.size hv0⟩
set_option maxHeartbeats 4000000 in
theorem goldBytes_out (a y0 y1 y2 y3 y4 y5 y6 y7 : Int) (wa : (Lit.int .u64 a).wf = true) (h0 : 0 ≤ y0 ∧ y0 < 256) (h1 : 0 ≤ y1 ∧ y1 < 256) (h2 : 0 ≤ y2 ∧ y2 < 256) (h3 : 0 ≤ y3 ∧ y3 < 256) (h4 : 0 ≤ y4 ∧ y4 < 256) (h5 : 0 ≤ y5 ∧ y5 < 256) (h6 : 0 ≤ y6 ∧ y6 < 256) (h7 : 0 ≤ y7 ∧ y7 < 256) (hd : ¬ val8 y0 y1 y2 y3 y4 y5 y6 y7 < 18446744069414584321) (w : World) :
    Calls Try.prog 7 #[.int .u64 a, .agg #[.int .u8 y0, .int .u8 y1, .int .u8 y2, .int .u8 y3, .int .u8 y4, .int .u8 y5, .int .u8 y6, .int .u8 y7]] w fun e w' => e = .returned (.bool true) ∧ Below w.heap.size w w' := by
  obtain ⟨a0, a1⟩ := wf_u64 wa
  clear wa
  have hr : 0 ≤ redu 1 a ∧ redu 1 a < 18446744069414584321 := ⟨(redu1_bound a).1, redu_lt 1 a⟩
  have hbytes := gbytes_lit a (redu 1 a) a0 a1 rfl
  have hof := gof_any a a0 a1
  have hrb := rbytes_str a (redu 1 a) a0 a1 rfl hr.1 hr.2
  generalize redu 1 a = x at *
  have ht1 := gtake_out8 y0 y1 y2 y3 y4 y5 y6 y7 h0 h1 h2 h3 h4 h5 h6 h7 hd
  have hr1 := fun p => rtake_out8 p y0 y1 y2 y3 y4 y5 y6 y7 h0 h1 h2 h3 h4 h5 h6 h7 hd
  have ht2 := gtake_in8 (x % 256) (x / 256 % 256) (x / 65536 % 256) (x / 16777216 % 256) (x / 4294967296 % 256) (x / 1099511627776 % 256) (x / 281474976710656 % 256) (x / 72057594037927936 % 256) (by omega) (by omega) (by omega) (by omega) (by omega) (by omega) (by omega) (by omega) (by rw [val8_redu x (by omega) (by omega)]; omega)
  rw [val8_redu x (by omega) (by omega)] at ht2
  have v := (0 : Int)
  clear hd
  replace hbytes := Lib.hid hbytes
  replace hof := Lib.hid hof
  replace ht1 := Lib.hid ht1
  replace hr1 := Lib.hid hr1
  replace ht2 := Lib.hid ht2
  replace hrb := Lib.hid hrb
  clear h0 h1 h2 h3 h4 h5 h6 h7
  go_enter Try.func7, Try.ntmps7
  go_wp2_with fail
  refine name_calls (fun w1 => Below w.heap.size w w1 ∧ w1.heap[w.heap.size]? = some (.cells #[.int .u8 y0, .int .u8 y1, .int .u8 y2, .int .u8 y3, .int .u8 y4, .int .u8 y5, .int .u8 y6, .int .u8 y7] 39 (0, 0))) ⟨(Below.refl _ _).alloc (Nat.le_refl _) _, alloc_at rfl⟩ ?_
  rintro w1 ⟨hb, k0⟩
  refine call_then (awake_any _) ?_
  intro w2 hb2
  replace hb := below_next hb hb.size hb2
  replace k0 := keeps hb2 k0
  clear hb2
  go_wp2_with fail
  refine call_then (hbytes.out _) ?_
  intro w3 hb2
  replace hb := below_next hb hb.size hb2
  replace k0 := keeps hb2 k0
  clear hb2
  obtain ⟨c0, c1, c2, c3, c4, c5, c6, c7⟩ := blk8 k0
  have l0 := lt_of_get k0
  go_wp2_with fail
  clear c0 c1 c2 c3 c4 c5 c6 c7
  refine name_calls (fun w4 => Below w.heap.size w w4 ∧ w4.heap[w.heap.size]? = some (.cells #[.int .u8 y0, .int .u8 y1, .int .u8 y2, .int .u8 y3, .int .u8 y4, .int .u8 y5, .int .u8 y6, .int .u8 y7] 39 (0, 0)) ∧ w4.heap[w3.heap.size]? = some (.cells #[.int .u8 (x % 256), .int .u8 (x / 256 % 256), .int .u8 (x / 65536 % 256), .int .u8 (x / 16777216 % 256), .int .u8 (x / 4294967296 % 256), .int .u8 (x / 1099511627776 % 256), .int .u8 (x / 281474976710656 % 256), .int .u8 (x / 72057594037927936 % 256)] 39 (0, 0))) ⟨hb.alloc hb.size _, alloc_keeps k0, alloc_at rfl⟩ ?_
  clear hb k0
  generalize w3.heap.size = p at *
  rintro w4 ⟨hb, k0, k1⟩
  refine call_then (ht1.out _) ?_
  intro w5 hb2
  replace hb := below_next hb hb.size hb2
  replace k0 := keeps hb2 k0
  replace k1 := keeps hb2 k1
  clear hb2
  go_wp2_with fail
  refine call_then (hr1.out _ _ _ k0) ?_
  intro w6 hb2
  replace hb := below_next hb hb.size hb2
  replace k0 := keeps hb2 k0
  replace k1 := keeps hb2 k1
  clear hb2
  obtain ⟨c0, c1, c2, c3, c4, c5, c6, c7⟩ := blk8 k1
  have l1 := lt_of_get k1
  go_wp2_with fail
  clear c0 c1 c2 c3 c4 c5 c6 c7
  refine name_calls (fun w7 => Below w.heap.size w w7 ∧ w7.heap[p]? = some (.cells #[.int .u8 (x % 256), .int .u8 (x / 256 % 256), .int .u8 (x / 65536 % 256), .int .u8 (x / 16777216 % 256), .int .u8 (x / 4294967296 % 256), .int .u8 (x / 1099511627776 % 256), .int .u8 (x / 281474976710656 % 256), .int .u8 (x / 72057594037927936 % 256)] 39 (0, 0)) ∧ w7.heap[w6.heap.size]? = some (.cells #[.int .u64 0, .int .u64 0] 25 (0, 0))) ⟨hb.alloc hb.size _, alloc_keeps k1, alloc_at rfl⟩ ?_
  clear hb k0 k1
  generalize w6.heap.size = q at *
  rintro w7 ⟨hb, k1, k2⟩
  refine call_then (ht2.out _) ?_
  intro w8 hb2
  replace hb := below_next hb hb.size hb2
  replace k1 := keeps hb2 k1
  replace k2 := keeps hb2 k2
  clear hb2
  go_wp2
  have hcv : ∀ w', Below w8.heap.size w8 w' → (convert 44 9 (.slice (some ⟨p, 0, none⟩) 8 8)).run Try.prog w' = .ok (.string (strOfNums [x % 256, x / 256 % 256, x / 65536 % 256, x / 16777216 % 256, x / 4294967296 % 256, x / 1099511627776 % 256, x / 281474976710656 % 256, x / 72057594037927936 % 256])) w' :=
    fun w' h => conv8 (keeps h k1)
  have hq : ∀ w', Below w8.heap.size w8 w' → w'.heap[q]? = some (.cells #[.int .u64 0, .int .u64 0] 25 (0, 0)) := fun w' h => keeps h k2
  generalize hs : strOfNums [x % 256, x / 256 % 256, x / 65536 % 256, x / 16777216 % 256, x / 4294967296 % 256, x / 1099511627776 % 256, x / 281474976710656 % 256, x / 72057594037927936 % 256] = s at *
  clear hs k1 k2
  replace hcv := Lib.hid hcv
  replace hq := Lib.hid hq
  refine seg_start 37 (by kernel_rfl) (by decide) ?_
  intro v0 hv0
  refine seg_batch 33 [0, 1, 2, 3] (by kernel_rfl) rfl (by kernel_rfl) (by kernel_rfl) (by kernel_rfl) ?_
  apply Exists.intro
  refine ⟨fun ι _ φ hφ => ?_, fun v1 hv1 => ?_⟩
  · have hcv' : ∀ i, (convert 44 9 (.slice (some ⟨p, 0, none⟩) 8 8)).run Try.prog (φ i) = .ok (.string s) (φ i) := fun i => hcv.out _ (below_chain hv0 (hφ.old i))
    repeat (refine pick_step rfl ?_; go_big_quiet_step ((go_at_call 10; exact flow_call hφ (e_any _ _))))
    exact pick_end
  replace hv0 := below_chain hv0 hv1
  clear hv1
  refine seg_one 4 _ (by decide) rfl (by kernel_rfl) ?_
  intro v2 K hv2 hK
  replace hv0 := below_chain hv0 hv2
  clear hv2
  replace hK := Lib.hid hK
  go_simp
  refine (hrb.out _).mono ?_
  rintro e v3 ⟨u, rfl, hv3, hcu⟩
  refine hK.out _ _ hv3 ?_
  clear hK K
  replace hv0 := below_chain hv0 hv3
  clear hv3
  refine seg_batch 0 [5, 6, 7, 8, 9, 10, 11, 12, 13, 14, 15, 16, 17, 18, 19, 20, 21, 22, 23, 24, 25, 26, 27, 28, 29, 30, 31, 32, 33, 34, 35, 36] (by kernel_rfl) rfl (by kernel_rfl) (by kernel_rfl) (by kernel_rfl) ?_
  apply Exists.intro
  refine ⟨fun ι _ φ hφ => ?_, fun v4 hv4 => ?_⟩
  · have hcu' : ∀ i, (convert 44 9 u).run Try.prog (φ i) = .ok (.string s) (φ i) := fun i => (hcu.up (hφ.old i)).conv Try.underlying44 Try.underlying5 Try.underlying9
    obtain ⟨c0, c1⟩ := Family.two (φ := φ) hφ (hq.out _ hv0)
    repeat (refine pick_step rfl ?_; go_big_quiet_step ((first | (go_at_call 10; exact flow_call hφ (e_any _ _)) | (go_at_call 11; exact flow_same hφ (hof.out _)))))
    exact pick_end
  replace hv0 := below_chain hv0 hv4
  clear hv4
  refine seg_done rfl (by kernel_rfl) ?_
  intro v5 hv5
  replace hv0 := below_chain hv0 hv5
  go_wp2
  go_ret
  exact ⟨rfl, below_next hb hb.size hv0⟩

theorem goldBytes_walk (a y0 y1 y2 y3 y4 y5 y6 y7 : Int) (wa : (Lit.int .u64 a).wf = true) (h0 : 0 ≤ y0 ∧ y0 < 256) (h1 : 0 ≤ y1 ∧ y1 < 256) (h2 : 0 ≤ y2 ∧ y2 < 256) (h3 : 0 ≤ y3 ∧ y3 < 256) (h4 : 0 ≤ y4 ∧ y4 < 256) (h5 : 0 ≤ y5 ∧ y5 < 256) (h6 : 0 ≤ y6 ∧ y6 < 256) (h7 : 0 ≤ y7 ∧ y7 < 256) (w : World) :
    Calls Try.prog 7 #[.int .u64 a, .agg #[.int .u8 y0, .int .u8 y1, .int .u8 y2, .int .u8 y3, .int .u8 y4, .int .u8 y5, .int .u8 y6, .int .u8 y7]] w fun e w' => e = .returned (.bool true) ∧ Below w.heap.size w w' := by
  by_cases hd : val8 y0 y1 y2 y3 y4 y5 y6 y7 < 18446744069414584321
  · exact goldBytes_in a y0 y1 y2 y3 y4 y5 y6 y7 wa h0 h1 h2 h3 h4 h5 h6 h7 hd w
  · exact goldBytes_out a y0 y1 y2 y3 y4 y5 y6 y7 wa h0 h1 h2 h3 h4 h5 h6 h7 hd w
theorem goldBytes_list (a : Int) (zs : List Int) (hn : zs.length = 8) (wa : (Lit.int .u64 a).wf = true) (hz : ∀ z, z ∈ zs → (Lit.int .u8 z).wf = true) (w : World) :
    Calls Try.prog 7 #[.int .u64 a, .agg (zs.map (.int .u8)).toArray] w fun e w' => e = .returned (.bool true) ∧ Below w.heap.size w w' := by
  have hb : ∀ z, z ∈ zs → 0 ≤ z ∧ z < 256 := fun z h => by
    have := hz z h
    simp [Lit.wf, IntKind.min, IntKind.max, IntKind.signed, IntKind.bits] at this
    omega
  match zs, hn with
  | [y0, y1, y2, y3, y4, y5, y6, y7], _ =>
    exact goldBytes_walk a y0 y1 y2 y3 y4 y5 y6 y7 wa (hb _ (by simp)) (hb _ (by simp)) (hb _ (by simp)) (hb _ (by simp)) (hb _ (by simp)) (hb _ (by simp)) (hb _ (by simp)) (hb _ (by simp)) w

theorem own_goldBytes : ownKnob Try.prog.godebug = none := by kernel_rfl
set_option maxRecDepth 100000 in
theorem lifted_goldBytes (os : Os) (started : os.Started) (H : Type) (enc : TypeId × Value → H) :
    ReturnsInHanded {} Try.checked os 7 .any (Rows.goldBytesSpec.pre6 enc Try.prog Try.f7 Rows.goldBytesRow.domain false) (Rows.goldBytesSpec.post enc Try.prog Try.f7 false true false false) := by
  refine returnsInHanded_of_change (C := Try.checked) own_goldBytes started (by kernel_rfl) Try.func7
    (ChangeSpec.witness6 (enc := enc) (C := Try.checked) false ⟨#[], #[.int .u64 0, .agg #[.int .u8 0, .int .u8 0, .int .u8 0, .int .u8 0, .int .u8 0, .int .u8 0, .int .u8 0, .int .u8 0]], []⟩ 8 (by kernel_rfl) (by kernel_rfl) (by kernel_rfl) (by kernel_rfl)) ?_
  intro W base args ds gs before hval0 hW hcnd _
  have hval : ∀ (j : Nat) t v, Try.f7.params[j]? = some t → args[j]? = some v → Value.okWide Try.prog W .any base t v := hval0
  have hW' := hW
  obtain ⟨p, q, hA0, hV, rfl, hfz, hnd⟩ := hW
  have hA : DataW.TrodAll enc Try.prog W 0 (fun _ => true) true Try.f7.params.toList args.toList ds p := hA0
  rw [Try.params7] at hA hval
  obtain ⟨v0, vs0, d0, ds0, p0, q0, hargs, rfl, rfl, h0, r0⟩ := trodAll_cons hA
  obtain ⟨v1, vs1, d1, ds1, p1, q1, rfl, rfl, rfl, h1, r1⟩ := trodAll_cons r0
  obtain ⟨rfl, rfl, rfl⟩ := trodAll_nil r1
  obtain rfl : args = #[v0, v1] := by cases args; simp_all
  obtain ⟨rfl, rfl⟩ := trodVars_none hV
  obtain ⟨a0, rfl, rfl, rfl, w0⟩ := open_int Try.underlying22 (hval 0 22 v0 rfl rfl) h0
  obtain ⟨zs, hn, rfl, rfl, rfl, hz⟩ := open_int_array (k := .u8) Try.underlying39 Try.underlying5 (by kernel_rfl) (by kernel_rfl) (hval 1 39 v1 rfl rfl) h1
  clear hA0 hval0
  simp only [List.append_nil] at hW'
  refine (goldBytes_list a0 zs hn w0 hz W).mono fun e W' ⟨he, hb⟩ => ?_
  subst he
  exact ⟨_, rfl, post_of_below (pa := []) (pv := []) hW' (fun _ _ _ => (trodAll_cons_mk (shut_bool Try.underlying4 _) trodAll_mk0)) (fun sp _ => (trodAll_cons_mk (shut_int Try.underlying22 w0) (trodAll_cons_mk (shut_int_array Try.underlying39 Try.underlying5 (by kernel_rfl) (by kernel_rfl) hn hz) trodAll_mk0))) (fun _ _ => rfl) rfl
    hb (ok_one (by kernel_rfl) rfl (okWide_bool_mk Try.underlying4 _))⟩
theorem over_goldBytes : Rows.goldBytesRow.holds Try.pinned (OpenSpec.ofChange Rows.goldBytesSpec) :=
  OpenClaim.holds_of_wide 7 Try.f7 rfl rfl rfl rfl rfl rfl rfl ⟨rfl, rfl, rfl, rfl, rfl⟩ rfl rfl rfl rfl rfl (by kernel_rfl) Try.func7 (by kernel_rfl)
    (of_decide_eq_true (by kernel_rfl)) (by unfold Func.isWrapper; first | (rw [if_pos (by decide +kernel)]; kernel_rfl) | (rw [if_neg (by decide +kernel)]; exact ⟨rfl, rfl⟩))
    (fun os started H enc _ => lifted_goldBytes os started H enc)
theorem goldBytes_proved : Rows.GoldBytesSaid := over_goldBytes
#print axioms goldBytes_proved
end Go.Proofs.Ytjoghehefefmdaa
