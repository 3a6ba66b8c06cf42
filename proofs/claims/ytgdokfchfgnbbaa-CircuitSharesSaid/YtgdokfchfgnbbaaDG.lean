import Derived.Test.YtgdokfchfgnbbaaDD
import Derived.Test.YtgdokfchfgnbbaaBD
import Derived.Outline
import Derived.Deep.DeepCutAuto
import Derived.Deep.CutBlock
/-
  Sums as numbers.
-/
namespace Go.Proofs.Ytgdokfchfgnbbaa
open Go.RowKit Flow F
set_option linter.unusedVariables false
set_option linter.unusedSimpArgs false

theorem fin_any (f a : Int) (hf : f = 1 ∨ f = 2) (a0 : 0 ≤ a) (w : World) : Calls Try.prog 93 #[.int .u8 f, .agg #[.int .u64 (lo a), .int .u64 (hi a)]] w fun e w' => e = .returned (.bool (decide (a < M f))) ∧ Below w.heap.size w w' := by
  rcases hf with rfl | rfl
  · have h := fin_one a w
    rw [show decide (0 ≤ a) = true by simpa using a0, Bool.and_true] at h
    exact h
  · exact fin_two a w
/-- A row of words. -/
def WRow (w : World) (g : Nat) (zs : List Int) : Prop := w.heap[g]? = some (.cells (zs.map (Value.int .u64)).toArray 43 (0, 0))
theorem WRow.up {w w' : World} {g : Nat} {zs : List Int} (h : WRow w g zs) (hb : Below w.heap.size w w') : WRow w' g zs := keeps hb h
theorem WRow.alloc {w : World} {g : Nat} {zs : List Int} (h : WRow w g zs) (o : Obj) : WRow (w.alloc o) g zs := alloc_keeps h
theorem WRow.at_ {w : World} {g k : Nat} {zs : List Int} (h : WRow w g zs) (hk : k < zs.length) : w.cell? ⟨g, k, none⟩ = some (.int .u64 (zs.getD k 0)) := by
  have h' : w.heap[g]? = some (.cells (zs.map (Value.int .u64)).toArray 43 (0, 0)) := h
  simp [World.cell?, h', hk]
theorem WRow.free {w : World} {g : Nat} {zs : List Int} (h : WRow w g zs) (k : Nat) : w.frozen? ⟨g, k, none⟩ = false := by
  have h' : w.heap[g]? = some (.cells (zs.map (Value.int .u64)).toArray 43 (0, 0)) := h
  simp [World.frozen?, h']
theorem WRow.set {w : World} {g k : Nat} {zs : List Int} (h : WRow w g zs) (z : Int) : WRow (w.setCell ⟨g, k, none⟩ (.int .u64 z)) g (zs.set k z) := by
  unfold WRow at *
  rw [store1 h]
  simp [List.map_set]
theorem WRow.words {w : World} {g : Nat} {zs : List Int} (h : WRow w g zs) : WordsAt w (some ⟨g, 0, none⟩) zs := words_of h
theorem info_u64 : (Try.prog.info? 43).map (fun i => (i.zero, i.size, i.bytes)) = some (some (.int .u64 0), 1, 8) := by kernel_rfl
theorem make_words (k : Nat) (hk : k ≤ 4096) (w : World) : (Instr.makeSlice 46 (.int .i64 (k : Int)) (.int .i64 (k : Int))).run Try.prog w = .ok (.slice (some ⟨w.heap.size, 0, none⟩) k k) (w.alloc (.cells (Array.replicate k (Value.int .u64 0)) 43)) := by
  obtain ⟨i0, h0, h1, h2, h3⟩ := info_parts info_u64
  have hr := run_make (P := Try.prog) w 46 43 i0 _ Try.underlying46 h0 h1 .i64 .i64 k k (by omega) (by omega) (by rw [h3]; omega) (by omega)
  simp only [Int.toNat_natCast] at hr
  rw [h2] at hr
  have e : madeCells (Value.int .u64 0).cells (k * 1) = Array.replicate k (Value.int .u64 0) := by
    have := toList_madeCells_one (.int .u64 0) (k * 1)
    apply Array.toList_inj.1
    rw [show (Value.int .u64 0).cells = #[.int .u64 0] from rfl, this, Nat.mul_one]
    simp
  rw [e] at hr
  exact hr
theorem wrow_new (w : World) (k : Nat) : WRow (w.alloc (.cells (Array.replicate k (Value.int .u64 0)) 43)) w.heap.size (List.replicate k 0) := by
  unfold WRow
  rw [alloc_at rfl]
  simp
/-- Its error. -/
def decE (x : Ci) (N : Nat) (xs : List Int) (many : Int) : Int := if x.code = 0 then (if N = x.outN then (if many < 0 ∨ 256 < many then 6 else (if allLe (many * (x.mostN : Int)) xs = true then 0 else 6)) else 9) else x.code
def DecOut (xs : List Int) (w : World) (e : Ending) (w' : World) : Prop := ∃ g, e = .returned (.tuple #[.slice (some ⟨g, 0, none⟩) xs.length xs.length, .int .i64 0]) ∧ Below w.heap.size w w' ∧ w.heap.size ≤ g ∧ WRow w' g xs
def DecBad (c : Int) (w : World) (e : Ending) (w' : World) : Prop := e = .returned (.tuple #[.slice none 0 0, .int .i64 c]) ∧ Below w.heap.size w w'
theorem dec_code (x : Ci) (A : Option Addr) (N cp : Nat) (many : Int) (h : x.code ≠ 0) (w : World) : Calls Try.prog 53 #[cvl x, .slice A N cp, .int .i64 many] w (DecBad x.code w) := by
  unfold DecBad
  obtain ⟨k, f, b, l, W, c⟩ := x
  have hC := fun w => ccheck_any k f b l W c w
  unfold cvl
  generalize (Ci.mk k f b l W c).code = z at *
  have h1 : (z != 0) = true := by simpa using h
  replace hC := Lib.hid hC
  clear h
  go_enter Try.func53, Try.ntmps53
  go_upto_region 1 with (fail)
  refine name_wp (fun w1 => Below w.heap.size w w1 ∧ w1.heap[w.heap.size]? = some (.cells #[.int .u8 k, .int .u8 f, .int .i64 b, .int .i64 l, .int .i64 W, .int .i64 c] 25 (0, 0))) ⟨(Below.refl _ _).alloc (Nat.le_refl _) _, alloc_at rfl⟩ ?_
  rintro w1 ⟨hb, k0⟩
  obtain ⟨c0, c1, c2, c3, c4, c5⟩ := blk6 k0
  go_wp2_with fail
  refine call_then (hC.out _) ?_
  intro w2 hb2
  replace hb := below_next hb hb.size hb2
  replace k0 := keeps hb2 k0
  clear hb2 c0 c1 c2 c3 c4 c5
  obtain ⟨c0, c1, c2, c3, c4, c5⟩ := blk6 k0
  go_wp2
  go_ret2
  exact ⟨rfl, hb⟩
theorem dec_size (x : Ci) (A : Option Addr) (N cp : Nat) (many : Int) (h : x.Good) (hN : N ≠ x.outN) (w : World) : Calls Try.prog 53 #[cvl x, .slice A N cp, .int .i64 many] w (DecBad 9 w) := by
  unfold DecBad
  have hO := out_any x h
  have hz := h.code
  obtain ⟨k, f, b, l, W, c⟩ := x
  have hC := fun w => ccheck_any k f b l W c w
  unfold cvl NumBy at *
  generalize (Ci.mk k f b l W c).outN = M at *
  rw [hz] at hC
  have n1 : ((N : Int) != (M : Int)) = true := by simp; omega
  have n2 : (N != M) = true := by simpa using hN
  replace hC := Lib.hid hC
  replace hO := Lib.hid hO
  clear h hN hz
  go_enter Try.func53, Try.ntmps53
  go_upto_region 1 with (fail)
  refine name_wp (fun w1 => Below w.heap.size w w1 ∧ w1.heap[w.heap.size]? = some (.cells #[.int .u8 k, .int .u8 f, .int .i64 b, .int .i64 l, .int .i64 W, .int .i64 c] 25 (0, 0))) ⟨(Below.refl _ _).alloc (Nat.le_refl _) _, alloc_at rfl⟩ ?_
  rintro w1 ⟨hb, k0⟩
  obtain ⟨c0, c1, c2, c3, c4, c5⟩ := blk6 k0
  go_wp2_with fail
  refine call_then (hC.out _) ?_
  intro w2 hb2
  replace hb := below_next hb hb.size hb2
  replace k0 := keeps hb2 k0
  clear hb2 c0 c1 c2 c3 c4 c5
  obtain ⟨c0, c1, c2, c3, c4, c5⟩ := blk6 k0
  go_wp2_with fail
  refine call_then (hO.out _) ?_
  intro w2 hb2
  replace hb := below_next hb hb.size hb2
  replace k0 := keeps hb2 k0
  clear hb2 c0 c1 c2 c3 c4 c5
  obtain ⟨c0, c1, c2, c3, c4, c5⟩ := blk6 k0
  go_wp2
  go_ret2
  exact ⟨rfl, hb⟩
theorem dec_range (x : Ci) (A : Option Addr) (N cp : Nat) (many : Int) (h : x.Good) (hN : N = x.outN) (hm : many < 0 ∨ 256 < many) (w : World) : Calls Try.prog 53 #[cvl x, .slice A N cp, .int .i64 many] w (DecBad 6 w) := by
  unfold DecBad
  have hO := out_any x h
  have hz := h.code
  obtain ⟨k, f, b, l, W, c⟩ := x
  have hC := fun w => ccheck_any k f b l W c w
  unfold cvl NumBy at *
  rw [← hN] at hO
  rw [hz] at hC
  replace hC := Lib.hid hC
  replace hO := Lib.hid hO
  clear h hN hz
  rcases hm with h | h
  · have b1 : decide (many < 0) = true := by simpa using h
    clear h
    go_enter Try.func53, Try.ntmps53
    go_upto_region 1 with (fail)
    refine name_wp (fun w1 => Below w.heap.size w w1 ∧ w1.heap[w.heap.size]? = some (.cells #[.int .u8 k, .int .u8 f, .int .i64 b, .int .i64 l, .int .i64 W, .int .i64 c] 25 (0, 0))) ⟨(Below.refl _ _).alloc (Nat.le_refl _) _, alloc_at rfl⟩ ?_
    rintro w1 ⟨hb, k0⟩
    obtain ⟨c0, c1, c2, c3, c4, c5⟩ := blk6 k0
    go_wp2_with fail
    refine call_then (hC.out _) ?_
    intro w2 hb2
    replace hb := below_next hb hb.size hb2
    replace k0 := keeps hb2 k0
    clear hb2 c0 c1 c2 c3 c4 c5
    obtain ⟨c0, c1, c2, c3, c4, c5⟩ := blk6 k0
    go_wp2_with fail
    refine call_then (hO.out _) ?_
    intro w2 hb2
    replace hb := below_next hb hb.size hb2
    replace k0 := keeps hb2 k0
    clear hb2 c0 c1 c2 c3 c4 c5
    obtain ⟨c0, c1, c2, c3, c4, c5⟩ := blk6 k0
    go_wp2
    go_ret2
    exact ⟨rfl, hb⟩
  · have b1 : decide (many < 0) = false := by simp; omega
    have b2 : decide (many > 256) = true := by simpa using h
    clear h
    go_enter Try.func53, Try.ntmps53
    go_upto_region 1 with (fail)
    refine name_wp (fun w1 => Below w.heap.size w w1 ∧ w1.heap[w.heap.size]? = some (.cells #[.int .u8 k, .int .u8 f, .int .i64 b, .int .i64 l, .int .i64 W, .int .i64 c] 25 (0, 0))) ⟨(Below.refl _ _).alloc (Nat.le_refl _) _, alloc_at rfl⟩ ?_
    rintro w1 ⟨hb, k0⟩
    obtain ⟨c0, c1, c2, c3, c4, c5⟩ := blk6 k0
    go_wp2_with fail
    refine call_then (hC.out _) ?_
    intro w2 hb2
    replace hb := below_next hb hb.size hb2
    replace k0 := keeps hb2 k0
    clear hb2 c0 c1 c2 c3 c4 c5
    obtain ⟨c0, c1, c2, c3, c4, c5⟩ := blk6 k0
    go_wp2_with fail
    refine call_then (hO.out _) ?_
    intro w2 hb2
    replace hb := below_next hb hb.size hb2
    replace k0 := keeps hb2 k0
    clear hb2 c0 c1 c2 c3 c4 c5
    obtain ⟨c0, c1, c2, c3, c4, c5⟩ := blk6 k0
    go_wp2
    go_ret2
    exact ⟨rfl, hb⟩
set_option maxRecDepth 20000 in
set_option maxHeartbeats 4000000 in
theorem dec_sums (x : Ci) (xs : List Int) (A : Option Addr) (N cp : Nat) (many : Nat) (h : x.Good) (hN : N = x.outN) (hl : xs.length = N) (hm : many ≤ 256) (hx : ElemsOK xs) (w : World) (hA : ElemsAt w A xs) :
    Calls Try.prog 53 #[cvl x, .slice A N cp, .int .i64 (many : Int)] w (fun e w' => (allLe ((many : Int) * (x.mostN : Int)) xs = true ∧ DecOut xs w e w') ∨ (allLe ((many : Int) * (x.mostN : Int)) xs = false ∧ DecBad 6 w e w')) := by
  have hO := out_any x h
  have hMo := fun w => most_any x h w
  have hz := h.code
  have hf := h.f
  have hN64 : N ≤ 64 := by
    rw [hN]; unfold Ci.outN
    have := h.fits.l
    have := h.fits.k1
    split <;> omega
  have hmost : x.mostN ≤ 4294967295 := by
    unfold Ci.mostN
    split
    · have := pow_le32 (b := x.b.toNat) (by have := h.fits.b (by assumption); omega); omega
    · omega
  obtain ⟨k, f, b, l, W, c⟩ := x
  have hC := fun w => ccheck_any k f b l W c w
  simp only at hf
  unfold cvl NumBy at *
  rw [← hN] at hO
  rw [hz] at hC
  generalize (Ci.mk k f b l W c).mostN = X at *
  have hmX : many * X ≤ 256 * 4294967295 := Nat.mul_le_mul hm hmost
  have hMu : ((many : Int) * (X : Int)) = ((many * X : Nat) : Int) := by rw [Int.natCast_mul]
  rw [hMu]
  generalize many * X = T at *
  have hMw : IntKind.u64.wrap (T : Int) = (T : Int) := by rw [IntKind.wrap_u64]; omega
  have hcv : IntKind.u64.wrap (many : Int) = (many : Int) := by rw [IntKind.wrap_u64]; omega
  have hmk := make_words N (by omega)
  have hM := M_big f
  have m0 : ¬ (many : Int) < 0 := by omega
  have m1 : ¬ (256 : Int) < (many : Int) := by omega
  have m2 : (many : Int) ≤ 256 := by omega
  have m3 : (0 : Int) ≤ (many : Int) := by omega
  replace hf := Lib.hid hf
  replace hC := Lib.hid hC
  replace hO := Lib.hid hO
  replace hMo := Lib.hid hMo
  replace hA := Lib.hid hA
  replace hl := Lib.hid hl
  replace hx := Lib.hid hx
  replace hM := Lib.hid hM
  clear h hN hz
  go_enter Try.func53, Try.ntmps53
  go_upto_region 1 with (fail)
  refine name_wp (fun w1 => Below w.heap.size w w1 ∧ w1.heap[w.heap.size]? = some (.cells #[.int .u8 k, .int .u8 f, .int .i64 b, .int .i64 l, .int .i64 W, .int .i64 c] 25 (0, 0))) ⟨(Below.refl _ _).alloc (Nat.le_refl _) _, alloc_at rfl⟩ ?_
  rintro w1 ⟨hb, k0⟩
  obtain ⟨c0, c1, c2, c3, c4, c5⟩ := blk6 k0
  go_wp2_with fail
  refine call_then (hC.out _) ?_
  intro w2 hb2
  replace hb := below_next hb hb.size hb2
  replace k0 := keeps hb2 k0
  clear hb2 c0 c1 c2 c3 c4 c5
  obtain ⟨c0, c1, c2, c3, c4, c5⟩ := blk6 k0
  go_wp2_with fail
  refine call_then (hO.out _) ?_
  intro w2 hb2
  replace hb := below_next hb hb.size hb2
  replace k0 := keeps hb2 k0
  clear hb2 c0 c1 c2 c3 c4 c5
  obtain ⟨c0, c1, c2, c3, c4, c5⟩ := blk6 k0
  go_wp2_with fail
  refine call_then (hMo.out _) ?_
  intro w2 hb2
  replace hb := below_next hb hb.size hb2
  replace k0 := keeps hb2 k0
  clear hb2 c0 c1 c2 c3 c4 c5
  obtain ⟨c0, c1, c2, c3, c4, c5⟩ := blk6 k0
  clear hC hO hMo
  go_upto_region 10 with (fail)
  have hBw := hb.size
  have hpB := lt_of_get k0
  refine name_wp (fun w3 => Below w.heap.size w w3 ∧ w3.heap[w.heap.size]? = some (.cells #[.int .u8 k, .int .u8 f, .int .i64 b, .int .i64 l, .int .i64 W, .int .i64 c] 25 (0, 0)) ∧ WRow w3 w2.heap.size (xs.take 0 ++ List.replicate (N - 0) 0)) ⟨hb.alloc hb.size _, alloc_keeps k0, by rw [List.take_zero, List.nil_append]; exact wrow_new _ _⟩ ?_
  clear hb k0 hmk c0 c1 c2 c3 c4 c5
  generalize w2.heap.size = g at *
  rintro w3 ⟨hb, k0, hr⟩
  clear w2
  replace hBw := Lib.hid hBw
  replace hpB := Lib.hid hpB
  go_wp2
  go_loopw [39] (fun i wr => ∃ j : Nat, j ≤ N ∧ i = .int .i64 (j : Int) ∧ Below w.heap.size w wr ∧ wr.heap[w.heap.size]? = some (.cells #[.int .u8 k, .int .u8 f, .int .i64 b, .int .i64 l, .int .i64 W, .int .i64 c] 25 (0, 0)) ∧ WRow wr g (xs.take j ++ List.replicate (N - j) 0) ∧ Hid (allLe (T : Int) (xs.take j) = true)) (fun i _ => N - (intOf i).toNat)
  case atStart => exact ⟨0, Nat.zero_le _, rfl, hb, k0, hr, Lib.hid rfl⟩
  case round =>
    clear hb k0 hr
    obtain ⟨j, hj, rfl, hb, k0, hr, hall⟩ := hrel
    obtain ⟨c0, c1, c2, c3, c4, c5⟩ := blk6 k0
    by_cases hlt : j < N
    · have j1 : (j : Int) < (N : Int) := by omega
      have j0 : (0 : Int) ≤ (j : Int) := by omega
      obtain ⟨p, o, rfl, hc0, hc1⟩ := hA.out j (by rw [hl.out]; exact hlt)
      have hd0 := (hb.cell (World.block_lt_of_cell? _ _ hc0)).trans hc0
      have hd1 := (hb.cell (World.block_lt_of_cell? _ _ hc1)).trans hc1
      have hz := hx.out.at_ (k := j) (by rw [hl.out]; exact hlt)
      have hsn := take_snocD (l := xs) (k := j) (by rw [hl.out]; exact hlt)
      have hbad := allLe_of_take (m := (T : Int)) (l := xs) (k := j) (by rw [hl.out]; exact hlt)
      have hset := set_take (xs := xs) (n := N) (k := j) (z := xs.getD j 0) hlt hl.out rfl
      have hlen : j < (xs.take j ++ List.replicate (N - j) 0).length := by rw [List.length_append, List.length_take, List.length_replicate, hl.out]; omega
      generalize xs.getD j 0 = z at *
      have hin := fun w => fin_any f z hf.out hz.1 w
      have hv := val_lohi z
      have hlo := lo_nonneg z
      have hhi := hi_nonneg hz.1
      have hlz := lt_of_get k0
      clear hc0 hc1
      replace hsn := Lib.hid hsn
      replace hbad := Lib.hid hbad
      replace hset := Lib.hid hset
      by_cases hle : z ≤ (T : Int)
      · have hzM' : z < M f := by have := hM.out; omega
        have hzM : decide (z < M f) = true := by simpa using hzM'
        have h0 : hi z = 0 := by unfold hi; omega
        have h1 : lo z = z := by unfold lo; omega
        rw [hzM] at hin
        have n0 : (hi z != 0) = false := by simp [h0]
        have hall2 : Hid (allLe (T : Int) (xs.take (j + 1)) = true) := Lib.hid (by rw [hsn.out, allLe_snoc, hall.out]; simpa using hle)
        have b1 : decide (lo z > (T : Int)) = false := by simp; omega
        have h1' := Lib.hid h1
        replace hin := Lib.hid hin
        clear hle hzM hzM' h0 h1 hv
        have hb3 := hb.alloc hb.size (.cells #[.int .u64 (lo z), .int .u64 (hi z)] 56)
        have k3 := alloc_keeps (o := .cells #[.int .u64 (lo z), .int .u64 (hi z)] 56) k0
        have hr3 := hr.alloc (.cells #[.int .u64 (lo z), .int .u64 (hi z)] 56)
        have kz : (wr.alloc (.cells #[.int .u64 (lo z), .int .u64 (hi z)] 56)).heap[wr.heap.size]? = some (.cells #[.int .u64 (lo z), .int .u64 (hi z)] 56 (0, 0)) := alloc_at rfl
        go_wp2_with fail
        refine call_then (hin.out _) ?_
        intro w4 hw
        replace hb3 := below_next hb3 hb3.size hw
        replace k3 := keeps hw k3
        replace hr3 := hr3.up hw
        replace kz := keeps hw kz
        clear hw hin hb k0 hr c0 c1 c2 c3 c4 c5 hd0 hd1
        generalize wr.heap.size = q at *
        obtain ⟨d0, d1, d2, d3⟩ := blk2 kz
        have r0 := hr3.at_ (k := j) hlen
        have r1 := hr3.free j
        have hr4 := hr3.set (k := j) (lo z)
        rw [h1'.out, hset.out, ← h1'.out] at hr4
        have hb4 := hb3.setCell (p := ⟨g, j, none⟩) hBw.out (.int .u64 (lo z))
        have k4 := store_far (a := ⟨g, j, none⟩) (v := .int .u64 (lo z)) k3 (by have := hpB.out; show w.heap.size ≠ g; omega)
        replace hlen := Lib.hid hlen
        replace hr4 := Lib.hid hr4
        replace hb4 := Lib.hid hb4
        replace k4 := Lib.hid k4
        clear hb3 k3 hr3 kz
        go_wp2
        exact ⟨⟨j + 1, by omega, by go_num, hb4.out, k4.out, hr4.out, hall2⟩, by simp [intOf]; omega⟩
      · have hbd := Lib.hid (hbad.out hle)
        replace hin := Lib.hid hin
        have hfin : Hid (∀ u, u = wr.alloc (.cells #[.int .u64 (lo z), .int .u64 (hi z)] 56) → True) := Lib.hid (fun _ _ => trivial)
        have hb3 := hb.alloc hb.size (.cells #[.int .u64 (lo z), .int .u64 (hi z)] 56)
        have kz : (wr.alloc (.cells #[.int .u64 (lo z), .int .u64 (hi z)] 56)).heap[wr.heap.size]? = some (.cells #[.int .u64 (lo z), .int .u64 (hi z)] 56 (0, 0)) := alloc_at rfl
        by_cases hzM : z < M f
        · have hz2 : decide (z < M f) = true := by simpa using hzM
          replace hin := hin.out
          rw [hz2] at hin
          replace hin := Lib.hid hin
          by_cases h0 : hi z = 0
          · have h1 : lo z = z := by unfold val at hv; omega
            have b1 : decide (lo z > (T : Int)) = true := by simp; omega
            have n0 : (hi z != 0) = false := by simp [h0]
            clear hzM hz2 hv hle
            replace h0 := Lib.hid h0
            replace h1 := Lib.hid h1
            go_wp2_with fail
            refine call_then (hin.out _) ?_
            intro w4 hw
            replace hb3 := below_next hb3 hb3.size hw
            replace kz := keeps hw kz
            clear hw hin hb k0 hr c0 c1 c2 c3 c4 c5 hd0 hd1
            generalize wr.heap.size = q at *
            obtain ⟨d0, d1, d2, d3⟩ := blk2 kz
            go_wp2
            go_ret2
            exact .inr ⟨hbd.out, rfl, hb3⟩
          · have n0 : (hi z != 0) = true := by simpa using h0
            clear hzM hz2 hv hle h0
            go_wp2_with fail
            refine call_then (hin.out _) ?_
            intro w4 hw
            replace hb3 := below_next hb3 hb3.size hw
            replace kz := keeps hw kz
            clear hw hin hb k0 hr c0 c1 c2 c3 c4 c5 hd0 hd1
            generalize wr.heap.size = q at *
            obtain ⟨d0, d1, d2, d3⟩ := blk2 kz
            go_wp2
            go_ret2
            exact .inr ⟨hbd.out, rfl, hb3⟩
        · have hz2 : decide (z < M f) = false := by simpa using hzM
          replace hin := hin.out
          rw [hz2] at hin
          replace hin := Lib.hid hin
          clear hzM hz2 hv hle
          go_wp2_with fail
          refine call_then (hin.out _) ?_
          intro w4 hw
          replace hb3 := below_next hb3 hb3.size hw
          replace kz := keeps hw kz
          clear hw hin hb k0 hr c0 c1 c2 c3 c4 c5 hd0 hd1
          generalize wr.heap.size = q at *
          obtain ⟨d0, d1, d2, d3⟩ := blk2 kz
          go_wp2
          go_ret2
          exact .inr ⟨hbd.out, rfl, hb3⟩
    · obtain rfl : N = j := by omega
      rw [List.take_of_length_le (by rw [hl.out]; exact Nat.le_refl _)] at hall hr
      rw [Nat.sub_self, List.replicate_zero, List.append_nil] at hr
      have j1 : ¬ (N : Int) < (N : Int) := by omega
      go_wp2
      go_ret2
      refine .inl ⟨hall.out, g, by rw [hl.out]; rfl, hb, hBw.out, hr⟩
end Go.Proofs.Ytgdokfchfgnbbaa

/-
  CircuitDecodes: its walk.
-/
namespace Go.Proofs.Ytgdokfchfgnbbaa
open Go.RowKit Flow F
set_option linter.unusedVariables false
set_option linter.unusedSimpArgs false

/-- Decode of any circuit. -/
def DecAny (C : Int) (xs : List Int) (w : World) (e : Ending) (w' : World) : Prop := (C = 0 ∧ DecOut xs w e w') ∨ (C ≠ 0 ∧ DecBad C w e w')
theorem dec_any (x : Ci) (xs : List Int) (A : Option Addr) (N cp : Nat) (many : Int) (hl : xs.length = N) (hx : ElemsOK xs) (w : World) (hA : ElemsAt w A xs) :
    Calls Try.prog 53 #[cvl x, .slice A N cp, .int .i64 many] w (DecAny (decE x N xs many) xs w) := by
  unfold decE
  by_cases h0 : x.code = 0
  · rw [if_pos h0]
    have h := Ci.good h0
    by_cases hN : N = x.outN
    · rw [if_pos hN]
      by_cases hm : many < 0 ∨ 256 < many
      · rw [if_pos hm]
        exact (dec_range x A N cp many h hN hm w).mono fun e w' hh => .inr ⟨by omega, hh⟩
      · rw [if_neg hm]
        obtain ⟨m, rfl⟩ := Int.eq_ofNat_of_zero_le (show 0 ≤ many by omega)
        refine (dec_sums x xs A N cp m h hN hl (by omega) hx w hA).mono fun e w' hh => ?_
        rcases hh with ⟨ha, hh⟩ | ⟨ha, hh⟩
        · rw [if_pos ha]; exact .inl ⟨rfl, hh⟩
        · rw [if_neg (by rw [ha]; decide)]; exact .inr ⟨by omega, hh⟩
    · rw [if_neg hN]
      exact (dec_size x A N cp many h hN w).mono fun e w' hh => .inr ⟨by omega, hh⟩
  · rw [if_neg h0]
    exact (dec_code x A N cp many h0 w).mono fun e w' hh => .inr ⟨h0, hh⟩
/-- The cells of a circuit. -/
def ccells (x : Ci) : List Value := [.int .u8 x.k, .int .u8 x.f, .int .i64 x.b, .int .i64 x.l, .int .i64 x.w, .int .i64 x.c]
theorem ccells_one (x : Ci) : ∀ u ∈ ccells x, u.oneCell' = true := one6 _ _ _ _ _ _
def DecU (E : Int) (xs : List Int) (w : World) (e : Ending) (w' : World) : Prop := ∃ (Ag : Option Addr) (l : Nat), e = .returned (.tuple #[.slice Ag l l, .int .i64 E]) ∧ Below w.heap.size w w' ∧ (E ≠ 0 → l = 0) ∧ (E = 0 → l = xs.length ∧ WordsAt w' Ag xs)
theorem DecAny.uni {C : Int} {xs : List Int} {w : World} {e : Ending} {w' : World} (h : DecAny C xs w e w') : DecU C xs w e w' := by
  rcases h with ⟨rfl, g, he, hb, _, hr⟩ | ⟨hC, he, hb⟩
  · exact ⟨some ⟨g, 0, none⟩, xs.length, he, hb, fun h => absurd rfl h, fun _ => ⟨rfl, hr.words⟩⟩
  · exact ⟨none, 0, he, hb, fun _ => rfl, fun h => absurd h hC⟩
theorem most_le {x : Ci} (h : x.Good) : x.mostN ≤ 4294967295 := by
  unfold Ci.mostN
  split
  · have := pow_le32 (b := x.b.toNat) (by have := h.fits.b (by assumption); omega); omega
  · omega
theorem decE_lo {x : Ci} {N : Nat} {xs : List Int} {many : Int} (h : decE x N xs many = 0) (hx : ElemsOK xs) : ∀ k, k < xs.length → lo (xs.getD k 0) = xs.getD k 0 := by
  unfold decE at h
  by_cases h0 : x.code = 0
  · rw [if_pos h0] at h
    by_cases hN : N = x.outN
    · rw [if_pos hN] at h
      by_cases hm : many < 0 ∨ 256 < many
      · rw [if_pos hm] at h; omega
      · rw [if_neg hm] at h
        by_cases ha : allLe (many * (x.mostN : Int)) xs = true
        · intro k hk
          have h1 := hx.at_ hk
          have h2 : xs.getD k 0 ≤ many * (x.mostN : Int) := by
            unfold allLe at ha
            rw [List.all_eq_true] at ha
            rw [List.getD_eq_getElem?_getD, List.getElem?_eq_getElem hk]
            simpa using ha _ (List.getElem_mem hk)
          have h3 : many * (x.mostN : Int) ≤ 256 * 4294967295 := Int.mul_le_mul (by omega) (by have := most_le (Ci.good h0); omega) (by omega) (by omega)
          unfold lo
          omega
        · rw [if_neg ha] at h; omega
    · rw [if_neg hN] at h; omega
  · rw [if_neg h0] at h; exact absurd h h0
/-- Two circuits in a row. -/
def Pair (w : World) (g : Nat) (c X : Ci) : Prop := w.heap[g]? = some (.cells (ccells c ++ ccells X).toArray 25 (0, 0))
theorem Pair.at_ {w : World} {g : Nat} {c X : Ci} (h : Pair w g c X) (n : Nat) (hn : n < 2) : w.rangeAt g (n * 6) (ccells (if n = 0 then c else X)) := fun j v hj => by
  have h' : w.heap[g]? = some (.cells (ccells c ++ ccells X).toArray 25 (0, 0)) := h
  have hj6 : j < 6 := by have := (List.getElem?_eq_some_iff.1 hj).1; simpa [ccells] using this
  simp only [World.cell?, h']
  have hn2 : n = 0 ∨ n = 1 := by omega
  rcases hn2 with rfl | rfl
  · rw [if_pos rfl] at hj
    rw [← hj, List.getElem?_toArray, List.getElem?_append_left (by simp [ccells]; omega)]
    simp
  · rw [if_neg (by omega)] at hj
    rw [← hj, List.getElem?_toArray, List.getElem?_append_right (by simp [ccells])]
    simp [ccells]
def zero6 : List Value := [.int .u8 0, .int .u8 0, .int .i64 0, .int .i64 0, .int .i64 0, .int .i64 0]
def three (m : Int) (i : Nat) : Int := if i = 0 then m else if i = 1 then 3 else 256
set_option maxRecDepth 20000 in
set_option maxHeartbeats 8000000 in
theorem decodes_walk (c : Ci) (K F B L W C : Int) (xs : List Int) (A : Option Addr) (N cp : Nat) (many : Int) (hl : xs.length = N) (hNm : N ≤ maxLen) (hx : ElemsOK xs)
    (ck0 : 0 ≤ c.k) (ck1 : c.k ≤ 255) (cf0 : 0 ≤ c.f) (cf1 : c.f ≤ 255) (k0 : 0 ≤ K) (k1 : K ≤ 255) (f0 : 0 ≤ F) (f1 : F ≤ 255) (b0 : 0 ≤ B) (b1 : B ≤ 255) (l0 : 0 ≤ L) (l1 : L ≤ 255) (w0 : 0 ≤ W) (w1 : W ≤ 255) (c0 : 0 ≤ C) (c1 : C ≤ 255) (w : World) (hA : ElemsAt w A xs) :
    Calls Try.prog 7 #[cvl c, svl K F B L W C, .slice A N cp, .int .i64 many] w fun e w' => e = .returned (.bool true) ∧ Below w.heap.size w w' := by
  have hAw := Lib.hid (fun w => awake_ok w)
  have hS := Lib.hid (fun w => small_any K F B L W C k0 k1 f0 f1 b0 b1 l0 l1 w0 w1 c0 c1 w)
  obtain ⟨X, hX⟩ : ∃ X, smallC K F B L W C = X := ⟨_, rfl⟩
  have hXg : X.Good := by rw [← hX]; exact small_good _ _ _ _ _ _
  rw [hX] at hS
  clear hX k0 k1 f0 f1 b0 b1 l0 l1 w0 w1 c0 c1
  unfold svl cvl at *
  unfold maxLen at hNm
  replace hl := Lib.hid hl
  replace hx := Lib.hid hx
  replace hA := Lib.hid hA
  replace hXg := Lib.hid hXg
  go_enter Try.func7, Try.ntmps7
  go_wp2_with fail
  refine name_calls (fun w1 => Below w.heap.size w w1 ∧ w1.heap[w.heap.size]? = some (.cells #[.int .u8 c.k, .int .u8 c.f, .int .i64 c.b, .int .i64 c.l, .int .i64 c.w, .int .i64 c.c] 25 (0, 0)) ∧ w1.heap[w.heap.size + 1]? = some (.cells #[.int .u8 K, .int .u8 F, .int .u8 B, .int .u8 L, .int .u8 W, .int .u8 C] 27 (0, 0))) ⟨((Below.refl _ _).alloc (Nat.le_refl _) _).alloc (by simp) _, alloc_keeps (alloc_at rfl), alloc_at (by simp)⟩ ?_
  rintro w1 ⟨hb, kc, ks⟩
  refine call_then (hAw.out _) ?_
  intro w2 hv
  replace hb := below_next hb hb.size hv
  replace kc := keeps hv kc
  replace ks := keeps hv ks
  clear hv
  obtain ⟨s0, s1, s2, s3, s4, s5⟩ := blk6 ks
  by_cases h70 : 70 < N
  · have n1 : (70 : Int) < (N : Int) := by omega
    go_wp2
    go_ret
    exact ⟨rfl, hb⟩
  · have n1 : ¬ (70 : Int) < (N : Int) := by omega
    go_wp2_with fail
    refine call_then (hS.out _) ?_
    intro w3 hv
    replace hb := below_next hb hb.size hv
    replace kc := keeps hv kc
    clear hv ks s0 s1 s2 s3 s4 s5
    obtain ⟨s0, s1, s2, s3, s4, s5⟩ := blk6 kc
    have q1 := lt_of_get kc
    have q2 := Nat.ne_of_lt q1
    go_upto_region 7 with (fail)
    refine name_wp (fun w4 => Below w.heap.size w w4 ∧ Pair w4 (w3.heap.size + 1) c X) ⟨(hb.alloc hb.size _).alloc (by have := hb.size; simp; omega) _, alloc_at (by simp)⟩ ?_
    clear hb kc s0 s1 s2 s3 s4 s5 q1 q2
    generalize w3.heap.size + 1 = g at *
    rintro w4 ⟨hb, kp⟩
    clear w1 w2
    go_wp2
    go_loopw [31] (fun i wr => ∃ n : Nat, n ≤ 2 ∧ i = .int .i64 (n : Int) ∧ Below w.heap.size w wr ∧ Pair wr g c X) (fun i _ => 2 - (intOf i).toNat)
    case atStart => exact ⟨0, Nat.zero_le _, rfl, hb, kp⟩
    case round =>
      clear hb kp
      obtain ⟨n, hn, rfl, hb, kp⟩ := hrel
      by_cases hlt : n < 2
      · have j1 : (n : Int) < 2 := by omega
        have j0 : (0 : Int) ≤ (n : Int) := by omega
        have hat := kp.at_ n hlt
        obtain ⟨y, hy, hyk⟩ : ∃ y : Ci, (if n = 0 then c else X) = y ∧ (0 ≤ y.k ∧ y.k ≤ 255 ∧ 0 ≤ y.f ∧ y.f ≤ 255) := ⟨_, rfl, by
          have h1 := hXg.out.fits.k1
          have h2 := hXg.out.fits.k5
          have h3 := hXg.out.f
          split <;> omega⟩
        rw [hy] at hat
        have hks : (wr.alloc (.cells zero6.toArray 25 (0, 0))).heap[wr.heap.size]? = some (.cells zero6.toArray 25 (0, 0)) := alloc_at rfl
        replace hy := Lib.hid hy
        replace hyk := Lib.hid hyk
        have hrg := hat
        go_upto_region 9 with (first
          | (refine list_load_mid _ _ _ _ _ _ rfl rfl rfl hat Try.underlying25 rfl info_circuit ?_)
          | (refine list_store_whole _ _ _ _ (ccells y) zero6 25 rfl rfl rfl rfl hks rfl info_circuit (ccells_one y) ?_; intro w6 hbut kz))
        have kp6 : Pair w6 g c X := (hbut.block g (by have := lt_of_get kp; simp; omega) (Nat.ne_of_lt (lt_of_get kp))).trans (alloc_keeps kp)
        have hb6 : Below w.heap.size w w6 := hbut.below (hb.alloc hb.size _) hb.size (by have := hb.size; simp; omega)
        have hqw := hb.size
        clear hbut hks hat hrg hb kp
        generalize wr.heap.size = q at *
        go_upto_region 10 with (fail)
        refine name_wp (fun w7 => Below w.heap.size w w7 ∧ Pair w7 g c X ∧ w7.heap[q]? = some (.cells (ccells y).toArray 25 (0, 0)) ∧ w7.heap[w6.heap.size]? = some (.cells #[.int .i64 many, .int .i64 3, .int .i64 256] 3 (0, 0))) ⟨hb6.alloc hb6.size _, alloc_keeps kp6, alloc_keeps kz, alloc_at rfl⟩ ?_
        clear hb6 kp6 kz
        generalize w6.heap.size = h at *
        rintro w7 ⟨hb, kp, kz, kh⟩
        clear w6
        obtain ⟨wo, hwo⟩ : ∃ wo : World, wo = wr := ⟨_, rfl⟩
        clear hwo
        go_loopw [38] (fun i wr => ∃ m : Nat, m ≤ 3 ∧ i = .int .i64 (m : Int) ∧ Below w.heap.size w wr ∧ Pair wr g c X ∧ wr.heap[q]? = some (.cells (ccells y).toArray 25 (0, 0)) ∧ wr.heap[h]? = some (.cells #[.int .i64 many, .int .i64 3, .int .i64 256] 3 (0, 0))) (fun i _ => 3 - (intOf i).toNat)
        case atStart => exact ⟨0, Nat.zero_le _, rfl, hb, kp, kz, kh⟩
        case round =>
          clear hb kp kz kh
          obtain ⟨m, hm, rfl, hb, kp, kz, kh⟩ := hrel
          by_cases hlt3 : m < 3
          · have m1 : (m : Int) < 3 := by omega
            have m0 : (0 : Int) ≤ (m : Int) := by omega
            have hcell : wr.cell? ⟨h, m, none⟩ = some (.int .i64 (three many m)) := by
              have hm3 : m = 0 ∨ m = 1 ∨ m = 2 := by omega
              rcases hm3 with rfl | rfl | rfl <;> simp [World.cell?, kh, three]
            have hD := Lib.hid (fun w hA => dec_any y xs A N cp (three many m) hl.out hx.out w hA)
            have hE0 := Lib.hid (fun e => decE_lo (x := y) (N := N) (xs := xs) (many := three many m) e hx.out)
            generalize hkk : three many m = kk at *
            replace hkk := Lib.hid hkk
            obtain ⟨d0, d1, d2, d3, d4, d5⟩ := blk6 (a := .int .u8 y.k) (b := .int .u8 y.f) (c := .int .i64 y.b) (d := .int .i64 y.l) (e := .int .i64 y.w) (f := .int .i64 y.c) kz
            go_wp2_with fail
            refine (hD.out wr (hA.out.up hb)).mono ?_
            intro e w8 hres
            obtain ⟨Ag, lg, rfl, hv, hg0, hg1⟩ := hres.uni
            clear hres hD hcell
            replace hb := below_next hb hb.size hv
            replace kp := keeps hv kp
            replace kz := keeps hv kz
            replace kh := keeps hv kh
            clear hv d0 d1 d2 d3 d4 d5
            obtain ⟨d0, d1, d2, d3, d4, d5⟩ := blk6 (a := .int .u8 y.k) (b := .int .u8 y.f) (c := .int .i64 y.b) (d := .int .i64 y.l) (e := .int .i64 y.w) (f := .int .i64 y.c) kz
            have hR := Lib.hid (fun w => ref_any y hyk.out.1 hyk.out.2.1 hyk.out.2.2.1 hyk.out.2.2.2 w)
            have hC := Lib.hid (fun w => rcheck_any y.k y.f y.b y.l y.w y.c w)
            obtain ⟨E, hE⟩ : ∃ E, decE y N xs kk = E := ⟨_, rfl⟩
            rw [hE] at hg0 hg1 hE0 ⊢
            replace hE := Lib.hid hE
            replace hg0 := Lib.hid hg0
            replace hg1 := Lib.hid hg1
            go_wp2_with fail
            refine call_then (hR.out _) ?_
            intro w9 hv
            replace hb := below_next hb hb.size hv
            replace kp := keeps hv kp
            replace kz := keeps hv kz
            replace kh := keeps hv kh
            replace hg1 := Lib.hid (fun e => And.intro (hg1.out e).1 ((hg1.out e).2.up hv))
            clear hv d0 d1 d2 d3 d4 d5 hR
            go_wp2_with fail
            refine call_then (hC.out _) ?_
            intro w10 hv
            replace hb := below_next hb hb.size hv
            replace kp := keeps hv kp
            replace kz := keeps hv kz
            replace kh := keeps hv kh
            replace hg1 := Lib.hid (fun e => And.intro (hg1.out e).1 ((hg1.out e).2.up hv))
            clear hv hC
            have hcE : Ci.code ⟨y.k, y.f, y.b, y.l, y.w, y.c⟩ = y.code := rfl
            rw [hcE]
            clear hcE
            have hO := Lib.hid (fun (h0 : y.code = 0) => out_any y (Ci.good h0))
            have hMo := Lib.hid (fun (h0 : y.code = 0) w => most_any y (Ci.good h0) w)
            unfold cvl NumBy at hO
            unfold cvl at hMo
            go_upto_block 4 with (fail)
            go_cut [16] (fun v w' => v = .int .i64 E ∧ Below w.heap.size w w' ∧ Pair w' g c X ∧ w'.heap[q]? = some (.cells (ccells y).toArray 25 (0, 0)) ∧ w'.heap[h]? = some (.cells #[.int .i64 many, .int .i64 3, .int .i64 256] 3 (0, 0)) ∧ Hid (E = 0 → lg = xs.length ∧ WordsAt w' Ag xs))
            case first =>
              obtain ⟨d0, d1, d2, d3, d4, d5⟩ := blk6 (a := .int .u8 y.k) (b := .int .u8 y.f) (c := .int .i64 y.b) (d := .int .i64 y.l) (e := .int .i64 y.w) (f := .int .i64 y.c) kz
              by_cases hc0 : y.code = 0
              · have hO2 := Lib.hid (hO.out hc0)
                have hMo2 := Lib.hid (hMo.out hc0)
                have hg := Ci.good hc0
                have hml := most_le hg
                have hn0 : (y.code != 0) = false := by simp [hc0]
                clear hO hMo hg
                by_cases hN : N = y.outN
                · have hn1 : ((N : Int) != (y.outN : Int)) = false := by simp; omega
                  have hn2 : (N != y.outN) = false := by simp; omega
                  by_cases hm : kk < 0 ∨ 256 < kk
                  · have hEv := Lib.hid (show E = 6 by rw [← hE.out]; unfold decE; rw [if_pos hc0, if_pos hN, if_pos hm])
                    replace hc0 := Lib.hid hc0
                    replace hN := Lib.hid hN
                    rcases hm with hm | hm
                    · have b1 : decide (kk < 0) = true := by simpa using hm
                      clear hm
                      go_wp2_with fail
                      refine call_then (hO2.out _) ?_
                      intro w11 hv
                      replace hb := below_next hb hb.size hv
                      replace kp := keeps hv kp
                      replace kz := keeps hv kz
                      replace kh := keeps hv kh
                      replace hg1 := Lib.hid (fun e => And.intro (hg1.out e).1 ((hg1.out e).2.up hv))
                      clear hv d0 d1 d2 d3 d4 d5 hO2
                      obtain ⟨d0, d1, d2, d3, d4, d5⟩ := blk6 (a := .int .u8 y.k) (b := .int .u8 y.f) (c := .int .i64 y.b) (d := .int .i64 y.l) (e := .int .i64 y.w) (f := .int .i64 y.c) kz
                      go_wp2
                      go_meet
                      exact ⟨by rw [hEv.out], hb, kp, kz, kh, hg1⟩
                    · have b1 : decide (kk < 0) = false := by simp; omega
                      have b2 : decide (kk > 256) = true := by simpa using hm
                      clear hm
                      go_wp2_with fail
                      refine call_then (hO2.out _) ?_
                      intro w11 hv
                      replace hb := below_next hb hb.size hv
                      replace kp := keeps hv kp
                      replace kz := keeps hv kz
                      replace kh := keeps hv kh
                      replace hg1 := Lib.hid (fun e => And.intro (hg1.out e).1 ((hg1.out e).2.up hv))
                      clear hv d0 d1 d2 d3 d4 d5 hO2
                      obtain ⟨d0, d1, d2, d3, d4, d5⟩ := blk6 (a := .int .u8 y.k) (b := .int .u8 y.f) (c := .int .i64 y.b) (d := .int .i64 y.l) (e := .int .i64 y.w) (f := .int .i64 y.c) kz
                      go_wp2
                      go_meet
                      exact ⟨by rw [hEv.out], hb, kp, kz, kh, hg1⟩
                  · have hEv := Lib.hid (show E = if allLe (kk * (y.mostN : Int)) xs = true then 0 else 6 by rw [← hE.out]; unfold decE; rw [if_pos hc0, if_pos hN, if_neg hm])
                    obtain ⟨kn, rfl⟩ := Int.eq_ofNat_of_zero_le (show 0 ≤ kk by omega)
                    have hkn : kn ≤ 256 := by omega
                    generalize y.mostN = Z at *
                    have hT0 : kn * Z ≤ 256 * 4294967295 := Nat.mul_le_mul hkn hml
                    have hTe : ((kn : Int) * (Z : Int)) = ((kn * Z : Nat) : Int) := by rw [Int.natCast_mul]
                    rw [hTe] at hEv
                    have hw1 : IntKind.u64.wrap (kn : Int) = (kn : Int) := by rw [IntKind.wrap_u64]; omega
                    generalize kn * Z = T at *
                    have hw2 : IntKind.u64.wrap (T : Int) = (T : Int) := by rw [IntKind.wrap_u64]; omega
                    have g0 : ¬ (kn : Int) < 0 := by omega
                    have g1 : ¬ (256 : Int) < (kn : Int) := by omega
                    replace hc0 := Lib.hid hc0
                    replace hN := Lib.hid hN
                    clear hm hml
                    go_wp2_with fail
                    refine call_then (hO2.out _) ?_
                    intro w11 hv
                    replace hb := below_next hb hb.size hv
                    replace kp := keeps hv kp
                    replace kz := keeps hv kz
                    replace kh := keeps hv kh
                    replace hg1 := Lib.hid (fun e => And.intro (hg1.out e).1 ((hg1.out e).2.up hv))
                    clear hv d0 d1 d2 d3 d4 d5 hO2
                    obtain ⟨d0, d1, d2, d3, d4, d5⟩ := blk6 (a := .int .u8 y.k) (b := .int .u8 y.f) (c := .int .i64 y.b) (d := .int .i64 y.l) (e := .int .i64 y.w) (f := .int .i64 y.c) kz
                    go_wp2
                    clear d0 d1 d2 d3 d4 d5
                    go_loopw [54, 16] (fun i v wr => ∃ (j : Nat) (V : Int), j ≤ N ∧ i = .int .i64 (j : Int) ∧ v = .int .i64 V ∧ Below w.heap.size w wr ∧ Pair wr g c X ∧ wr.heap[q]? = some (.cells (ccells y).toArray 25 (0, 0)) ∧ wr.heap[h]? = some (.cells #[.int .i64 many, .int .i64 3, .int .i64 256] 3 (0, 0)) ∧ Hid (E = 0 → lg = xs.length ∧ WordsAt wr Ag xs) ∧ Hid (V = if allLe (T : Int) (xs.take j) = true then 0 else 6)) (fun i _ _ => N - (intOf i).toNat)
                    case atStart => exact ⟨0, 0, Nat.zero_le _, rfl, by rw [hc0.out], hb, kp, kz, kh, hg1, Lib.hid rfl⟩
                    case round =>
                      clear hb kp kz kh hg1
                      obtain ⟨j, V, hj, rfl, rfl, hb, kp, kz, kh, hg1, hV⟩ := hrel
                      by_cases hltj : j < N
                      · have e1 : (j : Int) < (N : Int) := by omega
                        have e0 : (0 : Int) ≤ (j : Int) := by omega
                        obtain ⟨p, o, rfl, hc0, hc1⟩ := hA.out j (by rw [hl.out]; exact hltj)
                        have hd0 := (hb.cell (World.block_lt_of_cell? _ _ hc0)).trans hc0
                        have hd1 := (hb.cell (World.block_lt_of_cell? _ _ hc1)).trans hc1
                        have hz := hx.out.at_ (k := j) (by rw [hl.out]; exact hltj)
                        have hsn := Lib.hid (show allLe (T : Int) (xs.take (j + 1)) = (allLe (T : Int) (xs.take j) && decide (xs.getD j 0 ≤ (T : Int))) by rw [take_snocD (by rw [hl.out]; exact hltj), allLe_snoc])
                        generalize xs.getD j 0 = z at *
                        have hv := val_lohi z
                        have hlo := lo_nonneg z
                        have hlt := lo_lt z
                        have hhi := hi_nonneg hz.1
                        unfold val at hv
                        clear hc0 hc1
                        go_upto_region 17 with (fail)
                        refine name_wp (fun w12 => Below w.heap.size w w12 ∧ Pair w12 g c X ∧ w12.heap[q]? = some (.cells (ccells y).toArray 25 (0, 0)) ∧ w12.heap[h]? = some (.cells #[.int .i64 many, .int .i64 3, .int .i64 256] 3 (0, 0)) ∧ Hid (E = 0 → lg = xs.length ∧ WordsAt w12 Ag xs) ∧ w12.heap[wr.heap.size]? = some (.cells #[.int .u64 (lo z), .int .u64 (hi z)] 56 (0, 0))) ⟨hb.alloc hb.size _, alloc_keeps kp, alloc_keeps kz, alloc_keeps kh, Lib.hid (fun e => And.intro (hg1.out e).1 ((hg1.out e).2.up ((Below.refl _ _).alloc (Nat.le_refl _) _))), alloc_at rfl⟩ ?_
                        clear hb kp kz kh hg1 hd0 hd1
                        generalize wr.heap.size = q8 at *
                        rintro w12 ⟨hb, kp, kz, kh, hg1, k8⟩
                        by_cases hh : hi z = 0
                        · have hle : decide (lo z > (T : Int)) = !decide (z ≤ (T : Int)) := by
                            rw [hh] at hv
                            by_cases e : z ≤ (T : Int)
                            · simp [e]; omega
                            · simp [e]; omega
                          have n0 : (hi z != 0) = false := by simp [hh]
                          have hle2 : decide ((T : Int) < lo z) = !decide (z ≤ (T : Int)) := hle
                          generalize hzT : decide (z ≤ (T : Int)) = zb at *
                          clear hzT hv hh hlt hlo hhi hz
                          cases zb with
                          | true =>
                            have hV2 : Hid (V = if allLe (T : Int) (xs.take (j + 1)) = true then 0 else 6) := Lib.hid (by rw [hsn.out, Bool.and_true]; exact hV.out)
                            refine wp_region_flow0 (by kernel_rfl) (by kernel_rfl) ?_
                            intro ι _ φ hφ
                            obtain ⟨q0, q1⟩ := hφ.two k8
                            have qq := fun i => blk6 (a := .int .u8 y.k) (b := .int .u8 y.f) (c := .int .i64 y.b) (d := .int .i64 y.l) (e := .int .i64 y.w) (f := .int .i64 y.c) (keeps (hφ.old i) kz)
                            have d0 := fun i => (qq i).1
                            have d1 := fun i => (qq i).2.1
                            have d2 := fun i => (qq i).2.2.1
                            have d3 := fun i => (qq i).2.2.2.1
                            have d4 := fun i => (qq i).2.2.2.2.1
                            have d5 := fun i => (qq i).2.2.2.2.2
                            clear qq
                            repeat (go_big_quiet_step ((go_at_call 31; exact flow_call hφ (hMo2.out _))))
                            refine wpQuiet_nil ?_
                            intro w13 hv
                            replace hb := below_next hb hb.size hv
                            replace kp := keeps hv kp
                            replace kz := keeps hv kz
                            replace kh := keeps hv kh
                            replace hg1 := Lib.hid (fun e => And.intro (hg1.out e).1 ((hg1.out e).2.up hv))
                            clear hv q0 q1 d0 d1 d2 d3 d4 d5 k8 hφ
                            go_wp2
                            exact ⟨⟨j + 1, V, by omega, by go_num, rfl, hb, kp, kz, kh, hg1, hV2⟩, by simp [intOf]; omega⟩
                          | false =>
                            have hV2 : Hid ((6 : Int) = if allLe (T : Int) (xs.take (j + 1)) = true then 0 else 6) := Lib.hid (by rw [hsn.out, Bool.and_false]; rfl)
                            refine wp_region_flow0 (by kernel_rfl) (by kernel_rfl) ?_
                            intro ι _ φ hφ
                            obtain ⟨q0, q1⟩ := hφ.two k8
                            have qq := fun i => blk6 (a := .int .u8 y.k) (b := .int .u8 y.f) (c := .int .i64 y.b) (d := .int .i64 y.l) (e := .int .i64 y.w) (f := .int .i64 y.c) (keeps (hφ.old i) kz)
                            have d0 := fun i => (qq i).1
                            have d1 := fun i => (qq i).2.1
                            have d2 := fun i => (qq i).2.2.1
                            have d3 := fun i => (qq i).2.2.2.1
                            have d4 := fun i => (qq i).2.2.2.2.1
                            have d5 := fun i => (qq i).2.2.2.2.2
                            clear qq
                            repeat (go_big_quiet_step ((go_at_call 31; exact flow_call hφ (hMo2.out _))))
                            refine wpQuiet_nil ?_
                            intro w13 hv
                            replace hb := below_next hb hb.size hv
                            replace kp := keeps hv kp
                            replace kz := keeps hv kz
                            replace kh := keeps hv kh
                            replace hg1 := Lib.hid (fun e => And.intro (hg1.out e).1 ((hg1.out e).2.up hv))
                            clear hv q0 q1 d0 d1 d2 d3 d4 d5 k8 hφ
                            go_wp2
                            exact ⟨⟨j + 1, 6, by omega, by go_num, rfl, hb, kp, kz, kh, hg1, hV2⟩, by simp [intOf]; omega⟩
                        · have n0 : (hi z != 0) = true := by simpa using hh
                          have hV2 : Hid ((6 : Int) = if allLe (T : Int) (xs.take (j + 1)) = true then 0 else 6) := Lib.hid (by rw [hsn.out, show decide (z ≤ (T : Int)) = false by simp; omega, Bool.and_false]; rfl)
                          clear hv hh hlt hlo hhi hz
                          refine wp_region_flow0 (by kernel_rfl) (by kernel_rfl) ?_
                          intro ι _ φ hφ
                          obtain ⟨q0, q1⟩ := hφ.two k8
                          have qq := fun i => blk6 (a := .int .u8 y.k) (b := .int .u8 y.f) (c := .int .i64 y.b) (d := .int .i64 y.l) (e := .int .i64 y.w) (f := .int .i64 y.c) (keeps (hφ.old i) kz)
                          have d0 := fun i => (qq i).1
                          have d1 := fun i => (qq i).2.1
                          have d2 := fun i => (qq i).2.2.1
                          have d3 := fun i => (qq i).2.2.2.1
                          have d4 := fun i => (qq i).2.2.2.2.1
                          have d5 := fun i => (qq i).2.2.2.2.2
                          clear qq
                          repeat (go_big_quiet_step ((go_at_call 31; exact flow_call hφ (hMo2.out _))))
                          refine wpQuiet_nil ?_
                          intro w13 hv
                          replace hb := below_next hb hb.size hv
                          replace kp := keeps hv kp
                          replace kz := keeps hv kz
                          replace kh := keeps hv kh
                          replace hg1 := Lib.hid (fun e => And.intro (hg1.out e).1 ((hg1.out e).2.up hv))
                          clear hv q0 q1 d0 d1 d2 d3 d4 d5 k8 hφ
                          go_wp2
                          exact ⟨⟨j + 1, 6, by omega, by go_num, rfl, hb, kp, kz, kh, hg1, hV2⟩, by simp [intOf]; omega⟩
                      · obtain rfl : N = j := by omega
                        rw [List.take_of_length_le (by rw [hl.out]; exact Nat.le_refl _)] at hV
                        have e1 : ¬ (N : Int) < (N : Int) := by omega
                        go_wp2
                        go_meet
                        exact ⟨by rw [hEv.out, hV.out], hb, kp, kz, kh, hg1⟩
                · have hn1 : ((N : Int) != (y.outN : Int)) = true := by simp; omega
                  have hn2 : (N != y.outN) = true := by simpa using hN
                  have hEv := Lib.hid (show E = 9 by rw [← hE.out]; unfold decE; rw [if_pos hc0, if_neg hN])
                  replace hc0 := Lib.hid hc0
                  replace hN := Lib.hid hN
                  go_wp2_with fail
                  refine call_then (hO2.out _) ?_
                  intro w11 hv
                  replace hb := below_next hb hb.size hv
                  replace kp := keeps hv kp
                  replace kz := keeps hv kz
                  replace kh := keeps hv kh
                  replace hg1 := Lib.hid (fun e => And.intro (hg1.out e).1 ((hg1.out e).2.up hv))
                  clear hv d0 d1 d2 d3 d4 d5 hO2
                  obtain ⟨d0, d1, d2, d3, d4, d5⟩ := blk6 (a := .int .u8 y.k) (b := .int .u8 y.f) (c := .int .i64 y.b) (d := .int .i64 y.l) (e := .int .i64 y.w) (f := .int .i64 y.c) kz
                  go_wp2
                  go_meet
                  exact ⟨by rw [hEv.out], hb, kp, kz, kh, hg1⟩
              · have hEv := Lib.hid (show E = y.code by rw [← hE.out]; unfold decE; rw [if_neg hc0])
                have hn0 : (y.code != 0) = true := by simpa using hc0
                replace hc0 := Lib.hid hc0
                clear hO hMo
                go_wp2
                go_meet
                exact ⟨by rw [hEv.out], hb, kp, kz, kh, hg1⟩
            case rest =>
              obtain ⟨rfl, hb, kp, kz, kh, hg1⟩ := hcut
              clear hO hMo hE hkk
              by_cases hEz : E = 0
              · obtain ⟨hlg, hW⟩ := hg1.out hEz
                have hlo := hE0.out hEz
                subst hEz
                have hW' := Lib.hid hW
                have hlg' := Lib.hid hlg
                have hlo' := Lib.hid hlo
                have hlg64 : lg ≤ 9223372036854775807 := by rw [hlg, hl.out]; omega
                clear hg0 hg1 hlg hW hlo hE0
                go_wp2
                go_loopw [102] (fun i wr => ∃ j : Nat, j ≤ lg ∧ i = .int .i64 (j : Int) ∧ Below w.heap.size w wr ∧ Pair wr g c X ∧ wr.heap[q]? = some (.cells (ccells y).toArray 25 (0, 0)) ∧ wr.heap[h]? = some (.cells #[.int .i64 many, .int .i64 3, .int .i64 256] 3 (0, 0)) ∧ Hid (WordsAt wr Ag xs)) (fun i _ => lg - (intOf i).toNat)
                case atStart => exact ⟨0, Nat.zero_le _, rfl, hb, kp, kz, kh, hW'⟩
                case round =>
                  clear hb kp kz kh hW'
                  obtain ⟨j, hj, rfl, hb, kp, kz, kh, hW⟩ := hrel
                  by_cases hltj : j < lg
                  · have e1 : (j : Int) < (lg : Int) := by omega
                    have e2 : (j : Int) < (N : Int) := by have := hlg'.out; have := hl.out; omega
                    have e0 : (0 : Int) ≤ (j : Int) := by omega
                    obtain ⟨p, o, rfl, hc0, hc1⟩ := (hA.out.up hb) j (by have := hlg'.out; omega)
                    obtain ⟨p2, o2, rfl, hc2⟩ := hW.out j (by have := hlg'.out; omega)
                    have hz := hlo'.out j (by have := hlg'.out; omega)
                    generalize xs.getD j 0 = z at *
                    have hz2 : (z != lo z) = false := by rw [hz]; simp
                    clear hz
                    go_upto_region 30 with (fail)
                    refine wp_region_flow0 (by kernel_rfl) (by kernel_rfl) ?_
                    intro ι _ φ hφ
                    have q0 := fun i => hφ.cell hc0 i
                    have q1 := fun i => hφ.cell hc1 i
                    have q2 := fun i => hφ.cell hc2 i
                    repeat (go_big_quiet_step (fail))
                    refine wpQuiet_nil ?_
                    intro w13 hv
                    replace hb := below_next hb hb.size hv
                    replace kp := keeps hv kp
                    replace kz := keeps hv kz
                    replace kh := keeps hv kh
                    replace hW := Lib.hid (hW.out.up hv)
                    clear hv q0 q1 q2 hc0 hc1 hc2 hφ
                    go_wp2
                    exact ⟨⟨j + 1, by omega, by go_num, hb, kp, kz, kh, hW⟩, by simp [intOf]; omega⟩
                  · obtain rfl : lg = j := by omega
                    have e1 : ¬ (lg : Int) < (lg : Int) := by omega
                    go_wp2
                    exact ⟨⟨m + 1, by omega, by go_num, hb, kp, kz, kh⟩, by simp [intOf]; omega⟩
              · obtain rfl : lg = 0 := hg0.out hEz
                have n0 : (E != 0) = true := by simpa using hEz
                clear hg0 hg1 hE0 hEz
                go_wp2
                go_loopw [102] (fun i wr => i = .int .i64 0 ∧ Below w.heap.size w wr ∧ Pair wr g c X ∧ wr.heap[q]? = some (.cells (ccells y).toArray 25 (0, 0)) ∧ wr.heap[h]? = some (.cells #[.int .i64 many, .int .i64 3, .int .i64 256] 3 (0, 0))) (fun i _ => 0)
                case atStart => exact ⟨rfl, hb, kp, kz, kh⟩
                case round =>
                  clear hb kp kz kh
                  obtain ⟨rfl, hb, kp, kz, kh⟩ := hrel
                  go_wp2
                  exact ⟨⟨m + 1, by omega, by go_num, hb, kp, kz, kh⟩, by simp [intOf]; omega⟩
          · obtain rfl : m = 3 := by omega
            go_wp2
            exact ⟨⟨n + 1, by omega, by go_num, hb, kp⟩, by simp [intOf]; omega⟩
      · obtain rfl : n = 2 := by omega
        go_wp2
        go_ret
        exact ⟨rfl, hb⟩
end Go.Proofs.Ytgdokfchfgnbbaa
