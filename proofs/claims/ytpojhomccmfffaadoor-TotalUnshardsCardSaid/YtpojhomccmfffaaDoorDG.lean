import Derived.Test.YtpojhomccmfffaaDoorDD
import Derived.Test.YtpojhomccmfffaaDoorBD
import Derived.Outline
import Derived.Deep.DeepCutAuto
import Derived.Deep.CutBlock
/-
  Sums as numbers.
-/
namespace Go.Proofs.YtpojhomccmfffaaDoor
open Go.RowKit Flow F
set_option linter.unusedVariables false
set_option linter.unusedSimpArgs false

theorem fin_any (f a : Int) (hf : f = 1 ∨ f = 2) (a0 : 0 ≤ a) (w : World) : Calls Tryd.prog 102 #[.int .u8 f, .agg #[.int .u64 (lo a), .int .u64 (hi a)]] w fun e w' => e = .returned (.bool (decide (a < M f))) ∧ Below w.heap.size w w' := by
  rcases hf with rfl | rfl
  · have h := fin_one a w
    rw [show decide (0 ≤ a) = true by simpa using a0, Bool.and_true] at h
    exact h
  · exact fin_two a w
/-- A row of words. -/
def WRow (w : World) (g : Nat) (zs : List Int) : Prop := w.heap[g]? = some (.cells (zs.map (Value.int .u64)).toArray 63 (0, 0))
theorem WRow.up {w w' : World} {g : Nat} {zs : List Int} (h : WRow w g zs) (hb : Below w.heap.size w w') : WRow w' g zs := keeps hb h
theorem WRow.alloc {w : World} {g : Nat} {zs : List Int} (h : WRow w g zs) (o : Obj) : WRow (w.alloc o) g zs := alloc_keeps h
theorem WRow.at_ {w : World} {g k : Nat} {zs : List Int} (h : WRow w g zs) (hk : k < zs.length) : w.cell? ⟨g, k, none⟩ = some (.int .u64 (zs.getD k 0)) := by
  have h' : w.heap[g]? = some (.cells (zs.map (Value.int .u64)).toArray 63 (0, 0)) := h
  simp [World.cell?, h', hk]
theorem WRow.free {w : World} {g : Nat} {zs : List Int} (h : WRow w g zs) (k : Nat) : w.frozen? ⟨g, k, none⟩ = false := by
  have h' : w.heap[g]? = some (.cells (zs.map (Value.int .u64)).toArray 63 (0, 0)) := h
  simp [World.frozen?, h']
theorem WRow.set {w : World} {g k : Nat} {zs : List Int} (h : WRow w g zs) (z : Int) : WRow (w.setCell ⟨g, k, none⟩ (.int .u64 z)) g (zs.set k z) := by
  unfold WRow at *
  rw [store1 h]
  simp [List.map_set]
theorem WRow.words {w : World} {g : Nat} {zs : List Int} (h : WRow w g zs) : WordsAt w (some ⟨g, 0, none⟩) zs := words_of h
theorem info_u64 : (Tryd.prog.info? 63).map (fun i => (i.zero, i.size, i.bytes)) = some (some (.int .u64 0), 1, 8) := by kernel_rfl
theorem make_words (k : Nat) (hk : k ≤ 4096) (w : World) : (Instr.makeSlice 53 (.int .i64 (k : Int)) (.int .i64 (k : Int))).run Tryd.prog w = .ok (.slice (some ⟨w.heap.size, 0, none⟩) k k) (w.alloc (.cells (Array.replicate k (Value.int .u64 0)) 63)) := by
  obtain ⟨i0, h0, h1, h2, h3⟩ := info_parts info_u64
  have hr := run_make (P := Tryd.prog) w 53 63 i0 _ Tryd.underlying53 h0 h1 .i64 .i64 k k (by omega) (by omega) (by rw [h3]; omega) (by omega)
  simp only [Int.toNat_natCast] at hr
  rw [h2] at hr
  have e : madeCells (Value.int .u64 0).cells (k * 1) = Array.replicate k (Value.int .u64 0) := by
    have := toList_madeCells_one (.int .u64 0) (k * 1)
    apply Array.toList_inj.1
    rw [show (Value.int .u64 0).cells = #[.int .u64 0] from rfl, this, Nat.mul_one]
    simp
  rw [e] at hr
  exact hr
theorem wrow_new (w : World) (k : Nat) : WRow (w.alloc (.cells (Array.replicate k (Value.int .u64 0)) 63)) w.heap.size (List.replicate k 0) := by
  unfold WRow
  rw [alloc_at rfl]
  simp
/-- Its error. -/
def decE (x : Ci) (N : Nat) (xs : List Int) (many : Int) : Int := if x.code = 0 then (if N = x.outN then (if many < 0 ∨ 256 < many then 6 else (if allLe (many * (x.mostN : Int)) xs = true then 0 else 6)) else 9) else x.code
def DecOut (xs : List Int) (w : World) (e : Ending) (w' : World) : Prop := ∃ g, e = .returned (.tuple #[.slice (some ⟨g, 0, none⟩) xs.length xs.length, .int .i64 0]) ∧ Below w.heap.size w w' ∧ w.heap.size ≤ g ∧ WRow w' g xs
def DecBad (c : Int) (w : World) (e : Ending) (w' : World) : Prop := e = .returned (.tuple #[.slice none 0 0, .int .i64 c]) ∧ Below w.heap.size w w'
theorem dec_code (x : Ci) (A : Option Addr) (N cp : Nat) (many : Int) (h : x.code ≠ 0) (w : World) : Calls Tryd.prog 66 #[cvl x, .slice A N cp, .int .i64 many] w (DecBad x.code w) := by
  unfold DecBad
  obtain ⟨k, f, b, l, W, c⟩ := x
  have hC := fun w => ccheck_any k f b l W c w
  unfold cvl
  generalize (Ci.mk k f b l W c).code = z at *
  have h1 : (z != 0) = true := by simpa using h
  replace hC := Lib.hid hC
  clear h
  go_enter Tryd.func66, Tryd.ntmps66
  go_upto_region 1 with (fail)
  refine name_wp (fun w1 => Below w.heap.size w w1 ∧ w1.heap[w.heap.size]? = some (.cells #[.int .u8 k, .int .u8 f, .int .i64 b, .int .i64 l, .int .i64 W, .int .i64 c] 31 (0, 0))) ⟨(Below.refl _ _).alloc (Nat.le_refl _) _, alloc_at rfl⟩ ?_
  rintro w1 ⟨hb, k0⟩
  obtain ⟨c0, c1, c2, c3, c4, c5⟩ := blk6 k0
  go_wp2_with fail
  refine call_then (hC.out _) ?_
  intro w2 hb2
  replace hb := below_next hb hb.size hb2
  replace k0 := keeps hb2 k0
  clear hb2 c0 c1 c2 c3 c4 c5
  obtain ⟨c0, c1, c2, c3, c4, c5⟩ := blk6 k0
  go_wp2
  go_ret2
  exact ⟨rfl, hb⟩
theorem dec_size (x : Ci) (A : Option Addr) (N cp : Nat) (many : Int) (h : x.Good) (hN : N ≠ x.outN) (w : World) : Calls Tryd.prog 66 #[cvl x, .slice A N cp, .int .i64 many] w (DecBad 9 w) := by
  unfold DecBad
  have hO := out_any x h
  have hz := h.code
  obtain ⟨k, f, b, l, W, c⟩ := x
  have hC := fun w => ccheck_any k f b l W c w
  unfold cvl NumBy at *
  generalize (Ci.mk k f b l W c).outN = M at *
  rw [hz] at hC
  have n1 : ((N : Int) != (M : Int)) = true := by simp; omega
  have n2 : (N != M) = true := by simpa using hN
  replace hC := Lib.hid hC
  replace hO := Lib.hid hO
  clear h hN hz
  go_enter Tryd.func66, Tryd.ntmps66
  go_upto_region 1 with (fail)
  refine name_wp (fun w1 => Below w.heap.size w w1 ∧ w1.heap[w.heap.size]? = some (.cells #[.int .u8 k, .int .u8 f, .int .i64 b, .int .i64 l, .int .i64 W, .int .i64 c] 31 (0, 0))) ⟨(Below.refl _ _).alloc (Nat.le_refl _) _, alloc_at rfl⟩ ?_
  rintro w1 ⟨hb, k0⟩
  obtain ⟨c0, c1, c2, c3, c4, c5⟩ := blk6 k0
  go_wp2_with fail
  refine call_then (hC.out _) ?_
  intro w2 hb2
  replace hb := below_next hb hb.size hb2
  replace k0 := keeps hb2 k0
  clear hb2 c0 c1 c2 c3 c4 c5
  obtain ⟨c0, c1, c2, c3, c4, c5⟩ := blk6 k0
  go_wp2_with fail
  refine call_then (hO.out _) ?_
  intro w2 hb2
  replace hb := below_next hb hb.size hb2
  replace k0 := keeps hb2 k0
  clear hb2 c0 c1 c2 c3 c4 c5
  obtain ⟨c0, c1, c2, c3, c4, c5⟩ := blk6 k0
  go_wp2
  go_ret2
  exact ⟨rfl, hb⟩
theorem dec_range (x : Ci) (A : Option Addr) (N cp : Nat) (many : Int) (h : x.Good) (hN : N = x.outN) (hm : many < 0 ∨ 256 < many) (w : World) : Calls Tryd.prog 66 #[cvl x, .slice A N cp, .int .i64 many] w (DecBad 6 w) := by
  unfold DecBad
  have hO := out_any x h
  have hz := h.code
  obtain ⟨k, f, b, l, W, c⟩ := x
  have hC := fun w => ccheck_any k f b l W c w
  unfold cvl NumBy at *
  rw [← hN] at hO
  rw [hz] at hC
  replace hC := Lib.hid hC
  replace hO := Lib.hid hO
  clear h hN hz
  rcases hm with h | h
  · have b1 : decide (many < 0) = true := by simpa using h
    clear h
    go_enter Tryd.func66, Tryd.ntmps66
    go_upto_region 1 with (fail)
    refine name_wp (fun w1 => Below w.heap.size w w1 ∧ w1.heap[w.heap.size]? = some (.cells #[.int .u8 k, .int .u8 f, .int .i64 b, .int .i64 l, .int .i64 W, .int .i64 c] 31 (0, 0))) ⟨(Below.refl _ _).alloc (Nat.le_refl _) _, alloc_at rfl⟩ ?_
    rintro w1 ⟨hb, k0⟩
    obtain ⟨c0, c1, c2, c3, c4, c5⟩ := blk6 k0
    go_wp2_with fail
    refine call_then (hC.out _) ?_
    intro w2 hb2
    replace hb := below_next hb hb.size hb2
    replace k0 := keeps hb2 k0
    clear hb2 c0 c1 c2 c3 c4 c5
    obtain ⟨c0, c1, c2, c3, c4, c5⟩ := blk6 k0
    go_wp2_with fail
    refine call_then (hO.out _) ?_
    intro w2 hb2
    replace hb := below_next hb hb.size hb2
    replace k0 := keeps hb2 k0
    clear hb2 c0 c1 c2 c3 c4 c5
    obtain ⟨c0, c1, c2, c3, c4, c5⟩ := blk6 k0
    go_wp2
    go_ret2
    exact ⟨rfl, hb⟩
  · have b1 : decide (many < 0) = false := by simp; omega
    have b2 : decide (many > 256) = true := by simpa using h
    clear h
    go_enter Tryd.func66, Tryd.ntmps66
    go_upto_region 1 with (fail)
    refine name_wp (fun w1 => Below w.heap.size w w1 ∧ w1.heap[w.heap.size]? = some (.cells #[.int .u8 k, .int .u8 f, .int .i64 b, .int .i64 l, .int .i64 W, .int .i64 c] 31 (0, 0))) ⟨(Below.refl _ _).alloc (Nat.le_refl _) _, alloc_at rfl⟩ ?_
    rintro w1 ⟨hb, k0⟩
    obtain ⟨c0, c1, c2, c3, c4, c5⟩ := blk6 k0
    go_wp2_with fail
    refine call_then (hC.out _) ?_
    intro w2 hb2
    replace hb := below_next hb hb.size hb2
    replace k0 := keeps hb2 k0
    clear hb2 c0 c1 c2 c3 c4 c5
    obtain ⟨c0, c1, c2, c3, c4, c5⟩ := blk6 k0
    go_wp2_with fail
    refine call_then (hO.out _) ?_
    intro w2 hb2
    replace hb := below_next hb hb.size hb2
    replace k0 := keeps hb2 k0
    clear hb2 c0 c1 c2 c3 c4 c5
    obtain ⟨c0, c1, c2, c3, c4, c5⟩ := blk6 k0
    go_wp2
    go_ret2
    exact ⟨rfl, hb⟩
set_option maxRecDepth 20000 in
set_option maxHeartbeats 4000000 in
theorem dec_sums (x : Ci) (xs : List Int) (A : Option Addr) (N cp : Nat) (many : Nat) (h : x.Good) (hN : N = x.outN) (hl : xs.length = N) (hm : many ≤ 256) (hx : ElemsOK xs) (w : World) (hA : ElemsAt w A xs) :
    Calls Tryd.prog 66 #[cvl x, .slice A N cp, .int .i64 (many : Int)] w (fun e w' => (allLe ((many : Int) * (x.mostN : Int)) xs = true ∧ DecOut xs w e w') ∨ (allLe ((many : Int) * (x.mostN : Int)) xs = false ∧ DecBad 6 w e w')) := by
  have hO := out_any x h
  have hMo := fun w => most_any x h w
  have hz := h.code
  have hf := h.f
  have hN64 : N ≤ 64 := by
    rw [hN]; unfold Ci.outN
    have := h.fits.l
    have := h.fits.k1
    split <;> omega
  have hmost : x.mostN ≤ 4294967295 := by
    unfold Ci.mostN
    split
    · have := pow_le32 (b := x.b.toNat) (by have := h.fits.b (by assumption); omega); omega
    · omega
  obtain ⟨k, f, b, l, W, c⟩ := x
  have hC := fun w => ccheck_any k f b l W c w
  simp only at hf
  unfold cvl NumBy at *
  rw [← hN] at hO
  rw [hz] at hC
  generalize (Ci.mk k f b l W c).mostN = X at *
  have hmX : many * X ≤ 256 * 4294967295 := Nat.mul_le_mul hm hmost
  have hMu : ((many : Int) * (X : Int)) = ((many * X : Nat) : Int) := by rw [Int.natCast_mul]
  rw [hMu]
  generalize many * X = T at *
  have hMw : IntKind.u64.wrap (T : Int) = (T : Int) := by rw [IntKind.wrap_u64]; omega
  have hcv : IntKind.u64.wrap (many : Int) = (many : Int) := by rw [IntKind.wrap_u64]; omega
  have hmk := make_words N (by omega)
  have hM := M_big f
  have m0 : ¬ (many : Int) < 0 := by omega
  have m1 : ¬ (256 : Int) < (many : Int) := by omega
  have m2 : (many : Int) ≤ 256 := by omega
  have m3 : (0 : Int) ≤ (many : Int) := by omega
  replace hf := Lib.hid hf
  replace hC := Lib.hid hC
  replace hO := Lib.hid hO
  replace hMo := Lib.hid hMo
  replace hA := Lib.hid hA
  replace hl := Lib.hid hl
  replace hx := Lib.hid hx
  replace hM := Lib.hid hM
  clear h hN hz
  go_enter Tryd.func66, Tryd.ntmps66
  go_upto_region 1 with (fail)
  refine name_wp (fun w1 => Below w.heap.size w w1 ∧ w1.heap[w.heap.size]? = some (.cells #[.int .u8 k, .int .u8 f, .int .i64 b, .int .i64 l, .int .i64 W, .int .i64 c] 31 (0, 0))) ⟨(Below.refl _ _).alloc (Nat.le_refl _) _, alloc_at rfl⟩ ?_
  rintro w1 ⟨hb, k0⟩
  obtain ⟨c0, c1, c2, c3, c4, c5⟩ := blk6 k0
  go_wp2_with fail
  refine call_then (hC.out _) ?_
  intro w2 hb2
  replace hb := below_next hb hb.size hb2
  replace k0 := keeps hb2 k0
  clear hb2 c0 c1 c2 c3 c4 c5
  obtain ⟨c0, c1, c2, c3, c4, c5⟩ := blk6 k0
  go_wp2_with fail
  refine call_then (hO.out _) ?_
  intro w2 hb2
  replace hb := below_next hb hb.size hb2
  replace k0 := keeps hb2 k0
  clear hb2 c0 c1 c2 c3 c4 c5
  obtain ⟨c0, c1, c2, c3, c4, c5⟩ := blk6 k0
  go_wp2_with fail
  refine call_then (hMo.out _) ?_
  intro w2 hb2
  replace hb := below_next hb hb.size hb2
  replace k0 := keeps hb2 k0
  clear hb2 c0 c1 c2 c3 c4 c5
  obtain ⟨c0, c1, c2, c3, c4, c5⟩ := blk6 k0
  clear hC hO hMo
  go_upto_region 10 with (fail)
  have hBw := hb.size
  have hpB := lt_of_get k0
  refine name_wp (fun w3 => Below w.heap.size w w3 ∧ w3.heap[w.heap.size]? = some (.cells #[.int .u8 k, .int .u8 f, .int .i64 b, .int .i64 l, .int .i64 W, .int .i64 c] 31 (0, 0)) ∧ WRow w3 w2.heap.size (xs.take 0 ++ List.replicate (N - 0) 0)) ⟨hb.alloc hb.size _, alloc_keeps k0, by rw [List.take_zero, List.nil_append]; exact wrow_new _ _⟩ ?_
  clear hb k0 hmk c0 c1 c2 c3 c4 c5
  generalize w2.heap.size = g at *
  rintro w3 ⟨hb, k0, hr⟩
  clear w2
  replace hBw := Lib.hid hBw
  replace hpB := Lib.hid hpB
  go_wp2
  go_loopw [39] (fun i wr => ∃ j : Nat, j ≤ N ∧ i = .int .i64 (j : Int) ∧ Below w.heap.size w wr ∧ wr.heap[w.heap.size]? = some (.cells #[.int .u8 k, .int .u8 f, .int .i64 b, .int .i64 l, .int .i64 W, .int .i64 c] 31 (0, 0)) ∧ WRow wr g (xs.take j ++ List.replicate (N - j) 0) ∧ Hid (allLe (T : Int) (xs.take j) = true)) (fun i _ => N - (intOf i).toNat)
  case atStart => exact ⟨0, Nat.zero_le _, rfl, hb, k0, hr, Lib.hid rfl⟩
  case round =>
    clear hb k0 hr
    obtain ⟨j, hj, rfl, hb, k0, hr, hall⟩ := hrel
    obtain ⟨c0, c1, c2, c3, c4, c5⟩ := blk6 k0
    by_cases hlt : j < N
    · have j1 : (j : Int) < (N : Int) := by omega
      have j0 : (0 : Int) ≤ (j : Int) := by omega
      obtain ⟨p, o, rfl, hc0, hc1⟩ := hA.out j (by rw [hl.out]; exact hlt)
      have hd0 := (hb.cell (World.block_lt_of_cell? _ _ hc0)).trans hc0
      have hd1 := (hb.cell (World.block_lt_of_cell? _ _ hc1)).trans hc1
      have hz := hx.out.at_ (k := j) (by rw [hl.out]; exact hlt)
      have hsn := take_snocD (l := xs) (k := j) (by rw [hl.out]; exact hlt)
      have hbad := allLe_of_take (m := (T : Int)) (l := xs) (k := j) (by rw [hl.out]; exact hlt)
      have hset := set_take (xs := xs) (n := N) (k := j) (z := xs.getD j 0) hlt hl.out rfl
      have hlen : j < (xs.take j ++ List.replicate (N - j) 0).length := by rw [List.length_append, List.length_take, List.length_replicate, hl.out]; omega
      generalize xs.getD j 0 = z at *
      have hin := fun w => fin_any f z hf.out hz.1 w
      have hv := val_lohi z
      have hlo := lo_nonneg z
      have hhi := hi_nonneg hz.1
      have hlz := lt_of_get k0
      clear hc0 hc1
      replace hsn := Lib.hid hsn
      replace hbad := Lib.hid hbad
      replace hset := Lib.hid hset
      by_cases hle : z ≤ (T : Int)
      · have hzM' : z < M f := by have := hM.out; omega
        have hzM : decide (z < M f) = true := by simpa using hzM'
        have h0 : hi z = 0 := by unfold hi; omega
        have h1 : lo z = z := by unfold lo; omega
        rw [hzM] at hin
        have n0 : (hi z != 0) = false := by simp [h0]
        have hall2 : Hid (allLe (T : Int) (xs.take (j + 1)) = true) := Lib.hid (by rw [hsn.out, allLe_snoc, hall.out]; simpa using hle)
        have b1 : decide (lo z > (T : Int)) = false := by simp; omega
        have h1' := Lib.hid h1
        replace hin := Lib.hid hin
        clear hle hzM hzM' h0 h1 hv
        have hb3 := hb.alloc hb.size (.cells #[.int .u64 (lo z), .int .u64 (hi z)] 65)
        have k3 := alloc_keeps (o := .cells #[.int .u64 (lo z), .int .u64 (hi z)] 65) k0
        have hr3 := hr.alloc (.cells #[.int .u64 (lo z), .int .u64 (hi z)] 65)
        have kz : (wr.alloc (.cells #[.int .u64 (lo z), .int .u64 (hi z)] 65)).heap[wr.heap.size]? = some (.cells #[.int .u64 (lo z), .int .u64 (hi z)] 65 (0, 0)) := alloc_at rfl
        go_wp2_with fail
        refine call_then (hin.out _) ?_
        intro w4 hw
        replace hb3 := below_next hb3 hb3.size hw
        replace k3 := keeps hw k3
        replace hr3 := hr3.up hw
        replace kz := keeps hw kz
        clear hw hin hb k0 hr c0 c1 c2 c3 c4 c5 hd0 hd1
        generalize wr.heap.size = q at *
        obtain ⟨d0, d1, d2, d3⟩ := blk2 kz
        have r0 := hr3.at_ (k := j) hlen
        have r1 := hr3.free j
        have hr4 := hr3.set (k := j) (lo z)
        rw [h1'.out, hset.out, ← h1'.out] at hr4
        have hb4 := hb3.setCell (p := ⟨g, j, none⟩) hBw.out (.int .u64 (lo z))
        have k4 := store_far (a := ⟨g, j, none⟩) (v := .int .u64 (lo z)) k3 (by have := hpB.out; show w.heap.size ≠ g; omega)
        replace hlen := Lib.hid hlen
        replace hr4 := Lib.hid hr4
        replace hb4 := Lib.hid hb4
        replace k4 := Lib.hid k4
        clear hb3 k3 hr3 kz
        go_wp2
        exact ⟨⟨j + 1, by omega, by go_num, hb4.out, k4.out, hr4.out, hall2⟩, by simp [intOf]; omega⟩
      · have hbd := Lib.hid (hbad.out hle)
        replace hin := Lib.hid hin
        have hfin : Hid (∀ u, u = wr.alloc (.cells #[.int .u64 (lo z), .int .u64 (hi z)] 65) → True) := Lib.hid (fun _ _ => trivial)
        have hb3 := hb.alloc hb.size (.cells #[.int .u64 (lo z), .int .u64 (hi z)] 65)
        have kz : (wr.alloc (.cells #[.int .u64 (lo z), .int .u64 (hi z)] 65)).heap[wr.heap.size]? = some (.cells #[.int .u64 (lo z), .int .u64 (hi z)] 65 (0, 0)) := alloc_at rfl
        by_cases hzM : z < M f
        · have hz2 : decide (z < M f) = true := by simpa using hzM
          replace hin := hin.out
          rw [hz2] at hin
          replace hin := Lib.hid hin
          by_cases h0 : hi z = 0
          · have h1 : lo z = z := by unfold val at hv; omega
            have b1 : decide (lo z > (T : Int)) = true := by simp; omega
            have n0 : (hi z != 0) = false := by simp [h0]
            clear hzM hz2 hv hle
            replace h0 := Lib.hid h0
            replace h1 := Lib.hid h1
            go_wp2_with fail
            refine call_then (hin.out _) ?_
            intro w4 hw
            replace hb3 := below_next hb3 hb3.size hw
            replace kz := keeps hw kz
            clear hw hin hb k0 hr c0 c1 c2 c3 c4 c5 hd0 hd1
            generalize wr.heap.size = q at *
            obtain ⟨d0, d1, d2, d3⟩ := blk2 kz
            go_wp2
            go_ret2
            exact .inr ⟨hbd.out, rfl, hb3⟩
          · have n0 : (hi z != 0) = true := by simpa using h0
            clear hzM hz2 hv hle h0
            go_wp2_with fail
            refine call_then (hin.out _) ?_
            intro w4 hw
            replace hb3 := below_next hb3 hb3.size hw
            replace kz := keeps hw kz
            clear hw hin hb k0 hr c0 c1 c2 c3 c4 c5 hd0 hd1
            generalize wr.heap.size = q at *
            obtain ⟨d0, d1, d2, d3⟩ := blk2 kz
            go_wp2
            go_ret2
            exact .inr ⟨hbd.out, rfl, hb3⟩
        · have hz2 : decide (z < M f) = false := by simpa using hzM
          replace hin := hin.out
          rw [hz2] at hin
          replace hin := Lib.hid hin
          clear hzM hz2 hv hle
          go_wp2_with fail
          refine call_then (hin.out _) ?_
          intro w4 hw
          replace hb3 := below_next hb3 hb3.size hw
          replace kz := keeps hw kz
          clear hw hin hb k0 hr c0 c1 c2 c3 c4 c5 hd0 hd1
          generalize wr.heap.size = q at *
          obtain ⟨d0, d1, d2, d3⟩ := blk2 kz
          go_wp2
          go_ret2
          exact .inr ⟨hbd.out, rfl, hb3⟩
    · obtain rfl : N = j := by omega
      rw [List.take_of_length_le (by rw [hl.out]; exact Nat.le_refl _)] at hall hr
      rw [Nat.sub_self, List.replicate_zero, List.append_nil] at hr
      have j1 : ¬ (N : Int) < (N : Int) := by omega
      go_wp2
      go_ret2
      refine .inl ⟨hall.out, g, by rw [hl.out]; rfl, hb, hBw.out, hr⟩
end Go.Proofs.YtpojhomccmfffaaDoor

/-
  CircuitDecodes: its walk.
-/
namespace Go.Proofs.YtpojhomccmfffaaDoor
open Go.RowKit Flow F
set_option linter.unusedVariables false
set_option linter.unusedSimpArgs false

/-- Decode of any circuit. -/
def DecAny (C : Int) (xs : List Int) (w : World) (e : Ending) (w' : World) : Prop := (C = 0 ∧ DecOut xs w e w') ∨ (C ≠ 0 ∧ DecBad C w e w')
theorem dec_any (x : Ci) (xs : List Int) (A : Option Addr) (N cp : Nat) (many : Int) (hl : xs.length = N) (hx : ElemsOK xs) (w : World) (hA : ElemsAt w A xs) :
    Calls Tryd.prog 66 #[cvl x, .slice A N cp, .int .i64 many] w (DecAny (decE x N xs many) xs w) := by
  unfold decE
  by_cases h0 : x.code = 0
  · rw [if_pos h0]
    have h := Ci.good h0
    by_cases hN : N = x.outN
    · rw [if_pos hN]
      by_cases hm : many < 0 ∨ 256 < many
      · rw [if_pos hm]
        exact (dec_range x A N cp many h hN hm w).mono fun e w' hh => .inr ⟨by omega, hh⟩
      · rw [if_neg hm]
        obtain ⟨m, rfl⟩ := Int.eq_ofNat_of_zero_le (show 0 ≤ many by omega)
        refine (dec_sums x xs A N cp m h hN hl (by omega) hx w hA).mono fun e w' hh => ?_
        rcases hh with ⟨ha, hh⟩ | ⟨ha, hh⟩
        · rw [if_pos ha]; exact .inl ⟨rfl, hh⟩
        · rw [if_neg (by rw [ha]; decide)]; exact .inr ⟨by omega, hh⟩
    · rw [if_neg hN]
      exact (dec_size x A N cp many h hN w).mono fun e w' hh => .inr ⟨by omega, hh⟩
  · rw [if_neg h0]
    exact (dec_code x A N cp many h0 w).mono fun e w' hh => .inr ⟨h0, hh⟩
/-- The cells of a circuit. -/
def ccells (x : Ci) : List Value := [.int .u8 x.k, .int .u8 x.f, .int .i64 x.b, .int .i64 x.l, .int .i64 x.w, .int .i64 x.c]
theorem ccells_one (x : Ci) : ∀ u ∈ ccells x, u.oneCell' = true := one6 _ _ _ _ _ _
def DecU (E : Int) (xs : List Int) (w : World) (e : Ending) (w' : World) : Prop := ∃ (Ag : Option Addr) (l : Nat), e = .returned (.tuple #[.slice Ag l l, .int .i64 E]) ∧ Below w.heap.size w w' ∧ (E ≠ 0 → l = 0) ∧ (E = 0 → l = xs.length ∧ WordsAt w' Ag xs)
theorem DecAny.uni {C : Int} {xs : List Int} {w : World} {e : Ending} {w' : World} (h : DecAny C xs w e w') : DecU C xs w e w' := by
  rcases h with ⟨rfl, g, he, hb, _, hr⟩ | ⟨hC, he, hb⟩
  · exact ⟨some ⟨g, 0, none⟩, xs.length, he, hb, fun h => absurd rfl h, fun _ => ⟨rfl, hr.words⟩⟩
  · exact ⟨none, 0, he, hb, fun _ => rfl, fun h => absurd h hC⟩
theorem most_le {x : Ci} (h : x.Good) : x.mostN ≤ 4294967295 := by
  unfold Ci.mostN
  split
  · have := pow_le32 (b := x.b.toNat) (by have := h.fits.b (by assumption); omega); omega
  · omega
theorem decE_lo {x : Ci} {N : Nat} {xs : List Int} {many : Int} (h : decE x N xs many = 0) (hx : ElemsOK xs) : ∀ k, k < xs.length → lo (xs.getD k 0) = xs.getD k 0 := by
  unfold decE at h
  by_cases h0 : x.code = 0
  · rw [if_pos h0] at h
    by_cases hN : N = x.outN
    · rw [if_pos hN] at h
      by_cases hm : many < 0 ∨ 256 < many
      · rw [if_pos hm] at h; omega
      · rw [if_neg hm] at h
        by_cases ha : allLe (many * (x.mostN : Int)) xs = true
        · intro k hk
          have h1 := hx.at_ hk
          have h2 : xs.getD k 0 ≤ many * (x.mostN : Int) := by
            unfold allLe at ha
            rw [List.all_eq_true] at ha
            rw [List.getD_eq_getElem?_getD, List.getElem?_eq_getElem hk]
            simpa using ha _ (List.getElem_mem hk)
          have h3 : many * (x.mostN : Int) ≤ 256 * 4294967295 := Int.mul_le_mul (by omega) (by have := most_le (Ci.good h0); omega) (by omega) (by omega)
          unfold lo
          omega
        · rw [if_neg ha] at h; omega
    · rw [if_neg hN] at h; omega
  · rw [if_neg h0] at h; exact absurd h h0
/-- Two circuits in a row. -/
def Pair (w : World) (g : Nat) (c X : Ci) : Prop := w.heap[g]? = some (.cells (ccells c ++ ccells X).toArray 31 (0, 0))
theorem Pair.at_ {w : World} {g : Nat} {c X : Ci} (h : Pair w g c X) (n : Nat) (hn : n < 2) : w.rangeAt g (n * 6) (ccells (if n = 0 then c else X)) := fun j v hj => by
  have h' : w.heap[g]? = some (.cells (ccells c ++ ccells X).toArray 31 (0, 0)) := h
  have hj6 : j < 6 := by have := (List.getElem?_eq_some_iff.1 hj).1; simpa [ccells] using this
  simp only [World.cell?, h']
  have hn2 : n = 0 ∨ n = 1 := by omega
  rcases hn2 with rfl | rfl
  · rw [if_pos rfl] at hj
    rw [← hj, List.getElem?_toArray, List.getElem?_append_left (by simp [ccells]; omega)]
    simp
  · rw [if_neg (by omega)] at hj
    rw [← hj, List.getElem?_toArray, List.getElem?_append_right (by simp [ccells])]
    simp [ccells]
def zero6 : List Value := [.int .u8 0, .int .u8 0, .int .i64 0, .int .i64 0, .int .i64 0, .int .i64 0]
def three (m : Int) (i : Nat) : Int := if i = 0 then m else if i = 1 then 3 else 256
end Go.Proofs.YtpojhomccmfffaaDoor
