/-
  A number as a text.
-/
import Derived.Test.YtmnnfecipkdgfaaDoorSeg
import Derived.Test.YtmnnfecipkdgfaaDoorCard
import Derived.Test.YtmnnfecipkdgfaaDoorShelf
import Derived.Lib.AppendIntMem
import Derived.Lib.ItoaMem
import Derived.Lib.LaidTab
import Derived.Laws.IdiomStrings
import Derived.WalkLawsBesides
namespace Go.Proofs.YtmnnfecipkdgfaaDoor
open Go.RowKit Flow Go.Sort
set_option linter.unusedVariables false
set_option linter.unusedSimpArgs false

/-- The table that is read. -/
def Tab (w : World) : Prop := Lib.TabIs Tryd.prog w "internal/strconv.uint64pow10" .u64 Lib.pow10Tab
theorem Tab.up {w w' : World} (h : Tab w) (hb : Below w.heap.size w w') : Tab w' := by
  unfold Tab Lib.TabIs World.var? at *
  cases hg : Tryd.prog.globalNamed "internal/strconv.uint64pow10" with
  | none => simp [hg] at h
  | some g =>
    simp only [hg, Option.bind_some] at h ⊢
    have hlt : g < w.heap.size := by
      rcases Nat.lt_or_ge g w.heap.size with h1 | h1
      · exact h1
      · rw [Array.getElem?_eq_none h1] at h
        cases h
    rw [hb.block g hlt]
    exact h
/-- A number's numeral. -/
def prn (u : Nat) : ByteArray := ⟨(Lib.decDigits u).toArray⟩
set_option maxRecDepth 20000 in
set_option maxHeartbeats 4000000 in
theorem format_any (u : Nat) (hu64 : u < 18446744073709551616) (w : World) (ht : Tab w) : Calls Tryd.prog 15 #[.int .u64 (u : Int), .int .i64 10] w fun e w' => e = .returned (.string (prn u)) ∧ Below w.heap.size w w' := by
  by_cases hs : u < 100
  · have hsm := Lib.hid (fun w => Tryd.internal_strconv_small u hs w)
    have i0 : (0 : Int) ≤ (u : Int) := by omega
    have i1 : (u : Int) < 100 := by omega
    have zq : IntKind.i64.wrap (u : Int) = (u : Int) := by rw [IntKind.wrap_i64]; omega
    unfold prn
    clear hs hu64
    go_enter Tryd.func15, Tryd.ntmps15
    go_wp2_with fail
    refine (hsm.out _).mono ?_
    rintro e w' ⟨rfl, rfl⟩
    go_wp2
    go_ret
    exact ⟨rfl, Below.refl _ _⟩
  · have hu1 : 1 ≤ u := by omega
    have hnd20 : Lib.nDigits u ≤ 20 := by have := Lib.numDigits_eq u hu1 hu64; split at this <;> omega
    have hal : Tryd.prog.arrayLen 49 = 24 := by kernel_rfl
    have hsl1 : ∀ W, (Instr.sliceAt 49 (.pointer (some ⟨w.heap.size, 0, none⟩)) none (some (.int .i64 (Lib.nDigits u : Int))) none).run Tryd.prog W = .ok (.slice (some ⟨w.heap.size, 0, none⟩) (Lib.nDigits u) 24) W := fun W => by
      rw [run_sliceAt_array_h W 49 ⟨w.heap.size, 0, none⟩ (by kernel_rfl) .i64 (Lib.nDigits u : Int) (by omega) (by rw [hal]; omega)]
      rw [hal, Int.toNat_natCast, show (Tryd.prog).elem 49 = 5 by kernel_rfl, Tryd.sizeOf5]
      simp [slicedAt, Addr.add]
    have hH0 := Lib.holds_zero0 w 49 (Lib.nDigits u) (by omega)
    have hfmt := Tryd.internal_strconv_formatBase10 w.heap.size 0 24 u (Array.replicate (Lib.nDigits u) 0) (w.alloc (.cells Lib.zeros24 49)) hH0 (by rw [Array.size_replicate]; exact Lib.lt_pow_nDigits u) hu64 (by rw [Array.size_replicate]; omega)
    rw [Array.size_replicate] at hfmt
    have hnum := Tryd.internal_strconv_numDigits u hu1 hu64 (w.alloc (.cells Lib.zeros24 49)) (Lib.tabIs_alloc ht _)
    have HH0 := Lib.hid hH0
    replace hfmt := Lib.hid hfmt
    replace hnum := Lib.hid hnum
    have hi : ¬ (u : Int) < 100 := by omega
    have hd := Lib.decDigits_length u
    replace hd := Lib.hid hd
    have hs' := Lib.hid hs
    have hnd := Lib.hid hnd20
    clear hH0 hal hu1 hu64 hs hnd20
    generalize hN : Lib.nDigits u = N at *
    replace hN := Lib.hid hN
    unfold prn
    go_enter Tryd.func15, Tryd.ntmps15
    go_wp2_with fail
    refine hnum.out.mono ?_
    rintro e w' ⟨rfl, rfl⟩
    go_wp2_with fail
    refine hfmt.out.mono ?_
    rintro e w' ⟨rfl, k, v', dk, rfl, hF⟩
    have hcv : (convert 40 9 (.slice (some ⟨w.heap.size, 0, none⟩) N 24)).run Tryd.prog ((putRow (fun (b : UInt8) => Value.int .u8 (b.toNat : Int)) (w.alloc (.cells Lib.zeros24 49)) w.heap.size 0 dk).drewN k) = .ok (.string ⟨(Lib.decDigits u).toArray⟩) ((putRow (fun (b : UInt8) => Value.int .u8 (b.toNat : Int)) (w.alloc (.cells Lib.zeros24 49)) w.heap.size 0 dk).drewN k) := by
      rw [← hN.out] at hF HH0 ⊢
      have h := run_convert_bytes_back (P := Tryd.prog) ((putRow (fun (b : UInt8) => Value.int .u8 (b.toNat : Int)) (w.alloc (.cells Lib.zeros24 49)) w.heap.size 0 dk).drewN k) 40 9 5 ⟨w.heap.size, 0, none⟩ 24 (Lib.decDigits u) Tryd.underlying40 Tryd.underlying5 Tryd.underlying9 (fun j hj => by
        rw [Lib.row_is_numeral hF j hj, Lib.add_plain, World.cell?_drewN]
        exact cell?_putRow (fun (b : UInt8) => Value.int .u8 (b.toNat : Int)) _ w.heap.size 0 _ dk HH0.out (by rw [hF.size, Array.size_replicate]) j (by rw [hF.size]; rw [Lib.decDigits_length] at hj; exact hj))
      rw [Lib.decDigits_length] at h
      exact h
    obtain ⟨os, eo⟩ := Lib.fin_at w (.cells Lib.zeros24 49) dk k 0
    have hb9 := Lib.hid (show Below w.heap.size w ((putRow (fun (b : UInt8) => Value.int .u8 (b.toNat : Int)) (w.alloc (.cells Lib.zeros24 49)) w.heap.size 0 dk).drewN k) by rw [eo]; exact Lib.below_grow _ w (Nat.le_refl _) k os)
    clear eo
    go_wp2
    go_ret
    exact ⟨rfl, hb9.out⟩
theorem sformat_any (u : Nat) (hu64 : u < 18446744073709551616) (w : World) (ht : Tab w) : Calls Tryd.prog 13 #[.int .u64 (u : Int), .int .i64 10] w fun e w' => e = .returned (.string (prn u)) ∧ Below w.heap.size w w' := by
  have hc := Lib.hid (format_any u hu64 w ht)
  generalize prn u = s at *
  clear hu64 ht
  go_enter Tryd.func13, Tryd.ntmps13
  go_wp2_with fail
  refine hc.out.mono ?_
  rintro e w' ⟨rfl, hb⟩
  go_wp2
  go_ret
  exact ⟨rfl, hb⟩
theorem printed_any (u : Nat) (hu64 : u < 18446744073709551616) (w : World) (ht : Tab w) : Calls Tryd.prog 7 #[.int .u64 (u : Int)] w fun e w' => e = .returned (.string (prn u)) ∧ Below w.heap.size w w' := by
  have hc := Lib.hid (sformat_any u hu64 w ht)
  generalize prn u = s at *
  clear hu64 ht
  go_enter Tryd.func7, Tryd.ntmps7
  go_wp2_with fail
  refine hc.out.mono ?_
  rintro e w' ⟨rfl, hb⟩
  go_wp2
  go_ret
  exact ⟨rfl, hb⟩
end Go.Proofs.YtmnnfecipkdgfaaDoor
