/-
  A report as a text.
-/
import Derived.Test.YtmnnfecipkdgfaaDoorVwC
namespace Go.Proofs.YtmnnfecipkdgfaaDoor
open Go.RowKit Flow Go.Sort
set_option linter.unusedVariables false
set_option linter.unusedSimpArgs false

def scells (xs : List Int) (t c : Int) : List Value := xs.map (Value.int .u8) ++ [.int .u64 t, .int .i64 c]
def seenv (xs : List Int) (t c : Int) : Value := .agg (scells xs t c).toArray
theorem hexs_size {xs : List Int} {n : Nat} (h : xs.length = n) (h0 : n ≠ 0) : ((hexs xs).size : Int) = 2 * n := by
  unfold hexs
  rw [if_neg (fun e => h0 (by rw [e] at h; exact h.symm)), strOfNums_size, hxl_length, h]
  omega
def atS : ByteArray := ⟨#[32, 97, 116, 32]⟩
def spS : ByteArray := ⟨#[32]⟩
/-- A report's text. -/
def repS (xs : List Int) (t : Nat) (c : Int) : ByteArray := hexs xs ++ ⟨#[32, 97, 116, 32]⟩ ++ prn t ++ ⟨#[32]⟩ ++ cods c
theorem slice_id (b o : Nat) (w : World) : (Instr.sliceAt 23 (.pointer (some ⟨b, o, none⟩)) none none none).run Tryd.prog w = .ok (.slice (some ⟨b, o, none⟩) 16 16) w := by
  rw [run_sliceAt_array_all w 23 ⟨b, o, none⟩ (by kernel_rfl), show (Tryd.prog).elem 23 = 5 by kernel_rfl, Tryd.sizeOf5]
  rfl
/-- A report lies so. -/
structure SeenAt (w : World) (p : Nat) (xs : List Int) (t : Nat) (c : Int) : Prop where
  hid : BytesIn w (some ⟨p, 0, none⟩) xs
  ht : w.cell? ⟨p, 16, none⟩ = some (.int .u64 (t : Int))
  hc : w.cell? ⟨p, 17, none⟩ = some (.int .i64 c)
theorem SeenAt.up {w w' : World} {p : Nat} {xs : List Int} {t : Nat} {c : Int} (h : SeenAt w p xs t c) (hb : Below w.heap.size w w') : SeenAt w' p xs t c :=
  ⟨h.hid.up hb, (hb.cell (World.block_lt_of_cell? _ _ h.ht)).trans h.ht, (hb.cell (World.block_lt_of_cell? _ _ h.hc)).trans h.hc⟩
theorem seen_of {xs : List Int} (hx : xs.length = 16) (t : Nat) (c : Int) {w : World} {p : Nat} (h : w.heap[p]? = some (.cells (scells xs t c).toArray 27 (0, 0))) : SeenAt w p xs t c := by
  unfold scells at h
  refine ⟨fun k hk => ⟨p, 0, rfl, ?_⟩, ?_, ?_⟩
  · simp [World.cell?, h, List.getElem?_append_left, hk]
  · simp [World.cell?, h, hx]
  · simp [World.cell?, h, hx]
theorem seen_box {xs : List Int} (hx : xs.length = 16) (t : Nat) (c : Int) (w : World) : SeenAt (w.alloc (.cells (scells xs t c).toArray 27)) w.heap.size xs t c := seen_of hx t c (alloc_at rfl)
set_option maxRecDepth 20000 in
set_option maxHeartbeats 4000000 in
theorem report_any (xs : List Int) (t : Nat) (c : Int) (hx : xs.length = 16) (bx : ∀ x, x ∈ xs → 0 ≤ x ∧ x < 256) (t1 : t < 18446744073709551616) (c1 : c < 9223372036854775808) (w : World) (hT : Tab w) :
    Calls Tryd.prog 5 #[seenv xs t c] w fun e w' => e = .returned (.string (repS xs t c)) ∧ Below w.heap.size w w' := by
  have hb0 := seen_box hx t c w
  have hhex := Lib.hid (fun p w h => hex_any xs (some ⟨p, 0, none⟩) 16 16 hx (by omega) bx w h)
  have hprn := Lib.hid (fun w h => printed_any t t1 w h)
  have hcod := Lib.hid (fun w h => vcode_any c c1 w h)
  have s1 := hexs_size hx (by omega)
  have s2 := prn_size t1
  have s3 := cods_size c1
  have hT1 := hT.up ((Below.refl _ _).alloc (Nat.le_refl _) (.cells (scells xs t c).toArray 27))
  unfold seenv repS
  generalize hexs xs = S1 at *
  generalize prn t = S2 at *
  generalize cods c = S3 at *
  clear hx bx t1 c1 hT
  go_enter Tryd.func5, Tryd.ntmps5
  go_upto_region 1 with (fail)
  refine name_wp (fun w1 => Below w.heap.size w w1 ∧ SeenAt w1 w.heap.size xs t c ∧ Tab w1) ⟨(Below.refl _ _).alloc (Nat.le_refl _) _, hb0, hT1⟩ ?_
  clear hb0 hT1
  rintro w1 ⟨hb, hs, hT⟩
  refine wp_region_flow0 (by kernel_rfl) (by kernel_rfl) ?_
  intro ι _ φ hφ
  have q1 := fun i => hφ.cell hs.ht i
  have q2 := fun i => hφ.cell hs.hc i
  have hhx := Lib.hid (fun i => hhex.out w.heap.size (φ i) (hs.up (hφ.old i)).hid)
  have hpr := Lib.hid (fun i => hprn.out (φ i) (hT.up (hφ.old i)))
  have hcd := Lib.hid (fun i => hcod.out (φ i) (hT.up (hφ.old i)))
  repeat (go_big_quiet_step ((first
    | (go_at_call 6; exact flow_call hφ (hhx.out _))
    | (go_at_call 7; exact flow_call hφ (hpr.out _))
    | (go_at_call 12; exact flow_call hφ (hcd.out _)))))
  refine wpQuiet_nil ?_
  intro w2 hv
  replace hb := below_next hb hb.size hv
  go_wp2
  go_ret
  exact ⟨rfl, hb⟩
end Go.Proofs.YtmnnfecipkdgfaaDoor
