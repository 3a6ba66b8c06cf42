/-
  A window as a text.
-/
import Derived.Test.YtmnnfecipkdgfaaDoorVwD
namespace Go.Proofs.YtmnnfecipkdgfaaDoor
open Go.RowKit Flow Go.Sort
set_option linter.unusedVariables false
set_option linter.unusedSimpArgs false

def bcells (s : Nat) (A : Option Addr) (n c : Nat) (m : Int) (ys : List Int) (cl : Bool) : List Value := [.int .u64 (s : Int), .slice A n c, .int .i64 m] ++ ys.map (Value.int .u8) ++ [.bool cl]
def buckv (s : Nat) (A : Option Addr) (n c : Nat) (m : Int) (ys : List Int) (cl : Bool) : Value := .agg (bcells s A n c m ys cl).toArray
/-- A window lies so. -/
structure BuckAt (w : World) (p : Nat) (s : Nat) (m : Int) (ys : List Int) (cl : Bool) : Prop where
  hs : w.cell? ⟨p, 0, none⟩ = some (.int .u64 (s : Int))
  hm : w.cell? ⟨p, 2, none⟩ = some (.int .i64 m)
  hy : BytesIn w (some ⟨p, 3, none⟩) ys
  hc : w.cell? ⟨p, 19, none⟩ = some (.bool cl)
theorem BuckAt.up {w w' : World} {p s : Nat} {m : Int} {ys : List Int} {cl : Bool} (h : BuckAt w p s m ys cl) (hb : Below w.heap.size w w') : BuckAt w' p s m ys cl :=
  ⟨(hb.cell (World.block_lt_of_cell? _ _ h.hs)).trans h.hs, (hb.cell (World.block_lt_of_cell? _ _ h.hm)).trans h.hm, h.hy.up hb, (hb.cell (World.block_lt_of_cell? _ _ h.hc)).trans h.hc⟩
theorem buck_of {ys : List Int} (hy : ys.length = 16) (s : Nat) (A : Option Addr) (n c : Nat) (m : Int) (cl : Bool) {w : World} {p : Nat} (h : w.heap[p]? = some (.cells (bcells s A n c m ys cl).toArray 33 (0, 0))) : BuckAt w p s m ys cl := by
  unfold bcells at h
  refine ⟨?_, ?_, fun k hk => ⟨p, 3, rfl, ?_⟩, ?_⟩
  · simp [World.cell?, h]
  · simp [World.cell?, h]
  · simp [World.cell?, h, hk, show 3 + k = k + 1 + 1 + 1 by omega, List.getElem?_append_left]
  · simp [World.cell?, h, hy]
/-- A window's text. -/
def buckS (s : Nat) (m : Int) (ys : List Int) (cl : Bool) : ByteArray :=
  (⟨#[119, 105, 110, 100, 111, 119, 32]⟩ : ByteArray) ++ prn s ++ ⟨#[32, 114, 101, 112, 111, 114, 116, 115, 32]⟩ ++ prn m.toNat ++ (if cl = true then ⟨#[32, 99, 108, 111, 115, 101, 100]⟩ else ⟨#[32, 111, 112, 101, 110]⟩) ++ ⟨#[32, 99, 104, 101, 99, 107, 32]⟩ ++ hexs ys
set_option maxRecDepth 20000 in
set_option maxHeartbeats 4000000 in
theorem bucket_any (s : Nat) (A : Option Addr) (n c : Nat) (m : Int) (ys : List Int) (cl : Bool) (hy : ys.length = 16) (bx : ∀ x, x ∈ ys → 0 ≤ x ∧ x < 256) (s1 : s < 18446744073709551616) (m1 : m < 9223372036854775808) (w : World) (hT : Tab w) :
    Calls Tryd.prog 9 #[buckv s A n c m ys cl] w fun e w' => e = .returned (.string (buckS s m ys cl)) ∧ Below w.heap.size w w' := by
  have hb0 : BuckAt (w.alloc (.cells (bcells s A n c m ys cl).toArray 33)) w.heap.size s m ys cl := buck_of hy s A n c m cl (alloc_at rfl)
  have hhex := Lib.hid (fun p w h => hex_any ys (some ⟨p, 3, none⟩) 16 16 hy (by omega) bx w h)
  have hprn := Lib.hid (fun w h => printed_any s s1 w h)
  have hnum := Lib.hid (fun w h => number_any m m1 w h)
  have z1 := hexs_size hy (by omega)
  have z2 := prn_size s1
  have z3 := prn_size (u := m.toNat) (by omega)
  have hT1 := hT.up ((Below.refl _ _).alloc (Nat.le_refl _) (.cells (bcells s A n c m ys cl).toArray 33))
  unfold buckv buckS
  generalize hexs ys = S1 at *
  generalize prn s = S2 at *
  generalize prn m.toNat = S3 at *
  clear hy bx s1 m1 hT
  cases cl with
  | false =>
    simp only [Bool.false_eq_true, if_false]
    go_enter Tryd.func9, Tryd.ntmps9
    go_upto_region 1 with (fail)
    refine name_wp (fun w1 => Below w.heap.size w w1 ∧ BuckAt w1 w.heap.size s m ys false ∧ Tab w1) ⟨(Below.refl _ _).alloc (Nat.le_refl _) _, hb0, hT1⟩ ?_
    clear hb0 hT1
    rintro w1 ⟨hb, hs, hT⟩
    have e1 := hs.hc
    go_wp2
    clear e1
    refine wp_region_flow0 (by kernel_rfl) (by kernel_rfl) ?_
    intro ι _ φ hφ
    have q1 := fun i => hφ.cell hs.hs i
    have q2 := fun i => hφ.cell hs.hm i
    have hhx := Lib.hid (fun i => hhex.out w.heap.size (φ i) (hs.up (hφ.old i)).hy)
    have hpr := Lib.hid (fun i => hprn.out (φ i) (hT.up (hφ.old i)))
    have hnu := Lib.hid (fun i => hnum.out (φ i) (hT.up (hφ.old i)))
    repeat (go_big_quiet_step ((first
      | (go_at_call 6; exact flow_call hφ (hhx.out _))
      | (go_at_call 7; exact flow_call hφ (hpr.out _))
      | (go_at_call 14; exact flow_call hφ (hnu.out _)))))
    refine wpQuiet_nil ?_
    intro w2 hv
    replace hb := below_next hb hb.size hv
    go_wp2
    go_ret
    exact ⟨rfl, hb⟩
  | true =>
    simp only [if_true]
    go_enter Tryd.func9, Tryd.ntmps9
    go_upto_region 1 with (fail)
    refine name_wp (fun w1 => Below w.heap.size w w1 ∧ BuckAt w1 w.heap.size s m ys true ∧ Tab w1) ⟨(Below.refl _ _).alloc (Nat.le_refl _) _, hb0, hT1⟩ ?_
    clear hb0 hT1
    rintro w1 ⟨hb, hs, hT⟩
    have e1 := hs.hc
    go_wp2
    clear e1
    refine wp_region_flow0 (by kernel_rfl) (by kernel_rfl) ?_
    intro ι _ φ hφ
    have q1 := fun i => hφ.cell hs.hs i
    have q2 := fun i => hφ.cell hs.hm i
    have hhx := Lib.hid (fun i => hhex.out w.heap.size (φ i) (hs.up (hφ.old i)).hy)
    have hpr := Lib.hid (fun i => hprn.out (φ i) (hT.up (hφ.old i)))
    have hnu := Lib.hid (fun i => hnum.out (φ i) (hT.up (hφ.old i)))
    repeat (go_big_quiet_step ((first
      | (go_at_call 6; exact flow_call hφ (hhx.out _))
      | (go_at_call 7; exact flow_call hφ (hpr.out _))
      | (go_at_call 14; exact flow_call hφ (hnu.out _)))))
    refine wpQuiet_nil ?_
    intro w2 hv
    replace hb := below_next hb hb.size hv
    go_wp2
    go_ret
    exact ⟨rfl, hb⟩
end Go.Proofs.YtmnnfecipkdgfaaDoor
