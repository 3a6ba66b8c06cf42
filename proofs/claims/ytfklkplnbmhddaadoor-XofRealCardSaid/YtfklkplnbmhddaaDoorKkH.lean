/-
  The sponge: a page turned, a byte brought to a place.
-/
import Derived.Test.YtfklkplnbmhddaaDoorKkC
namespace Go.Proofs.YtfklkplnbmhddaaDoor
open Go.RowKit Flow
set_option linter.unusedVariables false
set_option linter.unusedSimpArgs false

/-- What a sponge has beside its state. -/
def spt (at' : Nat) (d : Int) (g : Bool) : List Value := [.int .i64 ((at' : Nat) : Int), .int .u8 d, .bool g]
/-- A page is turned, where it is used up. -/
def turnF (s : (Nat → Nat) × Nat) : (Nat → Nat) × Nat := if s.2 = 168 then (permP s.1 12, 0) else s
/-- A byte is brought to a place. -/
def addF (f : Nat → Nat) (at' c : Nat) : Nat → Nat := upd f (at' / 8) (f (at' / 8) ^^^ c * 2 ^ (8 * (at' % 8)))
theorem turnF_lim {s : (Nat → Nat) × Nat} (h : Lim s.1) : Lim (turnF s).1 := by
  unfold turnF
  split
  · exact permP_lim h 12
  · exact h
theorem mul_lim {at' c : Nat} (hc : c < 256) : c * 2 ^ (8 * (at' % 8)) < 18446744073709551616 := by
  have h1 : (2 : Nat) ^ (8 * (at' % 8)) ≤ 2 ^ 56 := Nat.pow_le_pow_right (by decide) (by omega)
  have : c * 2 ^ (8 * (at' % 8)) ≤ 255 * 2 ^ 56 := Nat.mul_le_mul (by omega) h1
  omega
theorem addF_lim {f : Nat → Nat} {at' c : Nat} (h : Lim f) (ha : at' < 200) (hc : c < 256) : Lim (addF f at' c) := upd_lim h (xor_lim (h _ (by omega)) (mul_lim hc))
/-- A sponge was changed, and nothing else that was there. -/
def Sponged (w : World) (b : Nat) (f : Nat → Nat) (at' : Nat) (d : Int) (g : Bool) (e : Ending) (w' : World) : Prop := e = .returned (.tuple #[]) ∧ But b w w' ∧ Sta w' b 91 (spt at' d g) f
set_option maxHeartbeats 1000000 in
theorem turn_ok (b : Nat) (hb1 : 1 < b) (f : Nat → Nat) (at' : Nat) (d : Int) (g : Bool) (hf : Lim f) (w : World) (h : Sta w b 91 (spt at' d g) f) (hT : Tabs w) : Calls Tryd.prog 37 #[.pointer (some ⟨b, 0, none⟩)] w (Sponged w b (turnF (f, at')).1 (turnF (f, at')).2 d g) := by
  have c25 := h.tail (i := 0) (v := .int .i64 ((at' : Nat) : Int)) rfl
  by_cases he : at' = 168
  · have ht : turnF (f, at') = (permP f 12, 0) := by unfold turnF; rw [if_pos he]
    rw [ht]
    subst he
    have hP := Lib.hid (permute_ok b hb1 91 (spt 168 d g) f hf w h hT)
    clear h hT hf ht
    go_enter Tryd.func37, Tryd.ntmps37
    go_wp2_with fail
    refine hP.out.mono ?_
    rintro e w1 ⟨rfl, hbut, hs⟩
    have q0 := hs.tail (i := 0) (v := .int .i64 ((168 : Nat) : Int)) rfl
    have q1 : w1.frozen? ⟨b, 25, none⟩ = false := hs.free
    have hst := hs.setTail (k := 0) (.int .i64 ((0 : Nat) : Int))
    clear hP c25
    go_wp2
    go_end0
    exact ⟨rfl, hbut.set _, hst⟩
  · have ht : turnF (f, at') = (f, at') := by unfold turnF; rw [if_neg he]
    rw [ht]
    have hne : (((at' : Nat) : Int) == 168) = false := by rw [beq_eq_false_iff_ne]; omega
    replace he := Lib.hid he
    clear ht
    go_enter Tryd.func37, Tryd.ntmps37
    go_wp2
    go_end0
    exact ⟨rfl, But.refl _ _, h⟩
set_option maxHeartbeats 1000000 in
theorem add_ok (b : Nat) (f : Nat → Nat) (at' c : Nat) (d : Int) (g : Bool) (A : Nat) (ha : at' < 200) (hc : c < 256) (hf : Lim f) (w : World) (h : Sta w b 91 (spt A d g) f) : Calls Tryd.prog 38 #[.pointer (some ⟨b, 0, none⟩), .int .i64 ((at' : Nat) : Int), .int .u8 ((c : Nat) : Int)] w (Sponged w b (addF f at' c) A d g) := by
  have a0 : (0 : Int) ≤ (at' : Int) := by omega
  have a1 : (at' : Int) < 200 := by omega
  have cc0 : (0 : Int) ≤ (c : Int) := by omega
  have cc1 : (c : Int) < 256 := by omega
  have hj : at' / 8 < 25 := by omega
  have c0 := h.cell hj
  obtain ⟨M, hM⟩ : ∃ M, c * 2 ^ (8 * (at' % 8)) = M := ⟨_, rfl⟩
  have hMl : M < 18446744073709551616 := by rw [← hM]; exact mul_lim hc
  have hm : IntKind.u64.wrap ((c : Int) * 2 ^ (8 * (at' % 8))) = (M : Int) := by
    have e : ((c : Int) * 2 ^ (8 * (at' % 8))) = (M : Int) := by rw [← hM]; simp
    rw [e, IntKind.wrap_u64]
    omega
  have hx := xor_nat (hf _ hj) hMl
  have hres : addF f at' c = upd f (at' / 8) (f (at' / 8) ^^^ M) := by unfold addF; rw [hM]
  rw [hres]
  obtain ⟨V, hV⟩ : ∃ V, f (at' / 8) ^^^ M = V := ⟨_, rfl⟩
  rw [hV] at hx ⊢
  clear hres hf
  replace hV := Lib.hid hV
  replace hM := Lib.hid hM
  replace hMl := Lib.hid hMl
  go_enter Tryd.func38, Tryd.ntmps38
  go_wp2
  refine wp_region_flow1 18 (by kernel_rfl) (by kernel_rfl) (by kernel_rfl) ?_
  apply Exists.intro
  refine ⟨fun ι _ φ hφ => ?_, fun wt hwt => ?_⟩
  · have b0 := hφ.cell c0
    simp only [List.take_succ_cons, List.take_zero]
    repeat (go_big_quiet_step (fail))
    exact wpQuiet_nil rfl
  replace h := h.up hwt
  have q0 := h.cell hj
  have q1 : wt.frozen? ⟨b, at' / 8, none⟩ = false := h.free
  have hst := h.set hj V
  have hbb := (But.of_below (p := b) hwt).set (o := at' / 8) (.int .u64 ((V : Nat) : Int))
  clear hwt c0
  simp only [List.drop_succ_cons, List.drop_zero]
  go_wp2
  go_end0
  exact ⟨rfl, hbb, hst⟩
end Go.Proofs.YtfklkplnbmhddaaDoor
