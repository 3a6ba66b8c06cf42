/-
  CircuitEncodes, proved: any numbers, of any circuit and of any small one, as a vector, or the error that the document asks; what of it is summed, and that it is right; for any six numbers of a circuit, any small ones and any list, with no condition.
-/
import Derived.Test.YtgdokfchfgnbbaaCkC
import Derived.Test.YtgdokfchfgnbbaaCjN
namespace Go.Proofs.Ytgdokfchfgnbbaa
open Go.RowKit Go.WideShapes Go.ChangeShapes F Flow
set_option linter.unusedVariables false

theorem cells_word : (Try.prog).cellsOf 43 = 1 := by kernel_rfl
set_option maxRecDepth 20000 in
theorem open_words {H : Type} {enc : TypeId × Value → H} {w : World} {base : Nat} {spare : Nat → Bool} {held : Bool} {v : Value} {d : DataW H} {p : List MemPlace} {r : Reach} {b0 : Nat}
    (hv : Value.okWide Try.prog w r b0 46 v) (h : DataW.Trod enc Try.prog w base spare held 46 v d p) :
    ∃ (A : Option Addr) (xs : List Int) (c : Nat), v = .slice A xs.length c ∧ xs.length ≤ c ∧ c ≤ maxLen ∧ WordsAt w A xs ∧ WordsOK xs := by
  obtain ⟨a0, len0, cap0, rfl⟩ := okWide_slice Try.underlying46 hv
  obtain ⟨fuel, h⟩ := h
  rcases Go.Deep.open_slice Try.underlying46 h with ⟨hc, _⟩ | ⟨a, len, cap, m, n, D, Pl, hcs, hb, hl, hm, hmm, hx, hel⟩
  · have hv : Value.slice a0 len0 cap0 = .slice none 0 0 := by simpa [Value.cells] using hc
    rw [hv]
    exact ⟨none, [], 0, rfl, Nat.le_refl _, Nat.zero_le _, fun k hk => absurd hk (Nat.not_lt_zero _), fun x hx => by cases hx⟩
  · have hv : Value.slice a0 len0 cap0 = .slice (some a) len cap := by simpa [Value.cells] using hcs
    rw [hv]
    have hlm : len ≤ m := by rw [hmm]; split <;> omega
    have key : ∀ i, i < len → ∃ x : Int, (0 ≤ x ∧ x < 18446744073709551616) ∧ w.cell? (a.add i) = some (.int .u64 x) := by
      intro i hil
      obtain ⟨cs', hc, ht⟩ := hel i (by omega)
      rw [cells_word] at hc
      obtain ⟨x0, e0, _, w0⟩ := DataW.trod_int Try.underlying43 ht
      subst e0
      obtain ⟨_, _, hat⟩ := World.cells?_some hc
      have g0 := hat 0 (by omega)
      rw [Go.Deep.add_add, Nat.mul_one, Nat.add_zero] at g0
      refine ⟨x0, ?_, g0⟩
      simp [Lit.wf, IntKind.min, IntKind.max, IntKind.signed, IntKind.bits] at w0
      omega
    obtain ⟨f, hf⟩ := Go.Deep.choose_lt key
    refine ⟨some a, (List.range len).map f, cap, by simp, by simpa using hl, hm, fun k hk => ?_, fun x hx => ?_⟩
    · have hk' : k < len := by simpa using hk
      obtain ⟨_, g0⟩ := hf k hk'
      have hs := spot_none (hf 0 (by omega)).2
      obtain ⟨b, o, sp⟩ := a
      simp only at hs
      subst hs
      rw [add_two rfl] at g0
      have e : ((List.range len).map f).getD k 0 = f k := by simp [hk']
      rw [e]
      exact ⟨b, o, rfl, g0⟩
    · obtain ⟨i, him, rfl⟩ := List.mem_map.1 hx
      exact (hf i (List.mem_range.1 him)).1

theorem own_circuitEncodes : ownKnob Try.prog.godebug = none := by kernel_rfl
set_option maxRecDepth 100000 in
theorem lifted_circuitEncodes (os : Os) (started : os.Started) (H : Type) (enc : TypeId × Value → H) :
    ReturnsInHanded {} Try.checked os 4 .any (Rows.circuitEncodesSpec.pre6 enc Try.prog Try.f4 Rows.circuitEncodesRow.domain false) (Rows.circuitEncodesSpec.post enc Try.prog Try.f4 false true false false) := by
  refine returnsInHanded_of_change (C := Try.checked) own_circuitEncodes started (by kernel_rfl) Try.func4
    (ChangeSpec.witness6 (enc := enc) (C := Try.checked) false ⟨#[], #[.agg #[.int .u8 0, .int .u8 0, .int .i64 0, .int .i64 0, .int .i64 0, .int .i64 0], .agg #[.int .u8 0, .int .u8 0, .int .u8 0, .int .u8 0, .int .u8 0, .int .u8 0], .slice none 0 0], []⟩ 8 (by kernel_rfl) (by kernel_rfl) (by kernel_rfl) (by kernel_rfl)) ?_
  intro W base args ds gs before hval0 hW hcnd _
  have hval : ∀ (j : Nat) t v, Try.f4.params[j]? = some t → args[j]? = some v → Value.okWide Try.prog W .any base t v := hval0
  have hW' := hW
  obtain ⟨p, q, hA0, hV, rfl, hfz, hnd⟩ := hW
  have hA : DataW.TrodAll enc Try.prog W 0 (fun _ => true) true Try.f4.params.toList args.toList ds p := hA0
  rw [Try.params4] at hA hval
  clear hA0 hval0
  obtain ⟨v0, vs0, d0, ds0, p0, q0, hargs, rfl, rfl, h0, r0⟩ := trodAll_cons hA
  obtain ⟨v1, vs1, d1, ds1, p1, q1, rfl, rfl, rfl, h1, r1⟩ := trodAll_cons r0
  obtain ⟨v2, vs2, d2, ds2, p2, q2, rfl, rfl, rfl, h2, r2⟩ := trodAll_cons r1
  obtain ⟨rfl, rfl, rfl⟩ := trodAll_nil r2
  obtain rfl : args = #[v0, v1, v2] := by cases args; simp_all
  obtain ⟨rfl, rfl⟩ := trodVars_none hV
  obtain ⟨x0, rfl, ck0, ck1, cf0, cf1⟩ := open_circuit (hval 0 25 v0 rfl rfl) h0
  obtain ⟨K, F', B, L, W', C, rfl, s⟩ := open_small (hval 1 27 v1 rfl rfl) h1
  obtain ⟨A2, x2, c2, rfl, l2, m2, e2, o2⟩ := open_words (hval 2 46 v2 rfl rfl) h2
  refine (encodes_walk x0 K F' B L W' C x2 A2 x2.length c2 rfl (Nat.le_trans l2 m2) o2 ck0 ck1 cf0 cf1 s.k0 s.k1 s.f0 s.f1 s.b0 s.b1 s.l0 s.l1 s.w0 s.w1 s.c0 s.c1 W e2).mono fun e W' ⟨he, hb⟩ => ?_
  subst he
  exact ⟨_, rfl, law_true (by decide +kernel) rfl rfl Try.underlying4 hW' rfl hb⟩
theorem over_circuitEncodes : Rows.circuitEncodesRow.holds Try.pinned (OpenSpec.ofChange Rows.circuitEncodesSpec) :=
  OpenClaim.holds_of_wide 4 Try.f4 rfl rfl rfl rfl rfl rfl rfl ⟨rfl, rfl, rfl, rfl, rfl⟩ rfl rfl rfl rfl rfl (by kernel_rfl) Try.func4 (by kernel_rfl)
    (of_decide_eq_true (by kernel_rfl)) (by unfold Func.isWrapper; first | (rw [if_pos (by decide +kernel)]; kernel_rfl) | (rw [if_neg (by decide +kernel)]; exact ⟨rfl, rfl⟩))
    (fun os started H enc _ => lifted_circuitEncodes os started H enc)
theorem circuitEncodes_proved : Rows.CircuitEncodesSaid := over_circuitEncodes
#print axioms circuitEncodes_proved
end Go.Proofs.Ytgdokfchfgnbbaa
