/-
  An array of whole numbers as an argument: opened, and shut.
-/
import Derived.Test.YtehjfilnfpkjkaaRows
import Derived.WalkKit
import Derived.ProofKit
import Derived.OpenShut
namespace Go.Proofs.Ytehjfilnfpkjkaa
open Go.RowKit Go.WideShapes Go.ChangeShapes
section
variable {H : Type} {enc : TypeId × Value → H} {P : Program} {w : World} {base : Nat} {spare : Nat → Bool} {held : Bool}
theorem okWide_array {t e : TypeId} {n : Nat} {r : Reach} {b0 : Nat} {v : Value} (ht : P.underlying t = some (.array n e)) (h : Value.okWide P w r b0 t v) : ∃ cs, v = .agg cs ∧ cs.size = P.cellsOf t := by
  simp only [Value.okWide, ht] at h
  obtain ⟨cs, h1, h2, _⟩ := h
  exact ⟨cs, h1, h2⟩

theorem mapM_ints {k : IntKind} {m : Nat} {e : TypeId} (he : P.underlying e = some (.int k)) : ∀ (cs : List Value) (f : Nat → Option (DataW H × List MemPlace)) (j : Nat) (xs : List (DataW H × List MemPlace)),
    (∀ i c, cs[i]? = some c → f (j + i) = DataW.trod enc P w base spare held m e [c]) → (List.range' j cs.length).mapM f = some xs →
    ∃ zs : List Int, cs = zs.map (.int k) ∧ xs.map (·.1) = zs.map (fun z => .lit (.int k z)) ∧ xs.flatMap (·.2) = [] ∧ ∀ z, z ∈ zs → (Lit.int k z).wf = true
  | [], f, j, xs, _, h => by
    simp at h
    subst h
    exact ⟨[], rfl, rfl, rfl, fun _ h => by cases h⟩
  | c :: cs, f, j, xs, hf, h => by
    rw [List.length_cons, List.range'_succ, List.mapM_cons] at h
    have h0 := hf 0 c rfl
    rw [Nat.add_zero] at h0
    rw [h0] at h
    cases hc : DataW.trod enc P w base spare held m e [c] with
    | none => rw [hc] at h; simp at h
    | some y =>
      rw [hc] at h
      cases hr : (List.range' (j + 1) cs.length).mapM f with
      | none => rw [hr] at h; simp at h
      | some ys =>
        rw [hr] at h
        simp at h
        subst h
        obtain ⟨zs, h1, h2, h3, h4⟩ := mapM_ints he cs f (j + 1) ys (fun i c hi => by rw [← hf (i + 1) c (by simpa using hi)]; congr 1; omega) hr
        obtain ⟨z, e0, rfl, wz⟩ := DataW.trod_int he hc
        simp at e0
        subst e0
        refine ⟨z :: zs, by rw [h1]; rfl, by simp [h2], by simp [h3], fun x hx => ?_⟩
        rcases List.mem_cons.1 hx with rfl | hx
        · exact wz
        · exact h4 x hx

/-- An array of whole numbers, opened. -/
theorem open_int_array {k : IntKind} {n : Nat} {t e : TypeId} {r : Reach} {b0 : Nat} {v : Value} {d : DataW H} {p : List MemPlace} (ht : P.underlying t = some (.array n e)) (he : P.underlying e = some (.int k)) (hce : P.cellsOf e = 1) (hC : P.cellsOf t = n)
    (hv : Value.okWide P w r b0 t v) (h : DataW.Trod enc P w base spare held t v d p) :
    ∃ zs : List Int, zs.length = n ∧ v = .agg (zs.map (.int k)).toArray ∧ d = .agg (zs.map fun z => .lit (.int k z)) ∧ p = [] ∧ ∀ z, z ∈ zs → (Lit.int k z).wf = true := by
  obtain ⟨cs, rfl, hsz⟩ := okWide_array ht hv
  obtain ⟨fuel, hf⟩ := h
  obtain ⟨cs⟩ := cs
  have hlen : cs.length = n := by simpa using hsz.trans hC
  cases fuel with
  | zero => simp [DataW.trod] at hf
  | succ m =>
    unfold DataW.trod at hf
    rw [ht] at hf
    simp [Value.cells, hC, hlen, hce] at hf
    obtain ⟨xs, hx, hd, hp⟩ := hf
    rw [List.range_eq_range', ← hlen] at hx
    obtain ⟨zs, h1, h2, h3, h4⟩ := mapM_ints (k := k) (m := m) (e := e) he cs _ 0 xs (fun i c hi => by
      rw [Nat.zero_add]
      congr 1
      have hi' := (List.getElem?_eq_some_iff.1 hi)
      obtain ⟨hl, hc⟩ := hi'
      rw [List.drop_eq_getElem_cons hl, hc, List.take_succ_cons, List.take_zero]) hx
    refine ⟨zs, by rw [← hlen, h1, List.length_map], by rw [h1], ?_, ?_, h4⟩
    · rw [← hd]; congr 1
    · rw [← hp]; exact h3

theorem mapM_ints_mk {k : IntKind} {m : Nat} {e : TypeId} (he : P.underlying e = some (.int k)) : ∀ (zs : List Int) (f : Nat → Option (DataW H × List MemPlace)) (j : Nat),
    (∀ i z, zs[i]? = some z → f (j + i) = DataW.trod enc P w base spare held (m + 1) e [.int k z]) → (∀ z, z ∈ zs → (Lit.int k z).wf = true) →
    (List.range' j zs.length).mapM f = some (zs.map fun z => (.lit (.int k z), []))
  | [], f, j, _, _ => rfl
  | z :: zs, f, j, hf, hw => by
    rw [List.length_cons, List.range'_succ, List.mapM_cons]
    have h0 := hf 0 z rfl
    rw [Nat.add_zero] at h0
    rw [h0, mapM_ints_mk he zs f (j + 1) (fun i z hi => by rw [← hf (i + 1) z (by simpa using hi)]; congr 1; omega) (fun z hz => hw z (List.mem_cons_of_mem _ hz))]
    have hz : DataW.trod enc P w base spare held (m + 1) e [.int k z] = some (.lit (.int k z), []) := by simp [DataW.trod, he, hw z List.mem_cons_self]
    rw [hz]
    rfl
/-- An array of whole numbers, shut. -/
theorem shut_int_array {k : IntKind} {n : Nat} {t e : TypeId} {zs : List Int} (ht : P.underlying t = some (.array n e)) (he : P.underlying e = some (.int k)) (hce : P.cellsOf e = 1) (hC : P.cellsOf t = n) (hn : zs.length = n)
    (hw : ∀ z, z ∈ zs → (Lit.int k z).wf = true) :
    DataW.Trod enc P w base spare held t (.agg (zs.map (.int k)).toArray) (.agg (zs.map fun z => .lit (.int k z))) [] := by
  refine ⟨2, ?_⟩
  unfold DataW.trod
  rw [ht]
  show (if (zs.map (Value.int k)).length = P.cellsOf t then Option.map _ ((List.range n).mapM fun i => DataW.trod enc P w base spare held 1 e (((zs.map (Value.int k)).drop (i * P.cellsOf e)).take (P.cellsOf e))) else none) = _
  rw [if_pos (by simp [hC, hn]), List.range_eq_range', ← hn]
  have hm := mapM_ints_mk (enc := enc) (P := P) (w := w) (base := base) (spare := spare) (held := held) (k := k) (m := 0) he zs
    (fun i => DataW.trod enc P w base spare held 1 e (((zs.map (Value.int k)).drop (i * P.cellsOf e)).take (P.cellsOf e))) 0 (fun i z hi => by
      rw [Nat.zero_add, hce, Nat.mul_one]
      congr 1
      have hi' : (zs.map (Value.int k))[i]? = some (.int k z) := by simp [hi]
      obtain ⟨hl, hc⟩ := (List.getElem?_eq_some_iff.1 hi')
      rw [List.drop_eq_getElem_cons hl, hc, List.take_succ_cons, List.take_zero]) hw
  rw [hm]
  simp [List.flatMap]
end
end Go.Proofs.Ytehjfilnfpkjkaa
