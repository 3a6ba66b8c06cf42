/-
  ReplayOnce, proved: however often ids come, each is there once; for any ids, with no condition.
-/
import Derived.Test.YtkngcffgoimjkaaRpE
import Derived.Test.YtkngcffgoimjkaaOpenRows
import Derived.Test.YtkngcffgoimjkaaFrame
import Derived.Test.YtkngcffgoimjkaaPost
namespace Go.Proofs.Ytkngcffgoimjkaa
open Go Go.RowKit Go.WideShapes Go.ChangeShapes Flow
set_option linter.unusedVariables false
def IsId (cs : List Value) : Prop := ∃ xs : List Int, cs = xs.map (Value.int .u8) ∧ xs.length = 16 ∧ ByteList xs
theorem ids_of : ∀ xs : List (List Value), (∀ x, x ∈ xs → IsId x ∧ x.length = 16) → ∃ is : List (List Int), xs = is.map (·.map (Value.int .u8)) ∧ IdsOK is
  | [], _ => ⟨[], rfl, fun x hx => by cases hx⟩
  | x :: xs, h => by
    obtain ⟨is, rfl, ho⟩ := ids_of xs (fun y hy => h y (List.mem_cons_of_mem _ hy))
    obtain ⟨⟨z, rfl, hl, hb⟩, _⟩ := h x (by simp)
    refine ⟨z :: is, rfl, fun y hy => ?_⟩
    rcases List.mem_cons.1 hy with rfl | hy
    · exact ⟨hl, hb⟩
    · exact ho y hy
theorem own_replayOnce : ownKnob Try.prog.godebug = none := by kernel_rfl
set_option maxRecDepth 100000 in
theorem lifted_replayOnce (os : Os) (started : os.Started) (H : Type) (enc : TypeId × Value → H) :
    ReturnsInHanded {} Try.checked os 4 .any (Rows.replayOnceSpec.pre6 enc Try.prog Try.f4 Rows.replayOnceRow.domain false) (Rows.replayOnceSpec.post enc Try.prog Try.f4 false true false false) := by
  refine returnsInHanded_of_change (C := Try.checked) own_replayOnce started (by kernel_rfl) Try.func4
    (ChangeSpec.witness6 (enc := enc) (C := Try.checked) false ⟨#[], #[.slice none 0 0], []⟩ 8 (by kernel_rfl) (by kernel_rfl) (by kernel_rfl) (by kernel_rfl)) ?_
  intro W base args ds gs before hval0 hW hcnd _
  have hval : ∀ (j : Nat) t v, Try.f4.params[j]? = some t → args[j]? = some v → Value.okWide Try.prog W .any base t v := hval0
  have hW' := hW
  obtain ⟨p, q, hA0, hV, rfl, hfz, hnd⟩ := hW
  have hA : DataW.TrodAll enc Try.prog W 0 (fun _ => true) true Try.f4.params.toList args.toList ds p := hA0
  rw [Try.params4] at hA hval
  clear hA0 hval0
  obtain ⟨v0, vs0, d0, ds0, p0, q0, hargs, rfl, rfl, h0, r0⟩ := trodAll_cons hA
  obtain ⟨rfl, rfl, rfl⟩ := trodAll_nil r0
  obtain rfl : args = #[v0] := by cases args; simp_all
  obtain ⟨rfl, rfl⟩ := trodVars_none hV
  obtain ⟨A, n, cap, rfl⟩ := okWide_slice Try.underlying50 (hval 0 50 v0 rfl rfl)
  obtain ⟨xs, hxl, hnc, hcm, -, hat, hall⟩ := open_structs (N := 16) (by decide) Try.underlying50 (by kernel_rfl) IsId (fun n cs x hx => by
    obtain ⟨zs, hz, e0, wz⟩ := ints_of_trod Try.underlying29 Try.underlying5 (by kernel_rfl) (by kernel_rfl) hx
    exact ⟨zs, e0, hz, wf_bytes wz⟩) h0
  obtain ⟨is, rfl, hok⟩ := ids_of xs hall
  rw [List.length_map] at hxl
  have hA : IdsAt W A is := fun k hk => by
    obtain ⟨b, o, e, hr⟩ := hat k (by omega)
    refine ⟨b, o, e, ?_⟩
    rwa [List.getD_eq_getElem?_getD, List.getElem?_map, List.getElem?_eq_getElem hk, Option.map_some, Option.getD_some, show is[k] = is.getD k [] by rw [List.getD_eq_getElem?_getD, List.getElem?_eq_getElem hk]; rfl] at hr
  refine (replayOnce_walk is A n cap hxl (by omega) hok W hA).mono fun e W' ⟨he, hb⟩ => ?_
  subst he
  exact ⟨_, rfl, law_true (by decide +kernel) rfl rfl Try.underlying4 hW' rfl hb⟩
theorem over_replayOnce : Rows.replayOnceRow.holds Try.pinned (OpenSpec.ofChange Rows.replayOnceSpec) :=
  OpenClaim.holds_of_wide 4 Try.f4 rfl rfl rfl rfl rfl rfl rfl ⟨rfl, rfl, rfl, rfl, rfl⟩ rfl rfl rfl rfl rfl (by kernel_rfl) Try.func4 (by kernel_rfl)
    (of_decide_eq_true (by kernel_rfl)) (by unfold Func.isWrapper; first | (rw [if_pos (by decide +kernel)]; kernel_rfl) | (rw [if_neg (by decide +kernel)]; exact ⟨rfl, rfl⟩))
    (fun os started H enc _ => lifted_replayOnce os started H enc)
theorem replayOnce_proved : Rows.ReplayOnceSaid := over_replayOnce
#print axioms replayOnce_proved
end Go.Proofs.Ytkngcffgoimjkaa
