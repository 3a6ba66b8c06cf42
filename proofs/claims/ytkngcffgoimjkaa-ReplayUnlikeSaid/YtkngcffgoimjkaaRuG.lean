/-
  ReplayUnlike, proved: of two indexes what is in the one alone, what is in both and differs: for any two lists of reports, with no condition.
-/
import Derived.Test.YtkngcffgoimjkaaRuF
import Derived.Test.YtkngcffgoimjkaaReplayNone
import Derived.Test.YtkngcffgoimjkaaOpenRows
import Derived.Test.YtkngcffgoimjkaaFrame
import Derived.Test.YtkngcffgoimjkaaPost
namespace Go.Proofs.Ytkngcffgoimjkaa
open Go Go.RowKit Go.WideShapes Go.ChangeShapes Flow
set_option linter.unusedVariables false
def IsSeen (cs : List Value) : Prop := ∃ s : Sn, cs = s.cells ∧ SnOK s ∧ 0 ≤ s.t
theorem seens_of : ∀ xs : List (List Value), (∀ x, x ∈ xs → IsSeen x ∧ x.length = 18) → ∃ is : List Sn, xs = is.map Sn.cells ∧ ∀ s, s ∈ is → SnOK s ∧ 0 ≤ s.t
  | [], _ => ⟨[], rfl, fun x hx => by cases hx⟩
  | x :: xs, h => by
    obtain ⟨is, rfl, ho⟩ := seens_of xs (fun y hy => h y (List.mem_cons_of_mem _ hy))
    obtain ⟨⟨s, rfl, hl, hb⟩, _⟩ := h x (by simp)
    refine ⟨s :: is, rfl, fun y hy => ?_⟩
    rcases List.mem_cons.1 hy with rfl | hy
    · exact ⟨hl, hb⟩
    · exact ho y hy
theorem seen_of {H : Type} {enc : TypeId × Value → H} {w : World} {base : Nat} {spare : Nat → Bool} {held : Bool} (fuel : Nat) (cs : List Value) (x : DataW H × List MemPlace) (hf : DataW.trod enc Try.prog w base spare held fuel 32 cs = some x) : IsSeen cs := by
  obtain ⟨ys, n, _, _, hl, hyl, hf⟩ := DataW.trod_struct Try.underlying32 hf
  rw [show (Try.prog).cellsOf 32 = 18 by kernel_rfl] at hl
  have hyl : ys.length = 3 := hyl
  have g0 : DataW.trod enc Try.prog w base spare held n 29 ((cs.drop 0).take ((Try.prog).cellsOf 29)) = ys[0]? := hf 0 _ rfl
  have g1 : DataW.trod enc Try.prog w base spare held n 23 ((cs.drop 16).take ((Try.prog).cellsOf 23)) = ys[1]? := hf 1 _ rfl
  have g2 : DataW.trod enc Try.prog w base spare held n 30 ((cs.drop 17).take ((Try.prog).cellsOf 30)) = ys[2]? := hf 2 _ rfl
  rw [show (Try.prog).cellsOf 29 = 16 by kernel_rfl, List.getElem?_eq_getElem (by omega), List.drop_zero] at g0
  rw [show (Try.prog).cellsOf 23 = 1 by kernel_rfl, List.getElem?_eq_getElem (by omega), List.drop_eq_getElem_cons (by omega : 16 < cs.length), List.take_succ_cons, List.take_zero] at g1
  rw [show (Try.prog).cellsOf 30 = 1 by kernel_rfl, List.getElem?_eq_getElem (by omega), List.drop_eq_getElem_cons (by omega : 17 < cs.length), List.take_succ_cons, List.take_zero] at g2
  obtain ⟨xs, hx, e0, wx⟩ := ints_of_trod Try.underlying29 Try.underlying5 (by kernel_rfl) (by kernel_rfl) g0
  obtain ⟨t, e1, _, wt⟩ := DataW.trod_int Try.underlying23 g1
  obtain ⟨c, e2, _, wc⟩ := DataW.trod_int Try.underlying30 g2
  have e : cs = scells xs t c := by
    unfold scells
    rw [← e0]
    have d16 : cs.drop 16 = [.int .u64 t, .int .i64 c] := by
      rw [List.drop_eq_getElem_cons (by omega : 16 < cs.length), List.drop_eq_getElem_cons (by omega : 17 < cs.length), List.drop_of_length_le (by omega)]
      simp at e1 e2
      rw [e1, e2]
    rw [← d16, List.take_append_drop]
  have ht : 0 ≤ t := by
    simp [Lit.wf, IntKind.min, IntKind.max, IntKind.signed, IntKind.bits] at wt
    omega
  exact ⟨⟨xs, t, c⟩, e, ⟨hx, wf_bytes wx⟩, ht⟩
theorem open_seens {H : Type} {enc : TypeId × Value → H} {w : World} {base : Nat} {spare : Nat → Bool} {held : Bool} {A : Option Addr} {n c : Nat} {d : DataW H} {p : List MemPlace} (h : DataW.Trod enc Try.prog w base spare held 27 (.slice A n c) d p) :
    ∃ is : List Sn, is.length = n ∧ n ≤ maxLen ∧ (∀ s, s ∈ is → SnOK s ∧ 0 ≤ s.t) ∧ RowsIn w A is := by
  obtain ⟨xs, hxl, hnc, hcm, -, hat, hall⟩ := open_structs (N := 18) (by decide) Try.underlying27 (by kernel_rfl) IsSeen (fun n cs x hx => seen_of n cs x hx) h
  obtain ⟨is, rfl, hok⟩ := seens_of xs hall
  rw [List.length_map] at hxl
  refine ⟨is, hxl, Nat.le_trans hnc hcm, hok, fun k hk => ?_⟩
  obtain ⟨b, o, e, hr⟩ := hat k (by omega)
  refine ⟨b, o, e, ?_⟩
  rwa [List.getD_eq_getElem?_getD, List.getElem?_map, List.getElem?_eq_getElem hk, Option.map_some, Option.getD_some, show is[k] = nth is k by unfold nth; rw [List.getD_eq_getElem?_getD, List.getElem?_eq_getElem hk]; rfl] at hr
theorem own_replayUnlike : ownKnob Try.prog.godebug = none := by kernel_rfl
set_option maxRecDepth 100000 in
theorem lifted_replayUnlike (os : Os) (started : os.Started) (H : Type) (enc : TypeId × Value → H) :
    ReturnsInHanded {} Try.checked os 7 .any (Rows.replayUnlikeSpec.pre6 enc Try.prog Try.f7 Rows.replayUnlikeRow.domain false) (Rows.replayUnlikeSpec.post enc Try.prog Try.f7 false true false false) := by
  refine returnsInHanded_of_change (C := Try.checked) own_replayUnlike started (by kernel_rfl) Try.func7
    (ChangeSpec.witness6 (enc := enc) (C := Try.checked) false ⟨#[], #[.slice none 0 0, .slice none 0 0], []⟩ 8 (by kernel_rfl) (by kernel_rfl) (by kernel_rfl) (by kernel_rfl)) ?_
  intro W base args ds gs before hval0 hW hcnd _
  have hval : ∀ (j : Nat) t v, Try.f7.params[j]? = some t → args[j]? = some v → Value.okWide Try.prog W .any base t v := hval0
  have hW' := hW
  obtain ⟨p, q, hA0, hV, rfl, hfz, hnd⟩ := hW
  have hA : DataW.TrodAll enc Try.prog W 0 (fun _ => true) true Try.f7.params.toList args.toList ds p := hA0
  rw [Try.params7] at hA hval
  clear hA0 hval0
  obtain ⟨v0, vs0, d0, ds0, p0, q0, hargs, rfl, rfl, h0, r0⟩ := trodAll_cons hA
  obtain ⟨v1, vs1, d1, ds1, p1, q1, rfl, rfl, rfl, h1, r1⟩ := trodAll_cons r0
  obtain ⟨rfl, rfl, rfl⟩ := trodAll_nil r1
  obtain rfl : args = #[v0, v1] := by cases args; simp_all
  obtain ⟨rfl, rfl⟩ := trodVars_none hV
  obtain ⟨X, nx, cx, rfl⟩ := okWide_slice Try.underlying27 (hval 0 27 v0 rfl rfl)
  obtain ⟨Y, ny, cy, rfl⟩ := okWide_slice Try.underlying27 (hval 1 27 v1 rfl rfl)
  obtain ⟨js, hx, hx1, hjs, hX⟩ := open_seens h0
  obtain ⟨ks, hy, hy1, hks, hY⟩ := open_seens h1
  refine (replayUnlike_walk js ks hjs hks X Y nx cx ny cy hx hy hx1 hy1 W hX hY).mono fun e W' ⟨he, hb⟩ => ?_
  subst he
  exact ⟨_, rfl, law_true (by decide +kernel) rfl rfl Try.underlying4 hW' rfl hb⟩
theorem over_replayUnlike : Rows.replayUnlikeRow.holds Try.pinned (OpenSpec.ofChange Rows.replayUnlikeSpec) :=
  OpenClaim.holds_of_wide 7 Try.f7 rfl rfl rfl rfl rfl rfl rfl ⟨rfl, rfl, rfl, rfl, rfl⟩ rfl rfl rfl rfl rfl (by kernel_rfl) Try.func7 (by kernel_rfl)
    (of_decide_eq_true (by kernel_rfl)) (by unfold Func.isWrapper; first | (rw [if_pos (by decide +kernel)]; kernel_rfl) | (rw [if_neg (by decide +kernel)]; exact ⟨rfl, rfl⟩))
    (fun os started H enc _ => lifted_replayUnlike os started H enc)
theorem replayUnlike_proved : Rows.ReplayUnlikeSaid := over_replayUnlike
#print axioms replayUnlike_proved
end Go.Proofs.Ytkngcffgoimjkaa
