/-
  The library's sort, of three numbers.
-/
import Derived.Test.YtnaakklfbegldaaStE
import Derived.Test.YtnaakklfbegldaaShelf
namespace Go.Proofs.Ytnaakklfbegldaa
open Go.RowKit Flow Go.Sort Go.Shelf
set_option linter.unusedVariables false
set_option linter.unusedSimpArgs false

def num : Fin 3 → Nat
  | 0 => 9223372036854775808
  | 1 => 0
  | 2 => 4611686018427387904
def encN (i : Fin 3) : Value := .float .f64 (num i)
def cfN (i j : Fin 3) : Int := ordF (num i) (num j)
theorem swoN : SWO (ltOf cfN) := ⟨by decide +kernel, by decide +kernel, by decide +kernel⟩
theorem num_is : ∀ i : Fin 3, isNan (num i) = false := by decide +kernel
theorem sorted_row {W3 : World} {g n : Nat} {dk : Array (Fin 3)} {os : Array Obj} (hg : g < W3.heap.size) : Go.RowKit.Below g W3 (sortWorld encN W3 g 0 n dk os) := by
  refine ⟨rfl, rfl, rfl, by simp [sortWorld], fun k hk => ?_⟩
  unfold sortWorld
  rw [heap_grow_old _ _ (by simp; omega)]
  unfold putRow mapBlock
  have hne : ¬ g = k := by omega
  simp [Array.getElem?_modify, hne]
theorem sort_said : SortSaid := by
  intro g cap cur W3 hgg hc3 s0 s1 s2
  have hg : g < W3.heap.size := cell_lt s0
  have hH : Holds encN W3 g 0 #[2, 0, 1] := by
    intro j hj
    have : j = 0 ∨ j = 1 ∨ j = 2 := by
      simp at hj
      omega
    have hf : W3.frozen? ⟨g, 0 + j, none⟩ = false := by simp [World.frozen?, hgg]
    refine ⟨?_, hf⟩
    rcases this with rfl | rfl | rfl
    · exact s0
    · exact s1
    · exact s2
  have eg : ∀ args w, (callFunc 47 args).run Try.prog w = .ok (.enter 47 args) w := enters_of Try.func47 (by kernel_rfl) rfl
  have hcmp : CmpLays1 Try.prog 47 #[] encN cfN g 0 3 W3 := fun m os dk hs x y =>
    (order_same (num x) (num y) (num_is x) (num_is y) _).mono fun e w' ⟨he, hw⟩ => ⟨he, 0, #[], by rw [hw, grow_empty]; rfl⟩
  refine (Try.slices_SortFunc_eq encN (fun _ => rfl) cfN swoN 47 #[] g 0 cap #[2, 0, 1] W3 eg hcmp hH hg (by decide)).mono fun e w' ⟨he, n, os, hw⟩ => ?_
  rw [show pdq (ltOf cfN) #[2, 0, 1] 0 (#[2, 0, 1] : Array (Fin 3)).size (Lib.bitLen (#[2, 0, 1] : Array (Fin 3)).size) true true = #[0, 1, 2] by decide +kernel] at hw
  have hh := holds_sortWorld encN W3 g 0 n #[2, 0, 1] #[0, 1, 2] os hg hH rfl
  subst hw
  exact ⟨he, sorted_row hg, (hh 0 (by decide)).1, (hh 1 (by decide)).1, (hh 2 (by decide)).1⟩
theorem awake_said (w : World) : Calls Try.prog 9 #[] w fun e w' => e = .returned (.bool true) ∧ Go.RowKit.Below w.heap.size w w' := awake_any sort_said w
end Go.Proofs.Ytnaakklfbegldaa
