/-
  The library's sort, of any numbers.
-/
import Derived.Test.YtnaakklfbegldaaStK
import Derived.Test.YtnaakklfbegldaaStS
namespace Go.Proofs.Ytnaakklfbegldaa
open Go.RowKit Flow Go.Sort Go.Shelf
set_option linter.unusedVariables false
set_option linter.unusedSimpArgs false

/-- A number that is one. -/
abbrev Num := { x : Nat // isNan x = false }
instance : Inhabited Num := ⟨⟨0, nan_zero⟩⟩
def encS (x : Num) : Value := .float .f64 x.1
def cfS (x y : Num) : Int := ordF x.1 y.1
theorem lt_key (x y : Num) : ltOf cfS x y = decide (key2 x.1 < key2 y.1) := ordF_key x.2 y.2
theorem swoS : SWO (ltOf cfS) := by
  refine ⟨fun x => ?_, fun x y z h1 h2 => ?_, fun x y z h1 h2 => ?_⟩
  · rw [lt_key]; simp
  · rw [lt_key] at *
    simp only [decide_eq_true_eq] at *
    omega
  · rw [lt_key] at *
    simp only [decide_eq_false_iff_not] at *
    omega
theorem row_below {W3 : World} {g n : Nat} {dk : Array Num} {os : Array Obj} (hg : g < W3.heap.size) : Go.RowKit.Below g W3 (sortWorld encS W3 g 0 n dk os) := by
  refine ⟨rfl, rfl, rfl, by simp [sortWorld], fun k hk => ?_⟩
  unfold sortWorld
  rw [heap_grow_old _ _ (by simp; omega)]
  unfold putRow mapBlock
  have hne : ¬ g = k := by omega
  simp [Array.getElem?_modify, hne]
/-- The library's sort, of a row of numbers that are numbers: the same numbers, each behind those that stand before it. -/
theorem sort_any (g cap : Nat) (cur : Array Value) (xs : List Num) (W3 : World) (hgg : W3.heap[g]? = some (.cells cur 35)) (hx : ∀ j, j < xs.length → W3.cell? ⟨g, j, none⟩ = some (.float .f64 (xs.getD j default).1)) (hn : xs.length ≤ 65536) :
    Calls Try.prog 46 #[.slice (some ⟨g, 0, none⟩) xs.length cap, .func (.func 47) #[] #[]] W3 fun e w' => e = .returned (.tuple #[]) ∧ Go.RowKit.Below g W3 w' ∧
      ∃ ys : List Num, ys.Perm xs ∧ (∀ i j, i < j → j < ys.length → key2 (ys.getD i default).1 ≤ key2 (ys.getD j default).1) ∧ ∀ j, j < ys.length → w'.cell? ⟨g, j, none⟩ = some (.float .f64 (ys.getD j default).1) := by
  have hg : g < W3.heap.size := by
    apply Nat.lt_of_not_le
    intro hle
    rw [Array.getElem?_eq_none hle] at hgg
    cases hgg
  have hget : ∀ (d : Array Num) (j : Nat), d[j]! = d.toList.getD j default := fun d j => by
    simp [Array.getElem!_eq_getD, Array.getD_eq_getD_getElem?, List.getD_eq_getElem?_getD]
  have hH : Holds encS W3 g 0 xs.toArray := by
    intro j hj
    have hj' : j < xs.length := by simpa using hj
    have hf : W3.frozen? ⟨g, 0 + j, none⟩ = false := by simp [World.frozen?, hgg]
    refine ⟨?_, hf⟩
    rw [Nat.zero_add, hx j hj', hget]
    rfl
  have eg : ∀ args w, (callFunc 47 args).run Try.prog w = .ok (.enter 47 args) w := enters_of Try.func47 (by kernel_rfl) rfl
  have hcmp : CmpLays1 Try.prog 47 #[] encS cfS g 0 xs.toArray.size W3 := fun m os dk hs x y =>
    (order_same x.1 y.1 x.2 y.2 _).mono fun e w' ⟨he, hw⟩ => ⟨he, 0, #[], by rw [hw, grow_empty]; rfl⟩
  refine (Try.slices_SortFunc encS (fun _ => rfl) cfS swoS 47 #[] g 0 cap xs.toArray W3 eg hcmp hH hg (by simp; omega)).mono fun e w' ⟨he, d', n, os, hp, hs, hw⟩ => ?_
  obtain ⟨hsz, _, hperm⟩ := hp
  have hsz' : d'.size = xs.length := by simpa using hsz
  have hh := holds_sortWorld encS W3 g 0 n xs.toArray d' os hg hH hsz
  subst hw
  refine ⟨he, row_below hg, d'.toList, ?_, fun i j hij hj => ?_, fun j hj => ?_⟩
  · have e1 : (d'.extract 0 xs.toArray.size).toList = d'.toList := by simp [← hsz']
    have e2 : (xs.toArray.extract 0 xs.toArray.size).toList = xs := by simp
    rw [e1, e2] at hperm
    exact hperm
  · have h := hs i j (Nat.zero_le _) hij (by simp at hj ⊢; omega)
    rw [lt_key, hget, hget] at h
    simp only [decide_eq_false_iff_not] at h
    omega
  · have h := (hh j (by simpa using hj)).1
    rw [Nat.zero_add, hget] at h
    exact h
end Go.Proofs.Ytnaakklfbegldaa
