/-
  Totals of many reports: the reports of an argument.
-/
import Derived.Test.YtpojhomccmfffaaDoorEG
import Derived.Test.YtpojhomccmfffaaDoorElemsOf
import Derived.Test.YtpojhomccmfffaaDoorOpenRows
namespace Go.Proofs.YtpojhomccmfffaaDoor
open Go.RowKit Go.WideShapes Go.ChangeShapes F Flow
set_option linter.unusedVariables false

theorem idc_ofR {zs : List Int} (hl : zs.length = 16) (hw : ∀ z, z ∈ zs → (Lit.int .u8 z).wf = true) : ∃ ns, zs.map (Value.int .u8) = idc ns ∧ IdOK ns := by
  have hb : ∀ z, z ∈ zs → 0 ≤ z ∧ z < 256 := fun z hz => by
    have := hw z hz
    simp [Lit.wf, IntKind.min, IntKind.max, IntKind.signed, IntKind.bits] at this
    omega
  refine ⟨zs.map Int.toNat, ?_, ⟨by simpa using hl, fun x hx => ?_⟩⟩
  · unfold idc
    rw [List.map_map]
    refine List.map_congr_left fun z hz => ?_
    show Value.int .u8 z = Value.int .u8 ((z.toNat : Nat) : Int)
    rw [Int.toNat_of_nonneg (hb z hz).1]
  · obtain ⟨z, hz, rfl⟩ := List.mem_map.1 hx
    have := hb z hz
    omega
def IsRp (w : World) (cs : List Value) : Prop := ∃ r y, cs = Rp.cells r ∧ RpOK w r y
def rp0 : Rp := ⟨[0, 0, 0, 0, 0, 0, 0, 0, 0, 0, 0, 0, 0, 0, 0, 0], none, 0, 0⟩
theorem rp0_ok (w : World) : RpOK w rp0 [] := ⟨⟨rfl, by decide⟩, rfl, Nat.zero_le _, fun k hk => absurd hk (Nat.not_lt_zero _), fun x hx => by cases hx⟩
set_option maxRecDepth 100000 in
theorem rp_of {H : Type} {enc : TypeId × Value → H} {w : World} {base : Nat} {spare : Nat → Bool} {held : Bool} {fuel : Nat} {cs : List Value} {x : DataW H × List MemPlace}
    (h : DataW.trod enc Tryd.prog w base spare held fuel 56 cs = some x) : IsRp w cs := by
  obtain ⟨ys, n', _, _, hl, hyl, hf⟩ := DataW.trod_struct Tryd.underlying56 h
  rw [show (Tryd.prog).cellsOf 56 = 17 by kernel_rfl] at hl
  have hyl' : ys.length = 2 := by simpa using hyl
  have f0 : DataW.trod enc Tryd.prog w base spare held n' 51 ((cs.drop 0).take ((Tryd.prog).cellsOf 51)) = ys[0]? := hf 0 _ rfl
  have f1 : DataW.trod enc Tryd.prog w base spare held n' 35 ((cs.drop 16).take ((Tryd.prog).cellsOf 35)) = ys[1]? := hf 1 _ rfl
  rw [show (Tryd.prog).cellsOf 51 = 16 by kernel_rfl, List.getElem?_eq_getElem (show 0 < ys.length by omega)] at f0
  rw [show (Tryd.prog).cellsOf 35 = 1 by kernel_rfl, List.getElem?_eq_getElem (show 1 < ys.length by omega)] at f1
  obtain ⟨zs, hzl, e0, hzw⟩ := ints_of_trod Tryd.underlying51 Tryd.underlying5 (by kernel_rfl) (by kernel_rfl) f0
  obtain ⟨A, y, c, e1, hyc, hcm, hat, hok⟩ := elems_of f1
  obtain ⟨ns, hns, hid⟩ := idc_ofR hzl hzw
  refine ⟨⟨ns, A, y.length, c⟩, y, ?_, ⟨hid, rfl, Nat.le_trans hyc hcm, hat, hok⟩⟩
  have hcs : cs = cs.take 16 ++ (cs.drop 16).take 1 := by
    rw [List.take_of_length_le (l := cs.drop 16) (by simp; omega), List.take_append_drop]
  rw [hcs]
  simp only [List.drop_zero] at e0
  rw [e0, e1, hns]
  rfl
set_option maxRecDepth 100000 in
theorem open_reps {H : Type} {enc : TypeId × Value → H} {w : World} {base : Nat} {spare : Nat → Bool} {held : Bool} {v : Value} {d : DataW H} {p : List MemPlace} {r : Reach} {b0 : Nat}
    (hv : Value.okWide Tryd.prog w r b0 26 v) (h : DataW.Trod enc Tryd.prog w base spare held 26 v d p) :
    ∃ (A : Option Addr) (n c : Nat) (rs : Nat → Rp) (ys : Nat → List Int), v = .slice A n c ∧ n ≤ c ∧ c ≤ maxLen ∧ (A = none → n = 0 ∧ c = 0) ∧ RpsAt w A n rs ∧ ∀ k, RpOK w (rs k) (ys k) := by
  obtain ⟨A, n, c, rfl⟩ := okWide_slice Tryd.underlying26 hv
  obtain ⟨xs, hxl, hnc, hcm, hnil, hat, hall⟩ := open_structs (N := 17) (by decide) Tryd.underlying26 (by kernel_rfl) (IsRp w) (fun n cs x hx => rp_of hx) h
  have key : ∀ k, ∃ q : Rp × List Int, (k < n → xs.getD k [] = q.1.cells) ∧ RpOK w q.1 q.2 := fun k => by
    by_cases hk : k < n
    · have hm : xs.getD k [] ∈ xs := by
        rw [List.getD_eq_getElem?_getD, List.getElem?_eq_getElem (by omega)]
        exact List.getElem_mem (by omega)
      obtain ⟨⟨r, y, e, ho⟩, _⟩ := hall _ hm
      exact ⟨(r, y), fun _ => e, ho⟩
    · exact ⟨(rp0, []), fun h => absurd h hk, rp0_ok w⟩
  obtain ⟨F, hF⟩ : ∃ F : Nat → Rp × List Int, ∀ k, (k < n → xs.getD k [] = (F k).1.cells) ∧ RpOK w (F k).1 (F k).2 := ⟨fun k => Classical.choose (key k), fun k => Classical.choose_spec (key k)⟩
  refine ⟨A, n, c, fun k => (F k).1, fun k => (F k).2, rfl, hnc, hcm, hnil, fun k hk => ?_, fun k => (hF k).2⟩
  obtain ⟨b, o, e, hr⟩ := hat k hk
  rw [(hF k).1 hk] at hr
  exact ⟨b, o, e, hr⟩
end Go.Proofs.YtpojhomccmfffaaDoor
