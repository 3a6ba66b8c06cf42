/-
  What is left is too short for a thing, whatever its kind.
-/
import Derived.Test.YtdjgkojcckopaaaRlP
namespace Go.Proofs.Ytdjgkojcckopaaa
open Go.RowKit Flow
set_option linter.unusedVariables false
set_option linter.unusedSimpArgs false

/-- Whatever is left is too short for a thing: the reading ends there. -/
theorem back_short (o r : Nat) (v : Value) (k n s : Int) (A : Option Addr) (bs : List Int) (c : Nat) (ss ys : List Int) (w : World) (hT : ThingOf w k n s A bs c ss)
    (m : Nat) (hm : m < (tbytes k n s bs ss).length) (hys : ys = (tbytes k n s bs ss).take m) (hlen : (tbytes k n s bs ss).length ≤ 1073741824) (h : Rd w o r v false 0) (hv : Lf w o v ys) :
    Calls Try.prog 12 #[.agg (tcells k n s A bs.length c ss).toArray, .pointer (some ⟨r, 0, none⟩)] w (Failed w o r 3) := by
  have k0 := hT.k0.1
  have hyl : ys.length = m := by rw [hys, List.length_take]; omega
  have hr : k % 6 = 0 ∨ k % 6 = 1 ∨ k % 6 = 2 ∨ k % 6 = 3 ∨ k % 6 = 4 ∨ k % 6 = 5 := by omega
  obtain ⟨A2, c2, rfl⟩ := hv.slice
  rcases hr with hk | hk | hk | hk | hk | hk
  · have e : tbytes k n s bs ss = bs := by unfold tbytes; rw [if_pos hk]
    rw [e] at hm
    exact short0 o r _ ys k n s A bs c ss k0 hk w h hv hT.hB fun w1 h1 h2 => rraw_short o r A2 ys.length c2 (bs.length : Int) (.inr (by omega)) w1 h1
  · have e : tbytes k n s bs ss = ubytes n (tsize s) := by unfold tbytes; rw [if_neg (by omega), if_pos hk]
    rw [e, ubytes_len] at hm
    exact short1 o r _ ys k n s A bs c ss k0 hk hT.n0 w h hv hT.hB (by omega) fun w1 h1 h2 => ruint_shortg o r A2 ys.length c2 s (tsize s) (tsize_is s) (by omega) w1 h1
  · have e : tbytes k n s bs ss = ubytes (bs.length : Int) 4 ++ bs := by unfold tbytes; rw [if_neg (by omega), if_neg (by omega), if_pos hk]
    rw [e] at hm hys hlen
    have hu4 := ubytes_len (bs.length : Int) 4
    rw [List.length_append, hu4] at hm hlen
    by_cases h4 : ys.length < 4
    · exact short2 o r _ ys k n s A bs c ss k0 hk w h hv hT.hB fun w1 h1 h2 => rlong_short1 o r A2 ys.length c2 (bs.length : Int) h4 w1 h1
    · have e4 : ys.take 4 = ubytes (bs.length : Int) 4 := by
        rw [hys, List.take_take, Nat.min_eq_left (by omega), List.take_append_of_le_length (by omega), List.take_of_length_le (by omega)]
      have e5 : F.loVal (ubytes (bs.length : Int) 4) = (bs.length : Int) := by
        rw [ubytes_lo, loVal_mod 4 _ (by omega)]
        have e5 : (256 : Int) ^ 4 = 4294967296 := by decide
        rw [e5]; omega
      have hall : ∀ y, y ∈ ys → 0 ≤ y ∧ y < 256 := fun y hy => by
        rw [hys] at hy
        rcases List.mem_append.1 (List.mem_of_mem_take hy) with h | h
        · exact F.loBytes_ok 4 (bs.length : Int) y (by rw [← ubytes_lo]; exact h)
        · exact hT.hb y h
      exact short2 o r _ ys k n s A bs c ss k0 hk w h hv hT.hB fun w1 h1 h2 => rlong_short2 o r _ ys hall (by omega) (bs.length : Int) (by omega) (by omega) bs.length (by omega) (by rw [e4, e5]) (by omega) (by omega) w1 h1 h2
  · have e : tbytes k n s bs ss = tbytes255 bs := by unfold tbytes; rw [if_neg (by omega), if_neg (by omega), if_neg (by omega), if_pos hk]
    rw [e] at hm hys hlen
    have hS : ∀ w1, Rd w1 o r (.slice A2 ys.length c2) false 0 → Lf w1 o (.slice A2 ys.length c2) ys → Calls Try.prog 27 #[.pointer (some ⟨r, 0, none⟩)] w1 (Failed w1 o r 3) := by
      obtain ⟨L, hL⟩ : ∃ L, ys.length = L := ⟨_, rfl⟩
      rw [hL]
      intro w1 h1 h2
      cases m with
      | zero =>
        obtain rfl : L = 0 := by omega
        exact rtext_short0 o r A2 c2 w1 h1
      | succ m =>
        have e2 : ys = ((bs.take 255).length : Int) :: (bs.take 255).take m := by rw [hys]; rfl
        have hq : (bs.take 255).length ≤ 255 := by simp; omega
        have hml : m < (bs.take 255).length := by unfold tbytes255 at hm; simp only [List.length_cons] at hm; omega
        rw [e2] at h2
        refine rtext_short o r _ (bs.take 255).length ((bs.take 255).take m) (by omega) (fun y hy => hT.hb y (List.mem_of_mem_take (List.mem_of_mem_take hy))) (by rw [List.length_take]; omega) w1 h1 h2
    cases A with
    | none =>
      have hb0 := hT.hB.1 rfl
      have hc0 := hT.hc rfl
      subst hb0
      subst hc0
      exact short3n o r _ ys k n s ss k0 hk w h hv hS
    | some ad => exact short3s o r _ ys k n s ad bs c ss k0 hk hT.hcap w h hv hT.hB hS
  · have e : tbytes k n s bs ss = ss := by unfold tbytes; rw [if_neg (by omega), if_neg (by omega), if_neg (by omega), if_neg (by omega)]
    rw [e, hT.hs.1] at hm
    exact short4 o r _ ys k n s A bs c ss k0 hk hT.hs.1 w h hv hT.hB fun w1 h1 h2 => rseed_short o r A2 ys.length c2 (by omega) w1 h1
  · have e : tbytes k n s bs ss = ss := by unfold tbytes; rw [if_neg (by omega), if_neg (by omega), if_neg (by omega), if_neg (by omega)]
    rw [e, hT.hs.1] at hm
    exact short5 o r _ ys k n s A bs c ss k0 hk hT.hs.1 w h hv hT.hB fun w1 h1 h2 => rid_short o r A2 ys.length c2 (by omega) w1 h1
end Go.Proofs.Ytdjgkojcckopaaa
