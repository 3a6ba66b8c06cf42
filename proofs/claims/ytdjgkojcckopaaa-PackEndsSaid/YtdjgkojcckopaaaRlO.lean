/-
  A thing is taken as it was put, whatever its kind.
-/
import Derived.Test.YtdjgkojcckopaaaRlJ
import Derived.Test.YtdjgkojcckopaaaRlK
import Derived.Test.YtdjgkojcckopaaaRlM
import Derived.Test.YtdjgkojcckopaaaRlN
namespace Go.Proofs.Ytdjgkojcckopaaa
open Go.RowKit Flow
set_option linter.unusedVariables false
set_option linter.unusedSimpArgs false

theorem back_any (o r : Nat) (v : Value) (k n s : Int) (A : Option Addr) (bs : List Int) (c : Nat) (ss zs : List Int) (w : World) (hT : ThingOf w k n s A bs c ss) (hA : 0 < bs.length → ∀ ad, A = some ad → ad.block ≠ o)
    (hz : ∀ y, y ∈ zs → 0 ≤ y ∧ y < 256) (hlen : (tbytes k n s bs ss ++ zs).length ≤ 1073741824) (h : Rd w o r v false 0) (hv : Lf w o v (tbytes k n s bs ss ++ zs)) :
    Calls Try.prog 12 #[.agg (tcells k n s A bs.length c ss).toArray, .pointer (some ⟨r, 0, none⟩)] w (Back w o r zs) := by
  have k0 := hT.k0.1
  have hr : k % 6 = 0 ∨ k % 6 = 1 ∨ k % 6 = 2 ∨ k % 6 = 3 ∨ k % 6 = 4 ∨ k % 6 = 5 := by omega
  rcases hr with hk | hk | hk | hk | hk | hk
  · have e : tbytes k n s bs ss = bs := by unfold tbytes; rw [if_pos hk]
    rw [e] at hlen hv
    exact back0 o r k n s A bs c ss zs k0 hk v hlen w h hv hT.hB hA
  · have e : tbytes k n s bs ss = ubytes n (tsize s) := by unfold tbytes; rw [if_neg (by omega), if_pos hk]
    rw [e] at hlen hv
    exact back1 o r k n s A bs c ss zs k0 hk hT.n0 hz v hlen w h hv hT.hB
  · have e : tbytes k n s bs ss ++ zs = ubytes (bs.length : Int) 4 ++ (bs ++ zs) := by unfold tbytes; rw [if_neg (by omega), if_neg (by omega), if_pos hk, List.append_assoc]
    rw [e] at hlen hv
    exact back2 o r k n s A bs c ss zs k0 hk hT.hb hz v hlen w h hv hT.hB hA
  · have e : tbytes k n s bs ss = tbytes255 bs := by unfold tbytes; rw [if_neg (by omega), if_neg (by omega), if_neg (by omega), if_pos hk]
    rw [e] at hlen hv
    cases A with
    | none =>
      have hb0 := hT.hB.1 rfl
      have hc0 := hT.hc rfl
      subst hb0
      subst hc0
      exact back3n o r k n s ss zs k0 hk hz v hlen w h hv
    | some ad => exact back3s o r k n s (some ad) ad rfl bs c ss zs k0 hk hT.hb hz hT.hcap v hlen w h hv hT.hB hA
  · have e : tbytes k n s bs ss = ss := by unfold tbytes; rw [if_neg (by omega), if_neg (by omega), if_neg (by omega), if_neg (by omega)]
    rw [e] at hlen hv
    exact back4 o r k n s A bs c ss zs k0 hk hT.hs.1 v hlen w h hv hT.hB
  · have e : tbytes k n s bs ss = ss := by unfold tbytes; rw [if_neg (by omega), if_neg (by omega), if_neg (by omega), if_neg (by omega)]
    rw [e] at hlen hv
    exact back5 o r k n s A bs c ss zs k0 hk hT.hs.1 v hlen w h hv hT.hB
end Go.Proofs.Ytdjgkojcckopaaa
