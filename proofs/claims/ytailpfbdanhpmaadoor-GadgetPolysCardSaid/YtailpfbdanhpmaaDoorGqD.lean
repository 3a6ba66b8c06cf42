/-
  The law's gadget of small numbers, asked of polynomials.
-/
import Derived.Test.YtailpfbdanhpmaaDoorGqC
namespace Go.Proofs.YtailpfbdanhpmaaDoor
open Go.RowKit F Flow
set_option linter.unusedVariables false
set_option linter.unusedSimpArgs false

/-- What comes of small numbers. -/
def GPOut (f : Int) (w : World) (e : Ending) (w' : World) : Prop := ∃ k m A n c N D cs V, e = .returned (gvl k A n c m) ∧ Below w.heap.size w w' ∧ ElemsAt w' A cs ∧ (∀ a, A = some a → w.heap.size ≤ a.block) ∧ GPA f k m A n c N D (fun w => ElemsAt w A cs) V ∧ 1 ≤ N ∧ N ≤ 10 ∧ D ≤ 3 ∧ n ≤ 10 ∧ 0 ≤ k ∧ k ≤ 3 ∧ 0 ≤ m ∧ m ≤ 16
theorem sg_gpa {f : Int} (ft : Ft f) (hR : ∀ m, m ≤ 10 → RootOf f m (rt f m)) (hfin : FinBy f) (kd mn : Int) (A : Option Addr) (cs : List Int) (n c : Nat) (hn : cs.length = n) (hm : n ≤ maxLen) (hcs : ElemsOK cs) (k0 : 0 ≤ kd) (m0 : 0 ≤ mn) (m1 : mn ≤ 255) (w : World) (hA : ElemsAt w A cs) :
    Calls Tryd.prog 7 #[svl kd A n c mn, .int .i64 f] w (GPOut f w) := by
  have h3 : kd % 3 = 0 ∨ kd % 3 = 1 ∨ kd % 3 = 2 := by omega
  rcases h3 with hk | hk | hk
  · refine (sg_mul f kd mn A n c k0 hk w).mono ?_
    rintro e w' ⟨rfl, hb⟩
    exact ⟨1, 0, none, 0, 0, 1 * 2, 2, [], _, rfl, hb, fun i hi => absurd hi (Nat.not_lt_zero _), fun a h => by (cases h), gpa_pairs (Q := 1) ft hR (by decide) (by omega) (by omega) (fun _ _ hb h => h.up hb) (fun w _ => gch_mul f none 0 0 0 ft.hval w) (gar_mul none 0 0 0) (gde_mul none 0 0 0), by omega, by omega, by omega, by omega, by omega, by omega, by omega, by omega⟩
  · refine (sg_par f kd mn A n c k0 hk m0 m1 w).mono ?_
    rintro e w' ⟨rfl, hb⟩
    obtain ⟨Q, hQ⟩ : ∃ Q : Nat, 1 + mn % 5 = (Q : Int) := ⟨(1 + mn % 5).toNat, by omega⟩
    rw [hQ]
    have q1 : 1 ≤ Q := by omega
    have q2 : Q ≤ 16 := by omega
    exact ⟨3, (Q : Int), none, 0, 0, Q * 2, 2, [], _, rfl, hb, fun i hi => absurd hi (Nat.not_lt_zero _), fun a h => by (cases h), gpa_pairs (Q := Q) ft hR (by decide) q1 q2 (fun _ _ hb h => h.up hb) (fun w _ => gch_par f none 0 0 Q q1 q2 ft.hval w) (by rw [Nat.mul_comm]; exact gar_par none 0 0 Q q1 q2) (gde_par none 0 0 _), by omega, by omega, by omega, by omega, by omega, by omega, by omega, by omega⟩
  · obtain ⟨N, hN⟩ : ∃ N : Nat, mn % 3 = (N : Int) := ⟨(mn % 3).toNat, by omega⟩
    refine (sg_eval f kd mn A cs n c N hn hm hcs k0 hk hN m0 w hA).mono ?_
    rintro e w' ⟨g, c', cs', rfl, hb, hl, hi, hlast, hE, hnc, hgl⟩
    have hv : chkV f 2 cs' (N + 2) 0 = 0 := by
      unfold chkV chkC
      rw [if_neg (by omega), if_pos rfl, if_neg (by omega), if_neg (by exact hlast), if_pos (fun k hk => (hi k (by omega)).2)]
    refine ⟨2, 0, some ⟨g, 0, none⟩, N + 2, c', 1, N + 1, cs', _, rfl, hb, hE, fun a h => by (cases h; exact hgl), gpa_eval ft hR hl (by omega) hnc hi (fun _ _ hb h => h.up hb) (fun _ h => h) (fun w hw => ?_), by omega, by omega, by omega, by omega, by omega, by omega, by omega, by omega⟩
    have h := gch_all f 2 ft.hval hfin cs' (N + 2) hl (by omega) hi.ok (some ⟨g, 0, none⟩) c' 0 w hw
    rw [hv] at h
    exact h
end Go.Proofs.YtailpfbdanhpmaaDoor
