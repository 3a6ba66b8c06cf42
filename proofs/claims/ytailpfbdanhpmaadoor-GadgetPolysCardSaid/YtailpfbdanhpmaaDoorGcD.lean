/-
  What any gadget answers of any numbers and of any polynomial.
-/
import Derived.Test.YtailpfbdanhpmaaDoorGcC
namespace Go.Proofs.YtailpfbdanhpmaaDoor
open Go.RowKit F Flow
set_option linter.unusedVariables false
set_option linter.unusedSimpArgs false
attribute [local go_sem] eql_elem

theorem lst_of2 (rs : List Int) {N : Nat} (h : rs.length = N) : lst (fun i => rs.getD i 0) N = rs := by
  apply List.ext_getElem (by simp [lst, h])
  intro i h1 h2
  simp [lst, h2]
def OfR (W : Int) (w : World) (e : Ending) (w' : World) : Prop := ∃ x y e0, e = .returned (.tuple #[.agg #[.int .u64 x, .int .u64 y], .int .i64 e0]) ∧ (W ≠ 0 → e0 = W ∧ x = 0 ∧ y = 0) ∧ Below w.heap.size w w'
def PlR (W : Int) (w : World) (e : Ending) (w' : World) : Prop := ∃ A L e0, e = .returned (.tuple #[.slice A L L, .int .i64 e0]) ∧ (W ≠ 0 → e0 = W ∧ A = none ∧ L = 0) ∧ Below w.heap.size w w'
/-- What the law asks of a gadget. -/
structure Ans (f : Int) (v : Value) (W : Int) (B : Option Addr) (L cb : Nat) (C : World → Prop) : Prop where
  of : ∀ w, C w → Calls Tryd.prog 16 #[v, .int .u8 f, .slice B L cb] w (OfR W w)
  poly : ∀ (g d : Nat) w, C w → w.cell? ⟨g, 0, none⟩ = some (.slice B L cb) → Calls Tryd.prog 11 #[v, .int .u8 f, .slice (some ⟨g, 0, none⟩) 1 d] w (PlR W w)
  chk : ChkBy f v W C
theorem ans_bad {f k m W : Int} {A : Option Addr} {n c : Nat} {B : Option Addr} {L cb : Nat} {C : World → Prop} (hup : ∀ w w', Below w.heap.size w w' → C w → C w') (hW : W ≠ 0) (hch : ChkBy f (gvl k A n c m) W C) : Ans f (gvl k A n c m) W B L cb C := by
  refine ⟨fun w hC => ?_, fun g d w hC _ => ?_, hch⟩
  · refine (of_bad f k m W A n c L C hup hW (cin_bad f k m W A n c L C hup hW hch) B cb w hC).mono ?_
    rintro e w' ⟨rfl, hb⟩
    exact ⟨0, 0, W, rfl, fun _ => ⟨rfl, rfl, rfl⟩, hb⟩
  · refine (poly_bad f k m W A n c 1 C hup hW (cin_bad f k m W A n c 1 C hup hW hch) _ d w hC).mono ?_
    rintro e w' ⟨rfl, hb⟩
    exact ⟨none, 0, W, rfl, fun _ => ⟨rfl, rfl, rfl⟩, hb⟩
/-- A gadget of pairs that may be one. -/
theorem ans_pairs {f k m : Int} (ft : Ft f) {A : Option Addr} {n c Q : Nat} (hk : (k == 2) = false) (hQ1 : 1 ≤ Q) (hQ : Q ≤ 16) {xs : List Int} {B : Option Addr} {L cb : Nat} (hL : xs.length = L) (hL40 : L ≤ 40) (hxs : ElemsOK xs) {C : World → Prop} (hup : ∀ w w', Below w.heap.size w w' → C w → C w') (hB : ∀ w, C w → ElemsAt w B xs) (hch : ChkBy f (gvl k A n c m) 0 C)
    (har : ∀ w, Calls Tryd.prog 9 #[gvl k A n c m] w fun e w' => e = .returned (.int .i64 ((Q * 2 : Nat) : Int)) ∧ Below w.heap.size w w') : Ans f (gvl k A n c m) 0 B L cb C := by
  have hci := fun L hL => cin_ok f k m A n c (Q * 2) L C (by omega) hL hup hch har
  refine ⟨fun w hC => ?_, fun g d w hC _ => ?_, hch⟩
  · by_cases h : L = Q * 2
    · have hof := gof_pairs f k m hk A n c xs Q (by omega) (by omega) hxs C hup (fun L w hL hC => hci L hL w hC) (mul f) (add f) ft.hmul ft.hadd (prs_ok f xs) B cb w hC (hB w hC)
      rw [← h] at hof
      refine hof.mono ?_
      rintro e w' ⟨rfl, hb⟩
      exact ⟨_, _, 0, rfl, fun h => absurd rfl h, hb⟩
    · have h9 := hci L (by omega)
      rw [if_neg h] at h9
      refine (of_bad f k m 9 A n c L C hup (by decide) h9 B cb w hC).mono ?_
      rintro e w' ⟨rfl, hb⟩
      exact ⟨0, 0, 9, rfl, fun h => absurd rfl h, hb⟩
  · have h9 := hci 1 (by omega)
    rw [if_neg (by omega)] at h9
    refine (poly_bad f k m 9 A n c 1 C hup (by decide) h9 _ d w hC).mono ?_
    rintro e w' ⟨rfl, hb⟩
    exact ⟨none, 0, 9, rfl, fun h => absurd rfl h, hb⟩
/-- An Eval that may be one. -/
theorem ans_eval {f m : Int} (ft : Ft f) (hR : ∀ m, m ≤ 10 → RootOf f m (rt f m)) {cs : List Int} {A : Option Addr} {n c : Nat} (hl : cs.length = n) (hn2 : 2 ≤ n) (hn4 : n ≤ 4) (hnc : n ≤ c) (hok : InF f cs) {xs : List Int} {B : Option Addr} {L cb : Nat} (hL : xs.length = L) (hL40 : L ≤ 40) (hxs : ElemsOK xs) {C : World → Prop} (hup : ∀ w w', Below w.heap.size w w' → C w → C w') (hB : ∀ w, C w → ElemsAt w B xs) (hA : ∀ w, C w → ElemsAt w A cs) (hT : ∀ w, C w → Tabs w) (hch : ChkBy f (gvl 2 A n c m) 0 C) : Ans f (gvl 2 A n c m) 0 B L cb C := by
  have hci := fun L hL => cin_ok f 2 m A n c 1 L C (by omega) hL hup hch (fun w => gar_eval A n c m w)
  refine ⟨fun w hC => ?_, fun g d w hC hq => ?_, hch⟩
  · by_cases h : L = 1
    · subst h
      obtain ⟨x, rfl⟩ : ∃ x, xs = [x] := by
        match xs, hL with
        | [x], _ => exact ⟨x, rfl⟩
      have hx := hxs x (by simp)
      have h0 := hci 1 (by omega)
      rw [if_pos rfl] at h0
      obtain ⟨b, o, rfl, -, -⟩ := (hB w hC) 0 (by simp)
      refine (of_eval f m x A n c (hz (mul f) (add f) x cs) C hup h0 (fun w hC => ?_) b o cb w hC (hB w hC)).mono ?_
      · have h := at_any f x (mul f) (add f) cs A c hok.ok (by omega) hx.1 hx.2 ft.hmul ft.hadd w (hA w hC)
        rw [hl] at h
        exact h
      · rintro e w' ⟨rfl, hb⟩
        exact ⟨_, _, 0, rfl, fun h => absurd rfl h, hb⟩
    · have h9 := hci L (by omega)
      rw [if_neg h] at h9
      refine (of_bad f 2 m 9 A n c L C hup (by decide) h9 B cb w hC).mono ?_
      rintro e w' ⟨rfl, hb⟩
      exact ⟨0, 0, 9, rfl, fun h => absurd rfl h, hb⟩
  · have h0 := hci 1 (by omega)
    rw [if_pos rfl] at h0
    obtain ⟨b, o, rfl, -, -⟩ := (hA w hC) 0 (by omega)
    refine (poly_eval f m _ n c C hup h0 B L cb (fun w hC => ?_) g 0 d w hC hq).mono ?_
    · have hX : Lim (fun i => xs.getD i 0) L := fun p hp => hxs.at_ (by omega)
      have hBx := hB w hC
      rw [← lst_of2 xs hL] at hBx
      refine (evp_any ft hR cs n hl (by omega) hn4 hok b o c hnc m (fun i => xs.getD i 0) L hL40 hX B cb w (hT w hC) (hA w hC) hBx).mono ?_
      rintro e w' ⟨P, L', _, _, _, A', rfl, hb, _⟩
      exact ⟨A', L', rfl, hb⟩
    · rintro e w' ⟨A', L', rfl, hb⟩
      exact ⟨A', L', 0, rfl, fun h => absurd rfl h, hb⟩
/-- Any gadget, of a field. -/
theorem ans_all {f : Int} (ft : Ft f) (hR : ∀ m, m ≤ 10 → RootOf f m (rt f m)) (hfin : FinBy f) (k m : Int) {cs : List Int} {A : Option Addr} {n c : Nat} (hl : cs.length = n) (hn : n ≤ 20) (hnc : n ≤ c) (hcs : ElemsOK cs) {xs : List Int} {B : Option Addr} {L cb : Nat} (hL : xs.length = L) (hL40 : L ≤ 40) (hxs : ElemsOK xs) {C : World → Prop} (hup : ∀ w w', Below w.heap.size w w' → C w → C w') (hB : ∀ w, C w → ElemsAt w B xs) (hA : ∀ w, C w → ElemsAt w A cs) (hT : ∀ w, C w → Tabs w) : Ans f (gvl k A n c m) (chkV f k cs n m) B L cb C := by
  have hch : ChkBy f (gvl k A n c m) (chkV f k cs n m) C := fun w hC => gch_all f k ft.hval hfin cs n hl hn hcs A c m w (hA w hC)
  by_cases hW : chkV f k cs n m = 0
  · rw [hW] at hch ⊢
    unfold chkV at hW
    by_cases k1 : k = 1
    · subst k1
      exact ans_pairs (Q := 1) ft rfl (by decide) (by decide) hL hL40 hxs hup hB hch (fun w => gar_mul A n c m w)
    · rw [if_neg k1] at hW
      by_cases k2 : k = 2
      · subst k2
        rw [if_pos rfl] at hW
        unfold chkC at hW
        by_cases h1 : n < 2 ∨ 4 < n
        · rw [if_pos h1] at hW; cases hW
        · rw [if_neg h1] at hW
          by_cases h2 : cs.getD (n - 1) 0 = 0
          · rw [if_pos h2] at hW; cases hW
          · rw [if_neg h2] at hW
            by_cases h3 : ∀ k, k < n → cs.getD k 0 < M f
            · exact ans_eval ft hR hl (by omega) (by omega) hnc (fun k hk => ⟨(hcs.at_ hk).1, h3 k (by omega)⟩) hL hL40 hxs hup hB hA hT hch
            · rw [if_neg h3] at hW; cases hW
      · rw [if_neg k2] at hW
        by_cases k3 : k = 3
        · subst k3
          rw [if_pos rfl] at hW
          by_cases hm : m < 1 ∨ 16 < m
          · rw [if_pos hm] at hW; cases hW
          · obtain ⟨m', rfl⟩ : ∃ m' : Nat, m = (m' : Int) := ⟨m.toNat, by omega⟩
            refine ans_pairs (Q := m') ft rfl (by omega) (by omega) hL hL40 hxs hup hB hch (fun w => ?_)
            have h := gar_par A n c m' (by omega) (by omega) w
            rw [Nat.mul_comm] at h
            exact h
        · rw [if_neg k3] at hW; cases hW
  · exact ans_bad hup hW hch
end Go.Proofs.YtailpfbdanhpmaaDoor
