/-
  Polynomials: values; products by the program and by the document; the example.
-/
import Derived.Test.YtailpfbdanhpmaaDoorPoE
import Derived.Test.YtailpfbdanhpmaaDoorPoH
import Derived.Test.YtailpfbdanhpmaaDoorPoI
import Derived.Test.YtailpfbdanhpmaaDoorPolyAt
namespace Go.Proofs.YtailpfbdanhpmaaDoor
open Go.RowKit F Flow
set_option linter.unusedVariables false
set_option linter.unusedSimpArgs false
attribute [local go_sem] eql_elem

theorem hz_pS (f x : Int) (x0 : 0 ≤ x) (x1 : x < M f) : ∀ p : List Int, InF f p → hz (mul f) (add f) x p = pS x p % M f
  | [], _ => by simp [hz, pS]
  | c :: cs, h => by
    have hc := h 0 (by simp)
    simp only [List.getD_cons_zero] at hc
    have hM := M_pos f
    have hm := Int.emod_nonneg (pS x cs) (b := M f) (by omega)
    have hm2 := Int.emod_lt_of_pos (pS x cs) hM
    rw [hz, hz_pS f x x0 x1 cs h.tail]
    unfold mul
    rw [redu_of_lt hm hm2, redu_of_lt x0 x1]
    unfold add
    rw [redu_of_lt (Int.emod_nonneg _ (by omega)) (Int.emod_lt_of_pos _ hM), redu_of_lt hc.1 hc.2, pS, Int.emod_add_emod, Int.add_emod, emod_mul, ← Int.add_emod, Int.mul_comm x, Int.add_comm c]
theorem add_redu_r (f a b : Int) : add f a (redu f b) = add f a b := by unfold add; rw [redu_redu]
theorem hz_redu (f x : Int) : ∀ p : List Int, hz (mul f) (add f) x p = hz (mul f) (add f) (redu f x) (p.map (redu f))
  | [] => rfl
  | c :: cs => by
    rw [List.map_cons, hz, hz, ← hz_redu f x cs, mul_redu_r, add_redu_r]
theorem lst_map (g : Int → Int) (F : Nat → Int) (n : Nat) : (lst F n).map g = lst (fun i => g (F i)) n := by simp [lst]
/-- Any polynomial's value. -/
theorem hz_lst (f x : Int) (F : Nat → Int) (n : Nat) : hz (mul f) (add f) x (lst F n) = pf (redu f x) (rd f F) n % M f := by
  have e : (lst F n).map (redu f) = lst (rd f F) n := lst_map _ _ _
  rw [hz_redu, e, hz_pS f _ (redu_nonneg _ _) (redu_lt _ _) _ (lst_in (fun t _ => rd_in f F t)), ← pS_pf]
theorem pat_any {f : Int} (ft : Ft f) (F : Nat → Int) (n : Nat) (x : Int) (A : Option Addr) (c : Nat) (hF : Lim F n) (hn : n ≤ 5000) (x0 : 0 ≤ x) (x1 : x < 340282366920938463463374607431768211456) (w : World) (hA : ElemsAt w A (lst F n)) :
    Calls Tryd.prog 28 #[.int .u8 f, .slice A n c, .agg #[.int .u64 (lo x), .int .u64 (hi x)]] w fun e w' => e = .returned (.agg #[.int .u64 (lo (pf (redu f x) (rd f F) n % M f)), .int .u64 (hi (pf (redu f x) (rd f F) n % M f))]) ∧ Below w.heap.size w w' := by
  have h := at_any f x (mul f) (add f) (lst F n) A c hF.ok (by rw [lst_length]; omega) x0 x1 ft.hmul ft.hadd w hA
  rw [hz_lst, lst_length] at h
  exact h
theorem rd_same {f : Int} {F : Nat → Int} (h : ∀ t, 0 ≤ F t ∧ F t < M f) : rd f F = F := by
  funext t
  exact redu_of_lt (h t).1 (h t).2
theorem ml_tl (F : Nat → Int) (d : Nat → Int) : ∀ n k, ml (lst F (tl F n)) d k = ml (lst F n) d k
  | 0, k => rfl
  | n + 1, k => by
    rw [tl]
    split
    · rename_i e
      rw [lst_succ, ml_snoc, e, Int.zero_mul, Int.add_zero]
      exact ml_tl F d n k
    · rfl
theorem ml_nil : ∀ (l : List Int) (k : Nat), ml l (fun _ => 0) k = 0
  | [], k => rfl
  | a :: l, k => by
    have h : ml l (fun _ => 0) = fun _ => 0 := funext (ml_nil l)
    show a * 0 + sh (ml l (fun _ => 0)) k = 0
    rw [h, sh_zero]
    simp
theorem cs_lst (a b : Nat → Int) (nb na k : Nat) : cs a b nb na k = ml (lst a na) (ext b nb) k := cs_ml a b nb na k
end Go.Proofs.YtailpfbdanhpmaaDoor
