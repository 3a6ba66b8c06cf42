/-
  What the law's walk asks of a gadget, of each kind.
-/
import Derived.Test.YtailpfbdanhpmaaGvD
namespace Go.Proofs.Ytailpfbdanhpmaa
open Go.RowKit F Flow
set_option linter.unusedVariables false

/-- All that the law's walk asks of a gadget. -/
structure Gd (f k m : Int) (A : Option Addr) (n c N D : Nat) (C : World → Prop) (val : List Int → Int) : Prop where
  up : ∀ w w', Below w.heap.size w w' → C w → C w'
  big : 1 ≤ N ∧ N ≤ 40
  ar : ∀ w, Calls Try.prog 8 #[gvl k A n c m] w fun e w' => e = .returned (.int .i64 (N : Int)) ∧ Below w.heap.size w w'
  de : ∀ w, Calls Try.prog 12 #[gvl k A n c m] w fun e w' => e = .returned (.int .i64 (D : Int)) ∧ Below w.heap.size w w'
  prog : ∀ xs q d w, xs.length = N → InF f xs → C w → Row w q xs → Calls Try.prog 10 #[gvl k A n c m, .int .u8 f, .slice (some ⟨q, 0, none⟩) N d] w fun e w' => e = .returned (.tuple #[.agg #[.int .u64 (lo (val xs)), .int .u64 (hi (val xs))], .int .i64 0]) ∧ Below w.heap.size w w'
  sz : ∀ L B d w, L ≠ N → L ≤ 200 → C w → Calls Try.prog 10 #[gvl k A n c m, .int .u8 f, .slice B L d] w fun e w' => e = .returned (.tuple #[.agg #[.int .u64 0, .int .u64 0], .int .i64 9]) ∧ Below w.heap.size w w'
  law : ∀ xs q d w, xs.length = N → InF f xs → C w → Row w q xs → Calls Try.prog 11 #[.int .i64 f, gvl k A n c m, .slice (some ⟨q, 0, none⟩) N d] w fun e w' => e = .returned (.agg #[.int .u64 (lo (val xs)), .int .u64 (hi (val xs))]) ∧ Below w.heap.size w w'
/-- Which kind it is. -/
def Kase (k m : Int) (n N D : Nat) : Prop := (k = 1 ∧ N = 2 ∧ D = 2) ∨ (k = 2 ∧ N = 1 ∧ n = D + 1 ∧ D ≤ 5) ∨ (k = 3 ∧ (N : Int) = 2 * m ∧ D = 2 ∧ 0 ≤ m ∧ m ≤ 16)
def GOut (f : Int) (w : World) (e : Ending) (w' : World) : Prop := ∃ k m A n c N D C val, e = .returned (gvl k A n c m) ∧ Below w.heap.size w w' ∧ C w' ∧ Gd f k m A n c N D C val ∧ Kase k m n N D ∧ n ≤ 10 ∧ 0 ≤ k ∧ k ≤ 3 ∧ 0 ≤ m ∧ m ≤ 16
/-- The field's own. -/
structure Fo (f : Int) : Prop where
  hval : ∀ w, Calls Try.prog 27 #[.int .u8 f] w fun e w' => e = .returned (.bool true) ∧ Below w.heap.size w w'
  hin : ∀ x, 0 ≤ x → x < M f → ∀ w, Calls Try.prog 38 #[.int .u8 f, .agg #[.int .u64 (lo x), .int .u64 (hi x)]] w fun e w' => e = .returned (.bool true) ∧ Below w.heap.size w w'
  hmul : OpBy 21 f (mul f)
  hadd : OpBy 20 f (add f)
theorem fo_one : Fo 1 := ⟨fvalid_one, fin_true_one, opBy_mul1, opBy_add1⟩
theorem fo_two : Fo 2 := ⟨fvalid_two, fin_true_two, opBy_mul2, opBy_add2⟩
theorem takes_of {f k m : Int} {A : Option Addr} {n c N : Nat} {C : World → Prop} (hN : N ≤ 100) (hup : ∀ w w', Below w.heap.size w w' → C w → C w') (hch : Fits f (gvl k A n c m) C)
    (har : ∀ w, Calls Try.prog 8 #[gvl k A n c m] w fun e w' => e = .returned (.int .i64 (N : Int)) ∧ Below w.heap.size w w') : Takes f (gvl k A n c m) N C :=
  fun L w hL hC => gci_any f k m A n c N L C hN hL hup hch har w hC
theorem gd_pairs {f k m : Int} (ho : Fo f) (hk : (k == 2) = false) {A : Option Addr} {n c Q D : Nat} {C : World → Prop} (hQ : 1 ≤ Q ∧ Q ≤ 20) (hup : ∀ w w', Below w.heap.size w w' → C w → C w') (hch : Fits f (gvl k A n c m) C)
    (har : ∀ w, Calls Try.prog 8 #[gvl k A n c m] w fun e w' => e = .returned (.int .i64 ((Q * 2 : Nat) : Int)) ∧ Below w.heap.size w w')
    (hde : ∀ w, Calls Try.prog 12 #[gvl k A n c m] w fun e w' => e = .returned (.int .i64 (D : Int)) ∧ Below w.heap.size w w') :
    Gd f k m A n c (Q * 2) D C (fun xs => prs (mul f) (add f) xs Q) where
  up := hup
  big := by omega
  ar := har
  de := hde
  prog := fun xs q d w hl hi hC hr => gof_pairs f k m hk A n c xs Q hl hQ.2 hi.ok C hup (takes_of (by omega) hup hch har) _ _ ho.hmul ho.hadd (prs_ok f xs) _ d w hC hr.elems
  sz := fun L B d w hne hL hC => gof_size f k m A n c (Q * 2) L C hup (takes_of (by omega) hup hch har) hne hL B d w hC
  law := fun xs q d w hl hi hC hr => lof_pairs f k m hk A n c xs Q hl hQ.2 hi.ok _ d w hr.elems
theorem one_row {xs : List Int} (h : xs.length = 1) : xs = [xs.getD 0 0] := by
  match xs, h with
  | [x], _ => rfl
theorem gd_eval {f : Int} (ho : Fo f) {g c N : Nat} {cs : List Int} (hN : N ≤ 2) (hl : cs.length = N + 2) (hi : InF f cs) (hlast : cs.getD (N + 1) 0 ≠ 0) :
    Gd f 2 0 (some ⟨g, 0, none⟩) (N + 2) c 1 (N + 1) (fun w => ElemsAt w (some ⟨g, 0, none⟩) cs) (fun xs => pS (xs.getD 0 0) cs % M f) := by
  have hup : ∀ w w' : World, Below w.heap.size w w' → ElemsAt w (some ⟨g, 0, none⟩) cs → ElemsAt w' (some ⟨g, 0, none⟩) cs := fun w w' hb h => h.up hb
  have hch : Fits f (gvl 2 (some ⟨g, 0, none⟩) (N + 2) c 0) (fun w => ElemsAt w (some ⟨g, 0, none⟩) cs) := fun w h => gch_eval f cs N hl hN hi hlast g c 0 ho.hval ho.hin w h
  have har := gar_eval (some ⟨g, 0, none⟩) (N + 2) c 0
  refine ⟨hup, by omega, har, gde_eval _ N c 0 hN, fun xs q d w hx hxi hC hr => ?_, fun L B d w hne hL hC => gof_size f 2 0 _ _ _ 1 L _ hup (takes_of (by omega) hup hch har) hne hL B d w hC, fun xs q d w hx hxi hC hr => ?_⟩
  · have hb := hxi 0 (by omega)
    have hM := M_lt f
    have h := gof_eval f 0 (xs.getD 0 0) g c cs (N + 2) hl (by omega) hi.ok _ hup (takes_of (by omega) hup hch har) (fun _ h => h) hb.1 (by omega) _ _ ho.hmul ho.hadd q d w hC (by rw [← one_row hx]; exact hr)
    rw [hz_pS f _ hb.1 hb.2 cs hi] at h
    exact h
  · have hb := hxi 0 (by omega)
    exact lof_eval f 0 (xs.getD 0 0) _ c cs (N + 2) hl (by omega) hi hb.1 hb.2 q d w hC (by rw [← one_row hx]; exact hr)
theorem sg_any {f : Int} (ho : Fo f) (kd mn : Int) (A : Option Addr) (cs : List Int) (n c : Nat) (hn : cs.length = n) (hm : n ≤ maxLen) (hcs : ElemsOK cs) (k0 : 0 ≤ kd) (m0 : 0 ≤ mn) (m1 : mn ≤ 255) (w : World) (hA : ElemsAt w A cs) :
    Calls Try.prog 7 #[svl kd A n c mn, .int .i64 f] w (GOut f w) := by
  have h3 : kd % 3 = 0 ∨ kd % 3 = 1 ∨ kd % 3 = 2 := by omega
  rcases h3 with hk | hk | hk
  · refine (sg_mul f kd mn A n c k0 hk w).mono ?_
    rintro e w' ⟨rfl, hb⟩
    exact ⟨1, 0, none, 0, 0, 1 * 2, 2, fun _ => True, _, rfl, hb, trivial, gd_pairs (Q := 1) ho (by decide) (by omega) (fun _ _ _ h => h) (fun w _ => gch_mul f none 0 0 0 ho.hval w) (gar_mul none 0 0 0) (gde_mul none 0 0 0), .inl ⟨rfl, rfl, rfl⟩, by omega, by omega, by omega, by omega, by omega⟩
  · refine (sg_par f kd mn A n c k0 hk m0 m1 w).mono ?_
    rintro e w' ⟨rfl, hb⟩
    obtain ⟨Q, hQ⟩ : ∃ Q : Nat, 1 + mn % 5 = (Q : Int) := ⟨(1 + mn % 5).toNat, by omega⟩
    rw [hQ]
    have q1 : 1 ≤ Q := by omega
    have q2 : Q ≤ 16 := by omega
    exact ⟨3, (Q : Int), none, 0, 0, Q * 2, 2, fun _ => True, _, rfl, hb, trivial, gd_pairs (Q := Q) ho (by decide) (by omega) (fun _ _ _ h => h) (fun w _ => gch_par f none 0 0 Q q1 q2 ho.hval w) (by rw [Nat.mul_comm]; exact gar_par none 0 0 Q q1 q2) (gde_par none 0 0 _), .inr (.inr ⟨rfl, by omega, rfl, by omega, by omega⟩), by omega, by omega, by omega, by omega, by omega⟩
  · obtain ⟨N, hN⟩ : ∃ N : Nat, mn % 3 = (N : Int) := ⟨(mn % 3).toNat, by omega⟩
    refine (sg_eval f kd mn A cs n c N hn hm hcs k0 hk hN m0 w hA).mono ?_
    rintro e w' ⟨g, c', cs', rfl, hb, hl, hi, hlast, hE⟩
    exact ⟨2, 0, _, _, _, 1, N + 1, _, _, rfl, hb, hE, gd_eval ho (by omega) hl hi hlast, .inr (.inl ⟨rfl, rfl, rfl, by omega⟩), by omega, by omega, by omega, by omega, by omega⟩
end Go.Proofs.Ytailpfbdanhpmaa
