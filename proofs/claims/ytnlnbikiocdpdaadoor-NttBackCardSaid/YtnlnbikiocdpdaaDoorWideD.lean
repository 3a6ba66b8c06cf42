/-
  Contracts of package wide: products modulo the modulus.
-/
import Derived.Test.YtnlnbikiocdpdaaDoorWideC
namespace Go.Proofs.YtnlnbikiocdpdaaDoor
open Go.RowKit F Flow
set_option linter.unusedVariables false

/-- The number that a block of four words holds. -/
def inner (b : Nat) (w : World) : Nat :=
  match w.heap[b]? with
  | some (.cells c _ _) => (val4 (intOf (c.getD 0 undef)) (intOf (c.getD 1 undef)) (intOf (c.getD 2 undef)) (intOf (c.getD 3 undef))).toNat
  | _ => 0
theorem inner_of {b : Nat} {w : World} {n0 n1 n2 n3 : Int} {t : TypeId} (h : w.heap[b]? = some (.cells #[.int .u64 n0, .int .u64 n1, .int .u64 n2, .int .u64 n3] t (0, 0))) : inner b w = (val4 n0 n1 n2 n3).toNat := by
  unfold inner; rw [h]; rfl
theorem blk4 {w : World} {b : Nat} {u0 u1 u2 u3 : Value} {t : TypeId} (h : w.heap[b]? = some (.cells #[u0, u1, u2, u3] t (0, 0))) :
    w.cell? ⟨b, 0, none⟩ = some u0 ∧ w.cell? ⟨b, 1, none⟩ = some u1 ∧ w.cell? ⟨b, 2, none⟩ = some u2 ∧ w.cell? ⟨b, 3, none⟩ = some u3 ∧
      w.frozen? ⟨b, 0, none⟩ = false ∧ w.frozen? ⟨b, 1, none⟩ = false ∧ w.frozen? ⟨b, 2, none⟩ = false ∧ w.frozen? ⟨b, 3, none⟩ = false := by
  refine ⟨?_, ?_, ?_, ?_, ?_, ?_, ?_, ?_⟩ <;> simp [World.cell?, World.frozen?, h]
theorem store4 {w : World} {b : Nat} {x0 x1 x2 x3 u0 u1 u2 u3 : Value} {t : TypeId} (h : w.heap[b]? = some (.cells #[x0, x1, x2, x3] t (0, 0))) :
    ((((w.setCell ⟨b, 0, none⟩ u0).setCell ⟨b, 1, none⟩ u1).setCell ⟨b, 2, none⟩ u2).setCell ⟨b, 3, none⟩ u3).heap[b]? = some (.cells #[u0, u1, u2, u3] t (0, 0)) :=
  store1 (store1 (store1 (store1 h)))
theorem store4_far {w : World} {b k : Nat} {o : Obj} {u0 u1 u2 u3 : Value} (h : w.heap[k]? = some o) (hk : k ≠ b) :
    ((((w.setCell ⟨b, 0, none⟩ u0).setCell ⟨b, 1, none⟩ u1).setCell ⟨b, 2, none⟩ u2).setCell ⟨b, 3, none⟩ u3).heap[k]? = some o :=
  store_far (store_far (store_far (store_far h hk) hk) hk) hk
theorem below_store4 {B : Nat} {a w : World} {b : Nat} {u0 u1 u2 u3 : Value} (h : Below B a w) (hb : B ≤ b) :
    Below B a ((((w.setCell ⟨b, 0, none⟩ u0).setCell ⟨b, 1, none⟩ u1).setCell ⟨b, 2, none⟩ u2).setCell ⟨b, 3, none⟩ u3) :=
  (((h.setCell (p := ⟨b, 0, none⟩) hb _).setCell (p := ⟨b, 1, none⟩) hb _).setCell (p := ⟨b, 2, none⟩) hb _).setCell (p := ⟨b, 3, none⟩) hb _

/-- What a product's folding knows. -/
def MInv (w : World) (X Y : Int) (b : Nat) (n0 n1 n2 n3 : Int) (wr : World) : Prop :=
  Below w.heap.size w wr ∧ wr.heap[w.heap.size + 1 + 1]? = some (.cells #[.int .u64 0, .int .u64 0] 34 (0, 0)) ∧ wr.heap[b]? = some (.cells #[.int .u64 n0, .int .u64 n1, .int .u64 n2, .int .u64 n3] 75 (0, 0)) ∧
    Word n0 ∧ Word n1 ∧ Word n2 ∧ Word n3 ∧ val4 n0 n1 n2 n3 % M 2 = mul 2 X Y
theorem fold_less {n0 n1 n2 n3 : Int} (h0 : Word n0) (h1 : Word n1) (h2 : Word n2) (h3 : Word n3) (hne : n2 ≠ 0 ∨ n3 ≠ 0) :
    (val4 (g0 n0 n2) (g1 n0 n1 n2 n3) (g2 n0 n1 n2 n3) (g3 n0 n1 n2 n3)).toNat < (val4 n0 n1 n2 n3).toNat := by
  have h := (fold_facts h0 h1 h2 h3).2.2.2
  rw [h]
  unfold val4 val Word at *
  rw [M2]
  omega
theorem fold_same {n0 n1 n2 n3 : Int} (h0 : Word n0) (h1 : Word n1) (h2 : Word n2) (h3 : Word n3) :
    val4 (g0 n0 n2) (g1 n0 n1 n2 n3) (g2 n0 n1 n2 n3) (g3 n0 n1 n2 n3) % M 2 = val4 n0 n1 n2 n3 % M 2 := by
  rw [(fold_facts h0 h1 h2 h3).2.2.2, Int.sub_mul_emod_self_right]
theorem pr_mod {X Y : Int} (hX : 0 ≤ X) (hX' : X < 340282366920938463463374607431768211456) (hY : 0 ≤ Y) (hY' : Y < 340282366920938463463374607431768211456) :
    val4 (pr0 (lo X) (hi X) (lo Y) (hi Y)) (pr1 (lo X) (hi X) (lo Y) (hi Y)) (pr2 (lo X) (hi X) (lo Y) (hi Y)) (pr3 (lo X) (hi X) (lo Y) (hi Y)) % M 2 = mul 2 X Y := by
  rw [pr_val, val_lohi, val_lohi]
  unfold mul redu
  rw [if_neg (by decide), if_neg (by decide), ← Int.mul_emod]

set_option maxHeartbeats 2000000 in
theorem wmul_any (X Y : Int) (hX : 0 ≤ X) (hX' : X < 340282366920938463463374607431768211456) (hY : 0 ≤ Y) (hY' : Y < 340282366920938463463374607431768211456) (w : World) :
    Calls Tryd.prog 48 #[.agg #[.int .u64 (lo X), .int .u64 (hi X)], .agg #[.int .u64 (lo Y), .int .u64 (hi Y)]] w fun e w' => e = .returned (.agg #[.int .u64 (lo (mul 2 X Y)), .int .u64 (hi (mul 2 X Y))]) ∧ Below w.heap.size w w' := by
  have wo := pr_words (lo_nonneg X) (lo_lt X) (hi_nonneg hX) (hi_lt hX') (lo_nonneg Y) (lo_lt Y) (hi_nonneg hY) (hi_lt hY')
  have wv := Lib.hid (pr_mod hX hX' hY hY')
  go_enter Tryd.func48, Tryd.ntmps48
  go_wp2_with fail
  refine name_calls (fun w1 => Below w.heap.size w w1 ∧ w1.heap[w.heap.size + 1 + 1]? = some (.cells #[.int .u64 0, .int .u64 0] 34 (0, 0)))
    ⟨(((Below.refl _ _).alloc (Nat.le_refl _) _).alloc (by simp) _).alloc (by simp; omega) _, alloc_at (by simp)⟩ ?_
  rintro w1 ⟨b1, k2⟩
  refine call_then (wprod_raw _ _ _ _ (lo_nonneg X) (lo_lt X) (hi_nonneg hX) (hi_lt hX') (lo_nonneg Y) (lo_lt Y) (hi_nonneg hY) (hi_lt hY') _) ?_
  intro w2 hw2
  replace b1 := below_next b1 b1.size hw2
  replace k2 := keeps hw2 k2
  clear hw2
  generalize pr0 (lo X) (hi X) (lo Y) (hi Y) = r0 at *
  generalize pr1 (lo X) (hi X) (lo Y) (hi Y) = r1 at *
  generalize pr2 (lo X) (hi X) (lo Y) (hi Y) = r2 at *
  generalize pr3 (lo X) (hi X) (lo Y) (hi Y) = r3 at *
  go_wp2_with fail
  have hbig : w.heap.size + 1 + 1 < w2.heap.size := lt_of_get k2
  refine name_wp (MInv w X Y w2.heap.size r0 r1 r2 r3) ⟨b1.alloc b1.size _, alloc_keeps k2, alloc_at rfl, wo.1, wo.2.1, wo.2.2.1, wo.2.2.2, wv.out⟩ ?_
  clear b1 k2 wo wv
  generalize w2.heap.size = b at *
  intro w3 h3
  go_loopw [9] (fun _ wr => ∃ n0 n1 n2 n3 : Int, MInv w X Y b n0 n1 n2 n3 wr) (fun _ wr => inner b wr)
  case atStart => exact ⟨_, _, _, _, h3⟩
  case round =>
    obtain ⟨n0, n1, n2, n3, hm⟩ := hrel
    clear h3
    obtain ⟨mb, mk, m4, mw0, mw1, mw2, mw3, mv⟩ := hm
    obtain ⟨e0, e1, e2, e3, x0, x1, x2, x3⟩ := blk4 m4
    have hin := Lib.hid (inner_of m4)
    by_cases hn2 : n2 = 0
    · subst hn2
      by_cases hn3 : n3 = 0
      · subst hn3
        obtain ⟨z0, z1⟩ := id mw0
        obtain ⟨z2, z3⟩ := id mw1
        have hv : redu 2 (val n0 n1) = mul 2 X Y := by
          rw [← mv]
          unfold redu val val4
          rw [if_neg (by decide)]
          congr 1
          omega
        have hr := wof_any (val n0 n1) (by unfold val; omega) (by unfold val; omega)
        rw [lo_val z0 z1, hi_val z0 z1, hv] at hr
        replace hr := Lib.hid hr
        clear hv mv
        go_wp2_with fail
        refine call_then (hr.out _) ?_
        intro w4 hw4
        have b1 := below_next mb mb.size hw4
        have k1 := keeps hw4 mk
        clear hw4 e0 e1 e2 e3 x0 x1 x2 x3 m4 mk mb
        obtain ⟨c1, d1, f1, g1⟩ := blk2 k1
        go_wp2
        obtain ⟨c2, d2, _, _⟩ := blk2 (store2 (u := .int .u64 (lo (mul 2 X Y))) (v := .int .u64 (hi (mul 2 X Y))) k1)
        exact bodyPost_ret (v := .agg #[.int .u64 (lo (mul 2 X Y)), .int .u64 (hi (mul 2 X Y))]) (by simp [results, Tryd.results48, go_sem, c2, d2]) rfl ⟨rfl, below_store2 b1 (by omega)⟩
      · have hc : (n3 != 0) = true := by simpa using hn3
        have hless := Lib.hid (fold_less mw0 mw1 mw2 mw3 (.inr hn3))
        clear hn3
        have hf := (fold_facts mw0 mw1 mw2 mw3).2.2.1
        have hs := Lib.hid ((fold_same mw0 mw1 mw2 mw3).trans mv)
        go_wp2_with fail
        refine call_then (wfold_raw n0 n1 (0) n3 mw0 mw1 mw2 mw3 _) ?_
        intro w4 hw4
        replace mb := below_next mb mb.size hw4
        replace mk := keeps hw4 mk
        replace m4 := keeps hw4 m4
        clear hw4 e0 e1 e2 e3 x0 x1 x2 x3
        obtain ⟨e0, e1, e2, e3, x0, x1, x2, x3⟩ := blk4 m4
        go_wp2
        go_roundw
        case rel => exact ⟨_, _, _, _, below_store4 mb (by omega), store4_far mk (by omega), store4 m4, hf.1, hf.2.1, hf.2.2.1, hf.2.2.2, hs.out⟩
        case measure => rw [inner_of (store4 m4), hin.out]; exact hless.out
    · have hc : (n2 != 0) = true := by simpa using hn2
      have hless := Lib.hid (fold_less mw0 mw1 mw2 mw3 (.inl hn2))
      clear hn2
      have hf := (fold_facts mw0 mw1 mw2 mw3).2.2.1
      have hs := Lib.hid ((fold_same mw0 mw1 mw2 mw3).trans mv)
      go_wp2_with fail
      refine call_then (wfold_raw n0 n1 (n2) n3 mw0 mw1 mw2 mw3 _) ?_
      intro w4 hw4
      replace mb := below_next mb mb.size hw4
      replace mk := keeps hw4 mk
      replace m4 := keeps hw4 m4
      clear hw4 e0 e1 e2 e3 x0 x1 x2 x3
      obtain ⟨e0, e1, e2, e3, x0, x1, x2, x3⟩ := blk4 m4
      go_wp2
      go_roundw
      case rel => exact ⟨_, _, _, _, below_store4 mb (by omega), store4_far mk (by omega), store4 m4, hf.1, hf.2.1, hf.2.2.1, hf.2.2.2, hs.out⟩
      case measure => rw [inner_of (store4 m4), hin.out]; exact hless.out
end Go.Proofs.YtnlnbikiocdpdaaDoor
