import Derived.Test.YtebgfelbffgnbaaGreatDoorBI
import Derived.Test.YtebgfelbffgnbaaGreatDoorBA
import Derived.Laws.AppendOwn
import Derived.OwnWalk
import Derived.Below
/-
  Contracts of package field: what is done place by place, whatever is done with two; Dot; Powers.
-/
namespace Go.Proofs.YtebgfelbffgnbaaGreatDoor
open Go.RowKit F Flow
set_option linter.unusedVariables false
attribute [local go_sem] eql_elem

theorem zip_length {op : Int → Int → Int} {xs ys : List Int} (h : xs.length = ys.length) : (List.zipWith op xs ys).length = xs.length := by simp [h]
theorem zip_at {op : Int → Int → Int} {xs ys : List Int} {k : Nat} (h : xs.length = ys.length) (hk : k < xs.length) : (List.zipWith op xs ys).getD k 0 = op (xs.getD k 0) (ys.getD k 0) := by
  have hk2 : k < ys.length := by omega
  simp [List.getElem?_zipWith, hk, hk2]
/-- What two elements come to, by a call that makes new memory alone. -/
def OpBy (f : FuncId) (n : Int) (op : Int → Int → Int) : Prop :=
  ∀ a b, 0 ≤ a → a < 340282366920938463463374607431768211456 → 0 ≤ b → b < 340282366920938463463374607431768211456 → (0 ≤ op a b ∧ op a b < 340282366920938463463374607431768211456) ∧
      ∀ w, Calls Tryz.prog f #[.int .u8 n, .agg #[.int .u64 (lo a), .int .u64 (hi a)], .agg #[.int .u64 (lo b), .int .u64 (hi b)]] w fun e w' => e = .returned (.agg #[.int .u64 (lo (op a b)), .int .u64 (hi (op a b))]) ∧ Below w.heap.size w w'
set_option maxHeartbeats 2000000 in
theorem feach_fMul (n : Int) (op : Int → Int → Int) (xs ys : List Int) (A B : Option Addr) (c d : Nat) (hx : ElemsOK xs) (hy : ElemsOK ys) (hm : xs.length ≤ 4096) (hxy : xs.length = ys.length)
    (hval : ∀ w, Calls Tryz.prog 75 #[.int .u8 n] w fun e w' => e = .returned (.bool true) ∧ Below w.heap.size w w')
    (hop : OpBy 87 n op) (w : World) (hA : ElemsAt w A xs) (hB : ElemsAt w B ys) :
    Calls Tryz.prog 89 #[.int .u8 n, .func (.func 87) #[.int .u8 n] #[], .slice A xs.length c, .slice B ys.length d] w fun e w' =>
      ∃ g, e = .returned (.tuple #[.slice (some ⟨g, 0, none⟩) xs.length xs.length, .int .i64 0]) ∧ Below w.heap.size w w' ∧ w.heap.size ≤ g ∧ Row w' g (List.zipWith op xs ys) := by
  have hmk := make_elems xs.length (by omega)
  have hzl := Lib.hid (zip_length (op := op) hxy)
  have hzk := Lib.hid (fun k => zip_at (op := op) (k := k) hxy)
  generalize List.zipWith op xs ys = zs at *
  rw [← hxy]
  replace hval := Lib.hid hval
  replace hxy := Lib.hid hxy
  go_enter Tryz.func89, Tryz.ntmps89
  go_wp2_with fail
  refine call_then (hval.out _) ?_
  intro w1 hb
  go_wp2
  refine name_wp (fun w2 => Below w.heap.size w w2 ∧ Row w2 w1.heap.size (zs.take 0 ++ List.replicate (xs.length - 0) 0)) ⟨hb.alloc hb.size _, by rw [List.take_zero, List.nil_append, Nat.sub_zero]; exact alloc_at rfl⟩ ?_
  have hl := hb.size
  clear hb hmk hval
  generalize w1.heap.size = l at *
  rintro w2 ⟨hb, hr⟩
  go_loopw [25] (fun i wr => ∃ k : Nat, k ≤ xs.length ∧ i = .int .i64 k ∧ Below w.heap.size w wr ∧ Row wr l (zs.take k ++ List.replicate (xs.length - k) 0)) (fun i _ => xs.length - (intOf i).toNat)
  case atStart => exact ⟨0, Nat.zero_le _, rfl, hb, hr⟩
  case round =>
    obtain ⟨k, hk, rfl, hb, hr⟩ := hrel
    by_cases hlt : k < xs.length
    · have hlt2 : k < ys.length := by rw [← hxy.out]; exact hlt
      obtain ⟨b, o, rfl, -, -⟩ := (hA.up hb) k hlt
      obtain ⟨b2, o2, rfl, -, -⟩ := (hB.up hb) k hlt2
      have hxk := hx.at_ hlt
      have hyk := hy.at_ hlt2
      obtain ⟨hR, hc⟩ := hop _ _ hxk.1 hxk.2 hyk.1 hyk.2
      have hset := Lib.hid (set_take hlt hzl.out (hzk.out k hlt))
      have hlen : k < (zs.take k ++ List.replicate (xs.length - k) 0).length := by have := hzl.out; simp; omega
      have c0 : ∀ v, Below wr.heap.size wr v → ∃ p q, (some (⟨b, o, none⟩ : Addr) = some ⟨p, q, none⟩) ∧ v.cell? ⟨p, q + k * 2, none⟩ = some (.int .u64 (lo (xs.getD k 0))) ∧ v.cell? ⟨p, q + k * 2 + 1, none⟩ = some (.int .u64 (hi (xs.getD k 0))) := fun v hv => ((hA.up hb).up hv) k hlt
      have c2 : ∀ v, Below wr.heap.size wr v → ∃ p q, (some (⟨b2, o2, none⟩ : Addr) = some ⟨p, q, none⟩) ∧ v.cell? ⟨p, q + k * 2, none⟩ = some (.int .u64 (lo (ys.getD k 0))) ∧ v.cell? ⟨p, q + k * 2 + 1, none⟩ = some (.int .u64 (hi (ys.getD k 0))) := fun v hv => ((hB.up hb).up hv) k hlt2
      generalize xs.getD k 0 = x at *
      generalize ys.getD k 0 = y at *
      replace hc := Lib.hid hc
      replace hop := Lib.hid hop
      replace c0 := Lib.hid c0
      replace c2 := Lib.hid c2
      have i0 : (0 : Int) ≤ (k : Int) := by omega
      have i1 : (k : Int) < (xs.length : Int) := by omega
      go_wp2
      refine wp_region_flow1 13 (by kernel_rfl) (by kernel_rfl) (by kernel_rfl) ?_
      apply Exists.intro
      refine ⟨fun ι _ φ hφ => ?_, fun wt hwt => ?_⟩
      · have a0 : ∀ i, (φ i).cell? ⟨b, o + k * 2, none⟩ = some (.int .u64 (lo x)) := fun i => by obtain ⟨p, q, e, h1, h2⟩ := c0.out _ (hφ.old i); cases e; exact h1
        have a1 : ∀ i, (φ i).cell? ⟨b, o + k * 2 + 1, none⟩ = some (.int .u64 (hi x)) := fun i => by obtain ⟨p, q, e, h1, h2⟩ := c0.out _ (hφ.old i); cases e; exact h2
        have a2 : ∀ i, (φ i).cell? ⟨b2, o2 + k * 2, none⟩ = some (.int .u64 (lo y)) := fun i => by obtain ⟨p, q, e, h1, h2⟩ := c2.out _ (hφ.old i); cases e; exact h1
        have a3 : ∀ i, (φ i).cell? ⟨b2, o2 + k * 2 + 1, none⟩ = some (.int .u64 (hi y)) := fun i => by obtain ⟨p, q, e, h1, h2⟩ := c2.out _ (hφ.old i); cases e; exact h2
        simp only [List.take_succ_cons, List.take_zero]
        repeat (go_big_quiet_step ((first
          | (go_at_call 87; exact flow_call hφ (hc.out _)))))
        exact wpQuiet_nil rfl
      replace hb := below_next hb hb.size hwt
      replace hr := hr.up hwt
      clear hwt
      simp only [List.drop_succ_cons, List.drop_zero]
      have s0 := hr.lo hlen
      have s1 := hr.hi hlen
      have f0 := hr.free (k * 2)
      have f1 := hr.free (k * 2 + 1)
      replace hlen := Lib.hid hlen
      go_wp2
      clear s0 s1 f0 f1
      go_roundw
      case rel => exact ⟨k + 1, hlt, by go_num, (hb.setCell (p := ⟨l, k * 2, none⟩) hl _).setCell (p := ⟨l, k * 2 + 1, none⟩) hl _, by rw [← hset.out]; exact hr.set hlen.out _⟩
      case measure => simp [intOf]; omega
    · have hkl : k = xs.length := by omega
      subst hkl
      clear hop hA hB
      rw [Nat.sub_self, List.replicate_zero, List.append_nil, ← hzl.out, List.take_length] at hr
      replace hr := Lib.hid hr
      go_wp2
      go_ret2
      exact ⟨l, rfl, hb, hl, hr.out⟩
theorem ElemsOK.zip {op : Int → Int → Int} {xs ys : List Int} (h : ∀ a b, 0 ≤ a → a < 340282366920938463463374607431768211456 → 0 ≤ b → b < 340282366920938463463374607431768211456 → (0 ≤ op a b ∧ op a b < 340282366920938463463374607431768211456)) (hx : ElemsOK xs) (hy : ElemsOK ys) : ElemsOK (List.zipWith op xs ys) := by
  intro z hz
  induction xs generalizing ys with
  | nil => simp at hz
  | cons x xs ih =>
    cases ys with
    | nil => simp at hz
    | cons y ys =>
      rw [List.zipWith_cons_cons, List.mem_cons] at hz
      rcases hz with rfl | hz
      · exact h _ _ (hx x (by simp)).1 (hx x (by simp)).2 (hy y (by simp)).1 (hy y (by simp)).2
      · exact ih (fun a ha => hx a (by simp [ha])) (fun a ha => hy a (by simp [ha])) hz
theorem fdot_any (n : Int) (op add : Int → Int → Int) (xs ys : List Int) (A B : Option Addr) (c d : Nat) (hx : ElemsOK xs) (hy : ElemsOK ys) (hm : xs.length ≤ 4096) (hxy : xs.length = ys.length)
    (hval : ∀ w, Calls Tryz.prog 75 #[.int .u8 n] w fun e w' => e = .returned (.bool true) ∧ Below w.heap.size w w')
    (hop : OpBy 87 n op) (hadd : OpBy 82 n add) (w : World) (hA : ElemsAt w A xs) (hB : ElemsAt w B ys) :
    Calls Tryz.prog 70 #[.int .u8 n, .slice A xs.length c, .slice B ys.length d] w fun e w' =>
      e = .returned (.tuple #[.agg #[.int .u64 (lo ((List.zipWith op xs ys).foldl add 0)), .int .u64 (hi ((List.zipWith op xs ys).foldl add 0))], .int .i64 0]) ∧ Below w.heap.size w w' := by
  have he := Lib.hid (fun w hA hB => feach_fMul n op xs ys A B c d hx hy hm hxy hval hop w hA hB)
  have hz := ElemsOK.zip (fun a b a0 a1 b0 b1 => (hop a b a0 a1 b0 b1).1) hx hy
  have hl := zip_length (op := op) hxy
  have hs := Lib.hid (fun c => fsum_gen n add (List.zipWith op xs ys) · c hz (by unfold maxLen; omega) hadd)
  rw [hl] at hs
  clear hl hxy hval hop hx hy hz hadd
  generalize List.zipWith op xs ys = zs at *
  generalize zs.foldl add 0 = z at *
  go_enter Tryz.func70, Tryz.ntmps70
  go_wp2_with fail
  refine name_calls (fun w1 => Below w.heap.size w w1 ∧ Holds w1 w.heap.size 0) ⟨(Below.refl _ _).alloc (Nat.le_refl _) _, alloc_at rfl⟩ ?_
  rintro w1 ⟨hb, k0⟩
  refine (he.out _ (hA.up hb) (hB.up hb)).mono ?_
  rintro e w2 ⟨g, rfl, hw, hg, hr⟩
  clear hA hB
  replace hb := below_next hb hb.size hw
  replace k0 := k0.up hw
  replace hr := Lib.hid hr
  clear hw
  go_wp2_with fail
  refine call_then (hs.out _ _ _ hr.out.elems) ?_
  intro w3 hw
  replace hb := below_next hb hb.size hw
  replace k0 := k0.up hw
  clear hw hr
  obtain ⟨r0, r1, u0, u1⟩ := blk2 k0
  go_wp2
  obtain ⟨p2, q2, _, _⟩ := blk2 (k0.set z)
  exact bodyPost_ret (v := .tuple #[.agg #[.int .u64 (lo z), .int .u64 (hi z)], .int .i64 0]) (by simp [results, Tryz.results70, go_sem, p2, q2]) rfl ⟨rfl, below_store2 hb (Nat.le_refl _)⟩
end Go.Proofs.YtebgfelbffgnbaaGreatDoor

/-
  Contracts of package field: powers of an element.
-/
namespace Go.Proofs.YtebgfelbffgnbaaGreatDoor
open Go.RowKit F Flow
set_option linter.unusedVariables false
attribute [local go_sem] eql_elem

/-- a to a number, by multiplying. -/
def power (op : Int → Int → Int) (a : Int) : Nat → Int
  | 0 => 1
  | n + 1 => op (power op a n) a
/-- 1, a, and so on. -/
def powers (op : Int → Int → Int) (a : Int) (n : Nat) : List Int := (List.range n).map (power op a)
theorem powers_length (op : Int → Int → Int) (a : Int) (n : Nat) : (powers op a n).length = n := by simp [powers]
theorem power_ok {op : Int → Int → Int} {a : Int} (h : ∀ x, 0 ≤ x → x < 340282366920938463463374607431768211456 → 0 ≤ op x a ∧ op x a < 340282366920938463463374607431768211456) : ∀ k, 0 ≤ power op a k ∧ power op a k < 340282366920938463463374607431768211456
  | 0 => by unfold power; decide
  | k + 1 => by have := power_ok h k; exact h _ this.1 this.2
set_option maxHeartbeats 2000000 in
theorem fpowers_any (n a : Int) (many : Nat) (op : Int → Int → Int) (a0 : 0 ≤ a) (a1 : a < 340282366920938463463374607431768211456) (h0 : 0 < many) (h1 : many ≤ 4096)
    (hval : ∀ w, Calls Tryz.prog 75 #[.int .u8 n] w fun e w' => e = .returned (.bool true) ∧ Below w.heap.size w w')
    (hone : ∀ w, Calls Tryz.prog 53 #[.int .u8 n] w fun e w' => e = .returned (.agg #[.int .u64 1, .int .u64 0]) ∧ Below w.heap.size w w')
    (hop : OpBy 87 n op) (w : World) :
    Calls Tryz.prog 77 #[.int .u8 n, .agg #[.int .u64 (lo a), .int .u64 (hi a)], .int .i64 (many : Int)] w fun e w' =>
      ∃ g, e = .returned (.slice (some ⟨g, 0, none⟩) many many) ∧ Below w.heap.size w w' ∧ w.heap.size ≤ g ∧ Row w' g (powers op a many) := by
  have hmk := make_elems many (by omega)
  have hmin : min (many : Int) 4096 = many := by omega
  have hpow := fun k => power_ok (op := op) (a := a) (fun x x0 x1 => (hop x a x0 x1 a0 a1).1) k
  have hstep : ∀ k, Hid (∀ w, Calls Tryz.prog 87 #[.int .u8 n, .agg #[.int .u64 (lo (power op a k)), .int .u64 (hi (power op a k))], .agg #[.int .u64 (lo a), .int .u64 (hi a)]] w fun e w' => e = .returned (.agg #[.int .u64 (lo (power op a (k + 1))), .int .u64 (hi (power op a (k + 1)))]) ∧ Below w.heap.size w w') :=
    fun k => (hop _ _ (hpow k).1 (hpow k).2 a0 a1).2
  replace hval := Lib.hid hval
  replace hone := Lib.hid hone
  replace hstep := Lib.hid hstep
  clear hop hpow
  go_enter Tryz.func77, Tryz.ntmps77
  go_wp2_with fail
  refine name_calls (fun w1 => Below w.heap.size w w1 ∧ Holds w1 w.heap.size a) ⟨(Below.refl _ _).alloc (Nat.le_refl _) _, alloc_at rfl⟩ ?_
  rintro w1 ⟨hb, k0⟩
  refine call_then (hval.out _) ?_
  intro w2 hw
  replace hb := below_next hb hb.size hw
  replace k0 := k0.up hw
  clear hw hval
  go_wp2_with fail
  clear hmin
  have hl := hb.size
  refine name_calls (fun w3 => Below w.heap.size w w3 ∧ Holds w3 w.heap.size a ∧ Row w3 w2.heap.size (List.replicate many 0)) ⟨hb.alloc hb.size _, k0.alloc _, alloc_at rfl⟩ ?_
  have hne : w.heap.size < w2.heap.size := lt_of_get k0
  clear hb k0 hmk
  generalize w2.heap.size = l at *
  rintro w3 ⟨hb, k0, hr⟩
  refine call_then (hone.out _) ?_
  intro w4 hw
  replace hb := below_next hb hb.size hw
  replace k0 := k0.up hw
  replace hr := hr.up hw
  clear hw hone
  go_wp2
  refine name_wp (fun w5 => Below w.heap.size w w5 ∧ Holds w5 w.heap.size a ∧ Row w5 l (powers op a 0 ++ List.replicate (many - 0) 0) ∧ Holds w5 w4.heap.size (power op a 0)) ⟨hb.alloc hb.size _, k0.alloc _, hr.alloc _, alloc_at rfl⟩ ?_
  have hs := hb.size
  have hlp : l < w4.heap.size := lt_of_get hr
  clear hb k0 hr
  generalize w4.heap.size = p at *
  rintro w5 ⟨hb, k0, hr, hp⟩
  go_loopw [24] (fun i wr => ∃ k : Nat, k ≤ many ∧ i = .int .i64 k ∧ Below w.heap.size w wr ∧ Holds wr w.heap.size a ∧ Row wr l (powers op a k ++ List.replicate (many - k) 0) ∧ Holds wr p (power op a k)) (fun i _ => many - (intOf i).toNat)
  case atStart => exact ⟨0, Nat.zero_le _, rfl, hb, k0, hr, hp⟩
  case round =>
    obtain ⟨k, hk, rfl, hb, k0, hr, hp⟩ := hrel
    by_cases hlt : k < many
    · have hlen : k < (powers op a k ++ List.replicate (many - k) 0).length := by simp [powers]; omega
      have hset : (powers op a k ++ List.replicate (many - k) 0).set k (power op a k) = powers op a (k + 1) ++ List.replicate (many - (k + 1)) 0 := by
        rw [List.set_append_right _ _ (by simp [powers])]
        rw [powers_length, Nat.sub_self, show many - k = (many - (k + 1)) + 1 by omega, List.replicate_succ, List.set_cons_zero]
        simp [powers, List.range_succ]
      have hc := hstep.out k
      generalize power op a k = x at *
      generalize hy : power op a (k + 1) = y at *
      replace hy := Lib.hid hy
      replace hset := Lib.hid hset
      have s0 := hr.lo hlen
      have s1 := hr.hi hlen
      have f0 := hr.free (k * 2)
      have f1 := hr.free (k * 2 + 1)
      obtain ⟨r0, r1, u0, u1⟩ := blk2 hp
      obtain ⟨q0, q1, _, _⟩ := blk2 k0
      have i0 : (0 : Int) ≤ (k : Int) := by omega
      have i1 : (k : Int) < (many : Int) := by omega
      have n1 : p ≠ l := by omega
      have n2 : w.heap.size ≠ l := by omega
      replace hlen := Lib.hid hlen
      go_wp2_with fail
      clear s0 s1 f0 f1 r0 r1 u0 u1 q0 q1
      refine name_calls (fun w6 => Below w.heap.size w w6 ∧ Holds w6 w.heap.size a ∧ Row w6 l (powers op a (k + 1) ++ List.replicate (many - (k + 1)) 0) ∧ Holds w6 p x)
        ⟨(hb.setCell (p := ⟨l, k * 2, none⟩) hl _).setCell (p := ⟨l, k * 2 + 1, none⟩) hl _, k0.far' n2, by rw [← hset.out]; exact hr.set hlen.out _, hp.far' n1⟩ ?_
      clear hb k0 hr hp hset hlen
      rintro w6 ⟨hb, k0, hr, hp⟩
      refine call_then (hc.out _) ?_
      intro w7 hw
      replace hb := below_next hb hb.size hw
      replace k0 := k0.up hw
      replace hr := hr.up hw
      replace hp := hp.up hw
      clear hw
      obtain ⟨r0, r1, u0, u1⟩ := blk2 hp
      go_wp2
      clear r0 r1 u0 u1
      go_roundw
      case rel => exact ⟨k + 1, hlt, by go_num, below_store2 hb hs, k0.far (by omega), hr.far (Ne.symm n1), by rw [hy.out]; exact hp.set _⟩
      case measure => simp [intOf]; omega
    · have hkl : k = many := by omega
      subst hkl
      rw [Nat.sub_self, List.replicate_zero, List.append_nil] at hr
      replace hr := Lib.hid hr
      clear hstep
      go_wp2
      go_ret
      exact ⟨l, rfl, hb, hl, hr.out⟩
/-- Each field's operations, as calls. -/
theorem opBy_add1 : OpBy 82 1 (add 1) := fun a b _ _ _ _ => ⟨by have := add_bound 1 a b; rw [M1] at this; omega, fadd_one a b⟩
theorem opBy_add2 : OpBy 82 2 (add 2) := fun a b a0 a1 b0 b1 => ⟨by have := add_bound 2 a b; rw [M2] at this; omega, fadd_two a b a0 a1 b0 b1⟩
theorem opBy_sub1 : OpBy 90 1 (sub 1) := fun a b _ _ _ _ => ⟨by have := sub_bound 1 a b; rw [M1] at this; omega, fsub_one a b⟩
theorem opBy_sub2 : OpBy 90 2 (sub 2) := fun a b a0 a1 b0 b1 => ⟨by have := sub_bound 2 a b; rw [M2] at this; omega, fsub_two a b a0 a1 b0 b1⟩
theorem opBy_mul1 : OpBy 87 1 (mul 1) := fun a b _ _ _ _ => ⟨by have := mul_bound 1 a b; rw [M1] at this; omega, fmul_one a b⟩
theorem opBy_mul2 : OpBy 87 2 (mul 2) := fun a b a0 a1 b0 b1 => ⟨by have := mul_bound 2 a b; rw [M2] at this; omega, fmul_two a b a0 a1 b0 b1⟩
/-- Slices that came in, in whatever world has new memory beside. -/
def Came (w : World) (A : Option Addr) (xs : List Int) (k : Nat) (b o : Nat) : Prop :=
  A = some ⟨b, o, none⟩ ∧ ∀ v, Below w.heap.size w v → v.cell? ⟨b, o + k * 2, none⟩ = some (.int .u64 (lo (xs.getD k 0))) ∧ v.cell? ⟨b, o + k * 2 + 1, none⟩ = some (.int .u64 (hi (xs.getD k 0)))
end Go.Proofs.YtebgfelbffgnbaaGreatDoor

/-
  Contracts of package field: inverses of a list, by one inverse for all.
-/
namespace Go.Proofs.YtebgfelbffgnbaaGreatDoor
open Go.RowKit F Flow
set_option linter.unusedVariables false
attribute [local go_sem] eql_elem

theorem mul_comm' (f a b : Int) : mul f a b = mul f b a := by unfold mul; rw [Int.mul_comm]
theorem redu_mul (f a b : Int) : redu f (mul f a b) = mul f a b := redu_of_lt (mul_bound f a b).1 (mul_bound f a b).2
theorem mul_assoc' (f a b c : Int) : mul f (mul f a b) c = mul f a (mul f b c) := by
  show redu f (mul f a b) * redu f c % M f = redu f a * redu f (mul f b c) % M f
  rw [redu_mul, redu_mul]
  unfold mul
  rw [Int.mul_emod, Int.emod_emod, ← Int.mul_emod, Int.mul_assoc]
  conv => rhs; rw [Int.mul_emod, Int.emod_emod, ← Int.mul_emod]
theorem mul_one' (f a : Int) : mul f a 1 = redu f a := by
  have h1 : redu f 1 = 1 := redu_of_lt (by omega) (by have := M_pos f; unfold M; split <;> omega)
  unfold mul
  rw [h1, Int.mul_one]
  exact Int.emod_eq_of_lt (redu_nonneg f a) (redu_lt f a)
/-- The product of the first elements. -/
def prods (f : Int) (xs : List Int) (k : Nat) : Int := (xs.take k).foldl (mul f) 1
theorem prods_succ {f : Int} {xs : List Int} {k : Nat} (hk : k < xs.length) : prods f xs (k + 1) = mul f (prods f xs k) (xs.getD k 0) := by
  unfold prods
  rw [List.take_succ_eq_append_getElem hk, List.foldl_append]
  simp [hk]
/-- Every element has one by which it is 1. -/
def Units (f : Int) (xs : List Int) (k : Nat) : Prop := ∀ i, i < k → i < xs.length → ∃ y, mul f (xs.getD i 0) y = 1
/-- What one division says of each element. -/
def InvBy (f : Int) : Prop := ∀ a, 0 ≤ a → a < 340282366920938463463374607431768211456 →
  (redu f a = 0 → ∀ w, Calls Tryz.prog 78 #[.int .u8 f, .agg #[.int .u64 (lo a), .int .u64 (hi a)]] w fun e w' => e = .returned (.tuple #[.agg #[.int .u64 0, .int .u64 0], .int .i64 8]) ∧ Below w.heap.size w w') ∧
  (redu f a ≠ 0 → ∃ v, (0 ≤ v ∧ v < M f) ∧ mul f a v = 1 ∧ ∀ w, Calls Tryz.prog 78 #[.int .u8 f, .agg #[.int .u64 (lo a), .int .u64 (hi a)]] w fun e w' => e = .returned (.tuple #[.agg #[.int .u64 (lo v), .int .u64 (hi v)], .int .i64 0]) ∧ Below w.heap.size w w')
theorem invBy1 : InvBy 1 := fun a a0 a1 => by
  have hl : redu 1 (lo a) = redu 1 a := redu_lo1 a
  refine ⟨fun hz w => ?_, fun hz => ?_⟩
  · exact finv_one a 0 8 (ginv_zero (lo a) (lo_nonneg a) (lo_lt a) (by rw [hl]; exact hz)) w
  · have hp := pow_bound 1 (lo a) 18446744069414584319
    have h1 := inv_one (lo_nonneg a) (lo_lt a) (by rw [hl]; exact hz)
    have hp2 := hp
    rw [M1] at hp2
    have key := ginv_other (lo a) (lo_nonneg a) (lo_lt a) (by rw [hl]; exact hz)
    generalize pow 1 (lo a) 18446744069414584319 = v at *
    refine ⟨v, hp, ?_, fun w => ?_⟩
    · have e : mul 1 (lo a) v = mul 1 a v := by unfold mul; rw [hl]
      rwa [e] at h1
    · rw [lo_of_lt hp2.1 (by omega), hi_of_lt hp2.1 (by omega)]
      exact finv_one a v 0 key w
theorem invBy2 : InvBy 2 := fun a a0 a1 => by
  refine ⟨fun hz w => finv_two a _ _ 8 (winv_zero a a0 a1 hz) w, fun hz => ?_⟩
  have key := winv_other a a0 a1 hz
  have h1 := winv_one a0 hz
  have hp := pow_bound 2 a 340282366920938462946865773367900766207
  generalize pow 2 a 340282366920938462946865773367900766207 = v at *
  exact ⟨v, hp, h1, fun w => finv_two a _ _ 0 key w⟩
/-- The products ahead of each place. -/
def aheads (f : Int) (xs : List Int) (k : Nat) : List Int := (List.range k).map (prods f xs)
/-- What the inverses of a list are. -/
def Inverses (f : Int) (xs rs : List Int) : Prop := rs.length = xs.length ∧ ∀ i, i < xs.length → (0 ≤ rs.getD i 0 ∧ rs.getD i 0 < M f) ∧ mul f (xs.getD i 0) (rs.getD i 0) = 1
/-- From place k on all is done. -/
def Back (f : Int) (xs rs : List Int) (k : Nat) : Prop := rs.length = xs.length - k ∧ ∀ j, j < xs.length - k → (0 ≤ rs.getD j 0 ∧ rs.getD j 0 < M f) ∧ mul f (xs.getD (k + j) 0) (rs.getD j 0) = 1
theorem Back.step {f : Int} {xs rs : List Int} {k : Nat} {q : Int} (h : Back f xs rs (k + 1)) (hk : k < xs.length) (hq : mul f (prods f xs (k + 1)) q = 1) :
    Back f xs (mul f (prods f xs k) q :: rs) k ∧ mul f (prods f xs k) (mul f q (xs.getD k 0)) = 1 := by
  have e : mul f (xs.getD k 0) (mul f (prods f xs k) q) = 1 := by
    rw [← mul_assoc', mul_comm' f (xs.getD k 0), ← prods_succ hk]; exact hq
  refine ⟨⟨by simp [h.1]; omega, fun j hj => ?_⟩, ?_⟩
  · cases j with
    | zero => exact ⟨mul_bound f _ _, by simpa using e⟩
    | succ j =>
      have := h.2 j (by omega)
      rw [show k + (j + 1) = k + 1 + j by omega]
      simpa using this
  · rw [mul_comm' f q, ← mul_assoc', ← prods_succ hk]; exact hq
theorem Back.whole {f : Int} {xs rs : List Int} (h : Back f xs rs 0) : Inverses f xs rs := ⟨by simpa using h.1, fun i hi => by have := h.2 i (by omega); simpa using this⟩
end Go.Proofs.YtebgfelbffgnbaaGreatDoor

/-
  An append into a row of the call's own: where the row lies behind it.
-/
namespace Go.Proofs.YtebgfelbffgnbaaGreatDoor.Flow
open Go
set_option linter.unusedVariables false
section
variable {P : Program} {w : World}
end
end Go.Proofs.YtebgfelbffgnbaaGreatDoor.Flow

/-
  Rows of elements that a call made by append.
-/
namespace Go.Proofs.YtebgfelbffgnbaaGreatDoor
open Go.RowKit F Flow
set_option linter.unusedVariables false

theorem ecells_append : ∀ (xs ys : List Int), ecells (xs ++ ys) = ecells xs ++ ecells ys
  | [], _ => rfl
  | x :: xs, ys => by rw [List.cons_append, ecells, ecells_append xs ys]; rfl
theorem ownsn_up {w w' : World} {base size : Nat} {e : TypeId} {v : Value} {n : Nat} {xs : List Value} (h : w.ownsRow base e size v n xs) (hb : Below w.heap.size w w') : w'.ownsRow base e size v n xs := by
  refine ⟨h.1, ?_⟩
  rcases h.2 with hn | ⟨g, cap, cur, rfl, hbb, hgg, rest⟩
  · exact .inl hn
  · exact .inr ⟨g, cap, cur, rfl, hbb, keeps hb hgg, rest⟩
/-- An element of such a row, stored anew. -/
theorem ElemsAt.put {w : World} {g k : Nat} {xs : List Int} (h : ElemsAt w (some ⟨g, 0, none⟩) xs) (hk : k < xs.length) (z : Int) :
    ElemsAt ((w.setCell ⟨g, k * 2, none⟩ (.int .u64 (lo z))).setCell ⟨g, k * 2 + 1, none⟩ (.int .u64 (hi z))) (some ⟨g, 0, none⟩) (xs.set k z) := by
  have hcell : ∀ (w : World) (o o' : Nat) (v u : Value), w.cell? ⟨g, o, none⟩ = some u → (w.setCell ⟨g, o', none⟩ v).cell? ⟨g, o, none⟩ = some (if o = o' then v else u) := by
    intro w o o' v u hu
    by_cases e : o = o'
    · subst e
      rw [if_pos rfl]
      exact World.cell?_setCell_same _ _ _ hu
    · have hne : (⟨g, o', none⟩ : Addr) ≠ ⟨g, o, none⟩ := fun h => by cases h; exact e rfl
      rw [if_neg e, World.cell?_setCell_other _ _ _ _ hne]
      exact hu
  intro j hj
  rw [List.length_set] at hj
  obtain ⟨b, o, e, h0, h1⟩ := h j hj
  cases e
  rw [Nat.zero_add] at h0 h1
  refine ⟨g, 0, rfl, ?_, ?_⟩
  · rw [Nat.zero_add, hcell _ _ _ _ _ (hcell _ _ _ _ _ h0)]
    by_cases e : j = k
    · subst e
      rw [if_neg (by omega), if_pos rfl]
      simp [hk]
    · rw [if_neg (by omega), if_neg (by omega)]
      simp [Ne.symm e]
  · rw [Nat.zero_add, hcell _ _ _ _ _ (hcell _ _ _ _ _ h1)]
    by_cases e : j = k
    · subst e
      rw [if_pos rfl]
      simp [hk]
    · rw [if_neg (by omega), if_neg (by omega)]
      simp [Ne.symm e]
end Go.Proofs.YtebgfelbffgnbaaGreatDoor
