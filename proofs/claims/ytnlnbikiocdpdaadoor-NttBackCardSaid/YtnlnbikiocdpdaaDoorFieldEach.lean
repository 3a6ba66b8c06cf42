/-
  Contracts of package field: what is done place by place, whatever is done with two; Dot; Powers.
-/
import Derived.Test.YtnlnbikiocdpdaaDoorElemRow
import Derived.Test.YtnlnbikiocdpdaaDoorSeg
namespace Go.Proofs.YtnlnbikiocdpdaaDoor
open Go.RowKit F Flow
set_option linter.unusedVariables false
attribute [local go_sem] eql_elem

theorem zip_length {op : Int → Int → Int} {xs ys : List Int} (h : xs.length = ys.length) : (List.zipWith op xs ys).length = xs.length := by simp [h]
theorem zip_at {op : Int → Int → Int} {xs ys : List Int} {k : Nat} (h : xs.length = ys.length) (hk : k < xs.length) : (List.zipWith op xs ys).getD k 0 = op (xs.getD k 0) (ys.getD k 0) := by
  have hk2 : k < ys.length := by omega
  simp [List.getElem?_zipWith, hk, hk2]
/-- What two elements come to, by a call that makes new memory alone. -/
def OpBy (f : FuncId) (n : Int) (op : Int → Int → Int) : Prop :=
  ∀ a b, 0 ≤ a → a < 340282366920938463463374607431768211456 → 0 ≤ b → b < 340282366920938463463374607431768211456 → (0 ≤ op a b ∧ op a b < 340282366920938463463374607431768211456) ∧
      ∀ w, Calls Tryd.prog f #[.int .u8 n, .agg #[.int .u64 (lo a), .int .u64 (hi a)], .agg #[.int .u64 (lo b), .int .u64 (hi b)]] w fun e w' => e = .returned (.agg #[.int .u64 (lo (op a b)), .int .u64 (hi (op a b))]) ∧ Below w.heap.size w w'
set_option maxHeartbeats 2000000 in
theorem feach_fAdd (n : Int) (op : Int → Int → Int) (xs ys : List Int) (A B : Option Addr) (c d : Nat) (hx : ElemsOK xs) (hy : ElemsOK ys) (hm : xs.length ≤ 4096) (hxy : xs.length = ys.length)
    (hval : ∀ w, Calls Tryd.prog 22 #[.int .u8 n] w fun e w' => e = .returned (.bool true) ∧ Below w.heap.size w w')
    (hop : OpBy 34 n op) (w : World) (hA : ElemsAt w A xs) (hB : ElemsAt w B ys) :
    Calls Tryd.prog 33 #[.int .u8 n, .func (.func 34) #[.int .u8 n] #[], .slice A xs.length c, .slice B ys.length d] w fun e w' =>
      ∃ g, e = .returned (.tuple #[.slice (some ⟨g, 0, none⟩) xs.length xs.length, .int .i64 0]) ∧ Below w.heap.size w w' ∧ w.heap.size ≤ g ∧ Row w' g (List.zipWith op xs ys) := by
  have hmk := make_elems xs.length (by omega)
  have hzl := Lib.hid (zip_length (op := op) hxy)
  have hzk := Lib.hid (fun k => zip_at (op := op) (k := k) hxy)
  generalize List.zipWith op xs ys = zs at *
  rw [← hxy]
  replace hval := Lib.hid hval
  replace hxy := Lib.hid hxy
  go_enter Tryd.func33, Tryd.ntmps33
  go_wp2_with fail
  refine call_then (hval.out _) ?_
  intro w1 hb
  go_wp2
  refine name_wp (fun w2 => Below w.heap.size w w2 ∧ Row w2 w1.heap.size (zs.take 0 ++ List.replicate (xs.length - 0) 0)) ⟨hb.alloc hb.size _, by rw [List.take_zero, List.nil_append, Nat.sub_zero]; exact alloc_at rfl⟩ ?_
  have hl := hb.size
  clear hb hmk hval
  generalize w1.heap.size = l at *
  rintro w2 ⟨hb, hr⟩
  go_loopw [25] (fun i wr => ∃ k : Nat, k ≤ xs.length ∧ i = .int .i64 k ∧ Below w.heap.size w wr ∧ Row wr l (zs.take k ++ List.replicate (xs.length - k) 0)) (fun i _ => xs.length - (intOf i).toNat)
  case atStart => exact ⟨0, Nat.zero_le _, rfl, hb, hr⟩
  case round =>
    obtain ⟨k, hk, rfl, hb, hr⟩ := hrel
    by_cases hlt : k < xs.length
    · have hlt2 : k < ys.length := by rw [← hxy.out]; exact hlt
      obtain ⟨b, o, rfl, -, -⟩ := (hA.up hb) k hlt
      obtain ⟨b2, o2, rfl, -, -⟩ := (hB.up hb) k hlt2
      have hxk := hx.at_ hlt
      have hyk := hy.at_ hlt2
      obtain ⟨hR, hc⟩ := hop _ _ hxk.1 hxk.2 hyk.1 hyk.2
      have hset := Lib.hid (set_take hlt hzl.out (hzk.out k hlt))
      have hlen : k < (zs.take k ++ List.replicate (xs.length - k) 0).length := by have := hzl.out; simp; omega
      have c0 : ∀ v, Below wr.heap.size wr v → ∃ p q, (some (⟨b, o, none⟩ : Addr) = some ⟨p, q, none⟩) ∧ v.cell? ⟨p, q + k * 2, none⟩ = some (.int .u64 (lo (xs.getD k 0))) ∧ v.cell? ⟨p, q + k * 2 + 1, none⟩ = some (.int .u64 (hi (xs.getD k 0))) := fun v hv => ((hA.up hb).up hv) k hlt
      have c2 : ∀ v, Below wr.heap.size wr v → ∃ p q, (some (⟨b2, o2, none⟩ : Addr) = some ⟨p, q, none⟩) ∧ v.cell? ⟨p, q + k * 2, none⟩ = some (.int .u64 (lo (ys.getD k 0))) ∧ v.cell? ⟨p, q + k * 2 + 1, none⟩ = some (.int .u64 (hi (ys.getD k 0))) := fun v hv => ((hB.up hb).up hv) k hlt2
      generalize xs.getD k 0 = x at *
      generalize ys.getD k 0 = y at *
      replace hc := Lib.hid hc
      replace hop := Lib.hid hop
      replace c0 := Lib.hid c0
      replace c2 := Lib.hid c2
      have i0 : (0 : Int) ≤ (k : Int) := by omega
      have i1 : (k : Int) < (xs.length : Int) := by omega
      go_wp2
      refine wp_region_flow1 13 (by kernel_rfl) (by kernel_rfl) (by kernel_rfl) ?_
      apply Exists.intro
      refine ⟨fun ι _ φ hφ => ?_, fun wt hwt => ?_⟩
      · have a0 : ∀ i, (φ i).cell? ⟨b, o + k * 2, none⟩ = some (.int .u64 (lo x)) := fun i => by obtain ⟨p, q, e, h1, h2⟩ := c0.out _ (hφ.old i); cases e; exact h1
        have a1 : ∀ i, (φ i).cell? ⟨b, o + k * 2 + 1, none⟩ = some (.int .u64 (hi x)) := fun i => by obtain ⟨p, q, e, h1, h2⟩ := c0.out _ (hφ.old i); cases e; exact h2
        have a2 : ∀ i, (φ i).cell? ⟨b2, o2 + k * 2, none⟩ = some (.int .u64 (lo y)) := fun i => by obtain ⟨p, q, e, h1, h2⟩ := c2.out _ (hφ.old i); cases e; exact h1
        have a3 : ∀ i, (φ i).cell? ⟨b2, o2 + k * 2 + 1, none⟩ = some (.int .u64 (hi y)) := fun i => by obtain ⟨p, q, e, h1, h2⟩ := c2.out _ (hφ.old i); cases e; exact h2
        simp only [List.take_succ_cons, List.take_zero]
        repeat (go_big_quiet_step ((first
          | (go_at_call 34; exact flow_call hφ (hc.out _)))))
        exact wpQuiet_nil rfl
      replace hb := below_next hb hb.size hwt
      replace hr := hr.up hwt
      clear hwt
      simp only [List.drop_succ_cons, List.drop_zero]
      have s0 := hr.lo hlen
      have s1 := hr.hi hlen
      have f0 := hr.free (k * 2)
      have f1 := hr.free (k * 2 + 1)
      replace hlen := Lib.hid hlen
      go_wp2
      clear s0 s1 f0 f1
      go_roundw
      case rel => exact ⟨k + 1, hlt, by go_num, (hb.setCell (p := ⟨l, k * 2, none⟩) hl _).setCell (p := ⟨l, k * 2 + 1, none⟩) hl _, by rw [← hset.out]; exact hr.set hlen.out _⟩
      case measure => simp [intOf]; omega
    · have hkl : k = xs.length := by omega
      subst hkl
      clear hop hA hB
      rw [Nat.sub_self, List.replicate_zero, List.append_nil, ← hzl.out, List.take_length] at hr
      replace hr := Lib.hid hr
      go_wp2
      go_ret2
      exact ⟨l, rfl, hb, hl, hr.out⟩
set_option maxHeartbeats 2000000 in
theorem feach_fSub (n : Int) (op : Int → Int → Int) (xs ys : List Int) (A B : Option Addr) (c d : Nat) (hx : ElemsOK xs) (hy : ElemsOK ys) (hm : xs.length ≤ 4096) (hxy : xs.length = ys.length)
    (hval : ∀ w, Calls Tryd.prog 22 #[.int .u8 n] w fun e w' => e = .returned (.bool true) ∧ Below w.heap.size w w')
    (hop : OpBy 37 n op) (w : World) (hA : ElemsAt w A xs) (hB : ElemsAt w B ys) :
    Calls Tryd.prog 33 #[.int .u8 n, .func (.func 37) #[.int .u8 n] #[], .slice A xs.length c, .slice B ys.length d] w fun e w' =>
      ∃ g, e = .returned (.tuple #[.slice (some ⟨g, 0, none⟩) xs.length xs.length, .int .i64 0]) ∧ Below w.heap.size w w' ∧ w.heap.size ≤ g ∧ Row w' g (List.zipWith op xs ys) := by
  have hmk := make_elems xs.length (by omega)
  have hzl := Lib.hid (zip_length (op := op) hxy)
  have hzk := Lib.hid (fun k => zip_at (op := op) (k := k) hxy)
  generalize List.zipWith op xs ys = zs at *
  rw [← hxy]
  replace hval := Lib.hid hval
  replace hxy := Lib.hid hxy
  go_enter Tryd.func33, Tryd.ntmps33
  go_wp2_with fail
  refine call_then (hval.out _) ?_
  intro w1 hb
  go_wp2
  refine name_wp (fun w2 => Below w.heap.size w w2 ∧ Row w2 w1.heap.size (zs.take 0 ++ List.replicate (xs.length - 0) 0)) ⟨hb.alloc hb.size _, by rw [List.take_zero, List.nil_append, Nat.sub_zero]; exact alloc_at rfl⟩ ?_
  have hl := hb.size
  clear hb hmk hval
  generalize w1.heap.size = l at *
  rintro w2 ⟨hb, hr⟩
  go_loopw [25] (fun i wr => ∃ k : Nat, k ≤ xs.length ∧ i = .int .i64 k ∧ Below w.heap.size w wr ∧ Row wr l (zs.take k ++ List.replicate (xs.length - k) 0)) (fun i _ => xs.length - (intOf i).toNat)
  case atStart => exact ⟨0, Nat.zero_le _, rfl, hb, hr⟩
  case round =>
    obtain ⟨k, hk, rfl, hb, hr⟩ := hrel
    by_cases hlt : k < xs.length
    · have hlt2 : k < ys.length := by rw [← hxy.out]; exact hlt
      obtain ⟨b, o, rfl, -, -⟩ := (hA.up hb) k hlt
      obtain ⟨b2, o2, rfl, -, -⟩ := (hB.up hb) k hlt2
      have hxk := hx.at_ hlt
      have hyk := hy.at_ hlt2
      obtain ⟨hR, hc⟩ := hop _ _ hxk.1 hxk.2 hyk.1 hyk.2
      have hset := Lib.hid (set_take hlt hzl.out (hzk.out k hlt))
      have hlen : k < (zs.take k ++ List.replicate (xs.length - k) 0).length := by have := hzl.out; simp; omega
      have c0 : ∀ v, Below wr.heap.size wr v → ∃ p q, (some (⟨b, o, none⟩ : Addr) = some ⟨p, q, none⟩) ∧ v.cell? ⟨p, q + k * 2, none⟩ = some (.int .u64 (lo (xs.getD k 0))) ∧ v.cell? ⟨p, q + k * 2 + 1, none⟩ = some (.int .u64 (hi (xs.getD k 0))) := fun v hv => ((hA.up hb).up hv) k hlt
      have c2 : ∀ v, Below wr.heap.size wr v → ∃ p q, (some (⟨b2, o2, none⟩ : Addr) = some ⟨p, q, none⟩) ∧ v.cell? ⟨p, q + k * 2, none⟩ = some (.int .u64 (lo (ys.getD k 0))) ∧ v.cell? ⟨p, q + k * 2 + 1, none⟩ = some (.int .u64 (hi (ys.getD k 0))) := fun v hv => ((hB.up hb).up hv) k hlt2
      generalize xs.getD k 0 = x at *
      generalize ys.getD k 0 = y at *
      replace hc := Lib.hid hc
      replace hop := Lib.hid hop
      replace c0 := Lib.hid c0
      replace c2 := Lib.hid c2
      have i0 : (0 : Int) ≤ (k : Int) := by omega
      have i1 : (k : Int) < (xs.length : Int) := by omega
      go_wp2
      refine wp_region_flow1 13 (by kernel_rfl) (by kernel_rfl) (by kernel_rfl) ?_
      apply Exists.intro
      refine ⟨fun ι _ φ hφ => ?_, fun wt hwt => ?_⟩
      · have a0 : ∀ i, (φ i).cell? ⟨b, o + k * 2, none⟩ = some (.int .u64 (lo x)) := fun i => by obtain ⟨p, q, e, h1, h2⟩ := c0.out _ (hφ.old i); cases e; exact h1
        have a1 : ∀ i, (φ i).cell? ⟨b, o + k * 2 + 1, none⟩ = some (.int .u64 (hi x)) := fun i => by obtain ⟨p, q, e, h1, h2⟩ := c0.out _ (hφ.old i); cases e; exact h2
        have a2 : ∀ i, (φ i).cell? ⟨b2, o2 + k * 2, none⟩ = some (.int .u64 (lo y)) := fun i => by obtain ⟨p, q, e, h1, h2⟩ := c2.out _ (hφ.old i); cases e; exact h1
        have a3 : ∀ i, (φ i).cell? ⟨b2, o2 + k * 2 + 1, none⟩ = some (.int .u64 (hi y)) := fun i => by obtain ⟨p, q, e, h1, h2⟩ := c2.out _ (hφ.old i); cases e; exact h2
        simp only [List.take_succ_cons, List.take_zero]
        repeat (go_big_quiet_step ((first
          | (go_at_call 37; exact flow_call hφ (hc.out _)))))
        exact wpQuiet_nil rfl
      replace hb := below_next hb hb.size hwt
      replace hr := hr.up hwt
      clear hwt
      simp only [List.drop_succ_cons, List.drop_zero]
      have s0 := hr.lo hlen
      have s1 := hr.hi hlen
      have f0 := hr.free (k * 2)
      have f1 := hr.free (k * 2 + 1)
      replace hlen := Lib.hid hlen
      go_wp2
      clear s0 s1 f0 f1
      go_roundw
      case rel => exact ⟨k + 1, hlt, by go_num, (hb.setCell (p := ⟨l, k * 2, none⟩) hl _).setCell (p := ⟨l, k * 2 + 1, none⟩) hl _, by rw [← hset.out]; exact hr.set hlen.out _⟩
      case measure => simp [intOf]; omega
    · have hkl : k = xs.length := by omega
      subst hkl
      clear hop hA hB
      rw [Nat.sub_self, List.replicate_zero, List.append_nil, ← hzl.out, List.take_length] at hr
      replace hr := Lib.hid hr
      go_wp2
      go_ret2
      exact ⟨l, rfl, hb, hl, hr.out⟩
set_option maxHeartbeats 2000000 in
theorem feach_fMul (n : Int) (op : Int → Int → Int) (xs ys : List Int) (A B : Option Addr) (c d : Nat) (hx : ElemsOK xs) (hy : ElemsOK ys) (hm : xs.length ≤ 4096) (hxy : xs.length = ys.length)
    (hval : ∀ w, Calls Tryd.prog 22 #[.int .u8 n] w fun e w' => e = .returned (.bool true) ∧ Below w.heap.size w w')
    (hop : OpBy 29 n op) (w : World) (hA : ElemsAt w A xs) (hB : ElemsAt w B ys) :
    Calls Tryd.prog 33 #[.int .u8 n, .func (.func 29) #[.int .u8 n] #[], .slice A xs.length c, .slice B ys.length d] w fun e w' =>
      ∃ g, e = .returned (.tuple #[.slice (some ⟨g, 0, none⟩) xs.length xs.length, .int .i64 0]) ∧ Below w.heap.size w w' ∧ w.heap.size ≤ g ∧ Row w' g (List.zipWith op xs ys) := by
  have hmk := make_elems xs.length (by omega)
  have hzl := Lib.hid (zip_length (op := op) hxy)
  have hzk := Lib.hid (fun k => zip_at (op := op) (k := k) hxy)
  generalize List.zipWith op xs ys = zs at *
  rw [← hxy]
  replace hval := Lib.hid hval
  replace hxy := Lib.hid hxy
  go_enter Tryd.func33, Tryd.ntmps33
  go_wp2_with fail
  refine call_then (hval.out _) ?_
  intro w1 hb
  go_wp2
  refine name_wp (fun w2 => Below w.heap.size w w2 ∧ Row w2 w1.heap.size (zs.take 0 ++ List.replicate (xs.length - 0) 0)) ⟨hb.alloc hb.size _, by rw [List.take_zero, List.nil_append, Nat.sub_zero]; exact alloc_at rfl⟩ ?_
  have hl := hb.size
  clear hb hmk hval
  generalize w1.heap.size = l at *
  rintro w2 ⟨hb, hr⟩
  go_loopw [25] (fun i wr => ∃ k : Nat, k ≤ xs.length ∧ i = .int .i64 k ∧ Below w.heap.size w wr ∧ Row wr l (zs.take k ++ List.replicate (xs.length - k) 0)) (fun i _ => xs.length - (intOf i).toNat)
  case atStart => exact ⟨0, Nat.zero_le _, rfl, hb, hr⟩
  case round =>
    obtain ⟨k, hk, rfl, hb, hr⟩ := hrel
    by_cases hlt : k < xs.length
    · have hlt2 : k < ys.length := by rw [← hxy.out]; exact hlt
      obtain ⟨b, o, rfl, -, -⟩ := (hA.up hb) k hlt
      obtain ⟨b2, o2, rfl, -, -⟩ := (hB.up hb) k hlt2
      have hxk := hx.at_ hlt
      have hyk := hy.at_ hlt2
      obtain ⟨hR, hc⟩ := hop _ _ hxk.1 hxk.2 hyk.1 hyk.2
      have hset := Lib.hid (set_take hlt hzl.out (hzk.out k hlt))
      have hlen : k < (zs.take k ++ List.replicate (xs.length - k) 0).length := by have := hzl.out; simp; omega
      have c0 : ∀ v, Below wr.heap.size wr v → ∃ p q, (some (⟨b, o, none⟩ : Addr) = some ⟨p, q, none⟩) ∧ v.cell? ⟨p, q + k * 2, none⟩ = some (.int .u64 (lo (xs.getD k 0))) ∧ v.cell? ⟨p, q + k * 2 + 1, none⟩ = some (.int .u64 (hi (xs.getD k 0))) := fun v hv => ((hA.up hb).up hv) k hlt
      have c2 : ∀ v, Below wr.heap.size wr v → ∃ p q, (some (⟨b2, o2, none⟩ : Addr) = some ⟨p, q, none⟩) ∧ v.cell? ⟨p, q + k * 2, none⟩ = some (.int .u64 (lo (ys.getD k 0))) ∧ v.cell? ⟨p, q + k * 2 + 1, none⟩ = some (.int .u64 (hi (ys.getD k 0))) := fun v hv => ((hB.up hb).up hv) k hlt2
      generalize xs.getD k 0 = x at *
      generalize ys.getD k 0 = y at *
      replace hc := Lib.hid hc
      replace hop := Lib.hid hop
      replace c0 := Lib.hid c0
      replace c2 := Lib.hid c2
      have i0 : (0 : Int) ≤ (k : Int) := by omega
      have i1 : (k : Int) < (xs.length : Int) := by omega
      go_wp2
      refine wp_region_flow1 13 (by kernel_rfl) (by kernel_rfl) (by kernel_rfl) ?_
      apply Exists.intro
      refine ⟨fun ι _ φ hφ => ?_, fun wt hwt => ?_⟩
      · have a0 : ∀ i, (φ i).cell? ⟨b, o + k * 2, none⟩ = some (.int .u64 (lo x)) := fun i => by obtain ⟨p, q, e, h1, h2⟩ := c0.out _ (hφ.old i); cases e; exact h1
        have a1 : ∀ i, (φ i).cell? ⟨b, o + k * 2 + 1, none⟩ = some (.int .u64 (hi x)) := fun i => by obtain ⟨p, q, e, h1, h2⟩ := c0.out _ (hφ.old i); cases e; exact h2
        have a2 : ∀ i, (φ i).cell? ⟨b2, o2 + k * 2, none⟩ = some (.int .u64 (lo y)) := fun i => by obtain ⟨p, q, e, h1, h2⟩ := c2.out _ (hφ.old i); cases e; exact h1
        have a3 : ∀ i, (φ i).cell? ⟨b2, o2 + k * 2 + 1, none⟩ = some (.int .u64 (hi y)) := fun i => by obtain ⟨p, q, e, h1, h2⟩ := c2.out _ (hφ.old i); cases e; exact h2
        simp only [List.take_succ_cons, List.take_zero]
        repeat (go_big_quiet_step ((first
          | (go_at_call 29; exact flow_call hφ (hc.out _)))))
        exact wpQuiet_nil rfl
      replace hb := below_next hb hb.size hwt
      replace hr := hr.up hwt
      clear hwt
      simp only [List.drop_succ_cons, List.drop_zero]
      have s0 := hr.lo hlen
      have s1 := hr.hi hlen
      have f0 := hr.free (k * 2)
      have f1 := hr.free (k * 2 + 1)
      replace hlen := Lib.hid hlen
      go_wp2
      clear s0 s1 f0 f1
      go_roundw
      case rel => exact ⟨k + 1, hlt, by go_num, (hb.setCell (p := ⟨l, k * 2, none⟩) hl _).setCell (p := ⟨l, k * 2 + 1, none⟩) hl _, by rw [← hset.out]; exact hr.set hlen.out _⟩
      case measure => simp [intOf]; omega
    · have hkl : k = xs.length := by omega
      subst hkl
      clear hop hA hB
      rw [Nat.sub_self, List.replicate_zero, List.append_nil, ← hzl.out, List.take_length] at hr
      replace hr := Lib.hid hr
      go_wp2
      go_ret2
      exact ⟨l, rfl, hb, hl, hr.out⟩
theorem feach_size (n : Int) (f : Value) (A B : Option Addr) (p q c d : Nat) (hpq : p ≠ q) (hp : p ≤ maxLen) (hq : q ≤ maxLen)
    (hval : ∀ w, Calls Tryd.prog 22 #[.int .u8 n] w fun e w' => e = .returned (.bool true) ∧ Below w.heap.size w w') (w : World) :
    Calls Tryd.prog 33 #[.int .u8 n, f, .slice A p c, .slice B q d] w fun e w' => e = .returned (.tuple #[.slice none 0 0, .int .i64 9]) ∧ Below w.heap.size w w' := by
  unfold maxLen at hp hq
  have hd : ((p : Int) != (q : Int)) = true := by simp; omega
  replace hval := Lib.hid hval
  go_enter Tryd.func33, Tryd.ntmps33
  go_wp2_with fail
  refine call_then (hval.out _) ?_
  intro w1 hb
  go_wp2
  go_ret2
  exact ⟨rfl, hb⟩
theorem faddvec_any (n : Int) (op : Int → Int → Int) (xs ys : List Int) (A B : Option Addr) (c d : Nat) (hx : ElemsOK xs) (hy : ElemsOK ys) (hm : xs.length ≤ 4096) (hxy : xs.length = ys.length)
    (hval : ∀ w, Calls Tryd.prog 22 #[.int .u8 n] w fun e w' => e = .returned (.bool true) ∧ Below w.heap.size w w')
    (hop : OpBy 34 n op) (w : World) (hA : ElemsAt w A xs) (hB : ElemsAt w B ys) :
    Calls Tryd.prog 16 #[.int .u8 n, .slice A xs.length c, .slice B ys.length d] w fun e w' =>
      ∃ g, e = .returned (.tuple #[.slice (some ⟨g, 0, none⟩) xs.length xs.length, .int .i64 0]) ∧ Below w.heap.size w w' ∧ w.heap.size ≤ g ∧ Row w' g (List.zipWith op xs ys) := by
  have he := Lib.hid (feach_fAdd n op xs ys A B c d hx hy hm hxy hval hop w hA hB)
  clear hxy hval hop hA hB hx hy
  go_enter Tryd.func16, Tryd.ntmps16
  go_wp2_with fail
  refine he.out.mono ?_
  rintro e w1 ⟨g, rfl, hb, hg, hr⟩
  replace hr := Lib.hid hr
  go_wp2
  go_ret2
  exact ⟨g, rfl, hb, hg, hr.out⟩
theorem faddvec_size (n : Int) (A B : Option Addr) (p q c d : Nat) (hpq : p ≠ q) (hp : p ≤ maxLen) (hq : q ≤ maxLen)
    (hval : ∀ w, Calls Tryd.prog 22 #[.int .u8 n] w fun e w' => e = .returned (.bool true) ∧ Below w.heap.size w w') (w : World) :
    Calls Tryd.prog 16 #[.int .u8 n, .slice A p c, .slice B q d] w fun e w' => e = .returned (.tuple #[.slice none 0 0, .int .i64 9]) ∧ Below w.heap.size w w' := by
  have he := Lib.hid (fun f => feach_size n f A B p q c d hpq hp hq hval w)
  clear hval
  go_enter Tryd.func16, Tryd.ntmps16
  go_wp2_with fail
  refine call_then (he.out _) ?_
  intro w1 hb
  go_wp2
  go_ret2
  exact ⟨rfl, hb⟩
theorem ElemsOK.zip {op : Int → Int → Int} {xs ys : List Int} (h : ∀ a b, 0 ≤ a → a < 340282366920938463463374607431768211456 → 0 ≤ b → b < 340282366920938463463374607431768211456 → (0 ≤ op a b ∧ op a b < 340282366920938463463374607431768211456)) (hx : ElemsOK xs) (hy : ElemsOK ys) : ElemsOK (List.zipWith op xs ys) := by
  intro z hz
  induction xs generalizing ys with
  | nil => simp at hz
  | cons x xs ih =>
    cases ys with
    | nil => simp at hz
    | cons y ys =>
      rw [List.zipWith_cons_cons, List.mem_cons] at hz
      rcases hz with rfl | hz
      · exact h _ _ (hx x (by simp)).1 (hx x (by simp)).2 (hy y (by simp)).1 (hy y (by simp)).2
      · exact ih (fun a ha => hx a (by simp [ha])) (fun a ha => hy a (by simp [ha])) hz
end Go.Proofs.YtnlnbikiocdpdaaDoor
