import Derived.Test.YtebgfelbffgnbaaGreatDoorDC
import Derived.Deep.QuietTactic
import Derived.RegionTactic
import Derived.BigRegion
/-
  The law's circuit of small numbers; a circuit as the document has it.
-/
namespace Go.Proofs.YtebgfelbffgnbaaGreatDoor
open Go.RowKit Flow F
set_option linter.unusedVariables false
set_option linter.unusedSimpArgs false

/-- Small numbers as a circuit. -/
def smallC (K F B L W C : Int) : Ci :=
  if K % 5 = 0 then ⟨1, 1 + F % 2, 0, 0, 0, 0⟩
  else if K % 5 = 1 then ⟨2, 1 + F % 2, 1 + B % 4, 0, 0, 0⟩
  else if K % 5 = 2 then ⟨3, 1 + F % 2, 1 + B % 4, 1 + (1 + L % 5) % 3, 0, 1 + C % 4⟩
  else if K % 5 = 3 then ⟨4, 1 + F % 2, 0, 1 + L % 5, 0, 1 + C % 4⟩
  else ⟨5, 1 + F % 2, 0, 1 + L % 5, 1 + W % (1 + L % 5), 1 + C % 4⟩
theorem calls_le_in {x : Ci} (h : x.Fits) : x.callsN ≤ x.inN := by
  unfold Ci.callsN
  by_cases h1 : x.k = 1
  · rw [if_pos h1]; unfold Ci.inN; rw [if_pos h1]; omega
  · rw [if_neg h1]
    by_cases h2 : x.k = 2
    · rw [if_pos h2]; unfold Ci.inN; rw [if_neg h1, if_pos h2]; omega
    · rw [if_neg h2]
      have hk := h.k1
      exact pieces_le _ (by have := h.c (by omega); omega)
theorem small_good (K F B L W C : Int) : (smallC K F B L W C).Good := by
  unfold smallC
  split
  · refine ⟨by simp only; omega, ⟨by simp, by simp, by simp, by simp, by simp, by simp, by simp, by simp, by simp, by simp⟩, ?_⟩
    simp [Ci.callsN]
  · split
    · refine ⟨by simp only; omega, ⟨by simp, by simp, by simp; omega, by simp, by simp, by simp, by simp, by simp, by simp, by simp⟩, ?_⟩
      simp [Ci.callsN]; omega
    · split
      · have hf : Ci.Fits ⟨3, 1 + F % 2, 1 + B % 4, 1 + (1 + L % 5) % 3, 0, 1 + C % 4⟩ := ⟨by simp, by simp, by simp; omega, by simp, by simp; omega, by simp, by simp, by simp, by simp; omega, by simp⟩
        refine ⟨by simp only; omega, hf, ?_⟩
        have h1 := calls_le_in hf
        have h2 : Ci.inN ⟨3, 1 + F % 2, 1 + B % 4, 1 + (1 + L % 5) % 3, 0, 1 + C % 4⟩ = (1 + B % 4).toNat * (1 + (1 + L % 5) % 3).toNat := by simp [Ci.inN]
        have h3 : (1 + B % 4).toNat * (1 + (1 + L % 5) % 3).toNat ≤ 4 * 3 := Nat.mul_le_mul (by omega) (by omega)
        omega
      · split
        · have hf : Ci.Fits ⟨4, 1 + F % 2, 0, 1 + L % 5, 0, 1 + C % 4⟩ := ⟨by simp, by simp, by simp, by simp, by simp; omega, by simp, by simp, by simp, by simp; omega, by simp⟩
          refine ⟨by simp only; omega, hf, ?_⟩
          have h1 := calls_le_in hf
          have h2 : Ci.inN ⟨4, 1 + F % 2, 0, 1 + L % 5, 0, 1 + C % 4⟩ = (1 + L % 5).toNat := by simp [Ci.inN]
          omega
        · have hm := Int.emod_nonneg W (show 1 + L % 5 ≠ 0 by omega)
          have hm2 := Int.emod_lt_of_pos W (show 0 < 1 + L % 5 by omega)
          have hf : Ci.Fits ⟨5, 1 + F % 2, 0, 1 + L % 5, 1 + W % (1 + L % 5), 1 + C % 4⟩ := ⟨by simp, by simp, by simp, by simp, by simp; omega, by simp, by simp only; omega, by simp, by simp; omega, by simp⟩
          refine ⟨by simp only; omega, hf, ?_⟩
          have h1 := calls_le_in hf
          have h2 : Ci.inN ⟨5, 1 + F % 2, 0, 1 + L % 5, 1 + W % (1 + L % 5), 1 + C % 4⟩ = (1 + L % 5).toNat + Lib.bitLen (1 + W % (1 + L % 5)).toNat := by simp [Ci.inN]
          have h3 := bl_le (W := (1 + W % (1 + L % 5)).toNat) (by omega)
          omega
def svl (K F B L W C : Int) : Value := .agg #[.int .u8 K, .int .u8 F, .int .u8 B, .int .u8 L, .int .u8 W, .int .u8 C]
set_option maxRecDepth 20000 in
set_option maxHeartbeats 4000000 in
theorem ref_any (x : Ci) (k0 : 0 ≤ x.k) (k1 : x.k ≤ 255) (f0 : 0 ≤ x.f) (f1 : x.f ≤ 255) (w : World) : Calls Tryz.prog 45 #[cvl x] w fun e w' => e = .returned (rvl x) ∧ Below w.heap.size w w' := by
  obtain ⟨k, f, b, l, W, c⟩ := x
  unfold cvl rvl
  simp only at *
  go_enter Tryz.func45, Tryz.ntmps45
  go_wp2
  exact bodyPost_ret (v := .agg #[.int .i64 k, .int .i64 f, .int .i64 b, .int .i64 l, .int .i64 W, .int .i64 c]) (by simp [results, Tryz.results45, go_sem]) rfl ⟨rfl, ((Below.refl _ _).alloc (Nat.le_refl _) _).alloc (by simp) _⟩
theorem one6 (k f b l W c : Int) : ∀ u ∈ [Value.int .u8 k, .int .u8 f, .int .i64 b, .int .i64 l, .int .i64 W, .int .i64 c], u.oneCell' = true := fun u hu => by
  simp only [List.mem_cons, List.not_mem_nil, or_false] at hu
  rcases hu with rfl | rfl | rfl | rfl | rfl | rfl <;> rfl
theorem info_circuit : ((Tryz.prog).info? 33).map (·.size) = some 6 := by kernel_rfl
set_option maxRecDepth 20000 in
set_option maxHeartbeats 4000000 in
theorem small_1 (K F B L W C : Int) (hK : K % 5 = 0) (k0 : 0 ≤ K) (k1 : K ≤ 255) (f0 : 0 ≤ F) (f1 : F ≤ 255) (b0 : 0 ≤ B) (b1 : B ≤ 255) (l0 : 0 ≤ L) (l1 : L ≤ 255) (w0 : 0 ≤ W) (w1 : W ≤ 255) (c0 : 0 ≤ C) (c1 : C ≤ 255) (w : World) :
    Calls Tryz.prog 11 #[svl K F B L W C] w fun e w' => e = .returned (cvl (smallC K F B L W C)) ∧ Below w.heap.size w w' := by
  have e : smallC K F B L W C = ⟨1, 1 + F % 2, 0, 0, 0, 0⟩ := by unfold smallC; simp [hK]
  rw [e]
  unfold svl cvl
  simp only
  go_enter Tryz.func11, Tryz.ntmps11
  go_wp2
  refine name_wp (fun w3 => Below w.heap.size w w3 ∧ w3.heap[w.heap.size]? = some (.cells #[.int .u8 K, .int .u8 F, .int .u8 B, .int .u8 L, .int .u8 W, .int .u8 C] 23 (0, 0)) ∧ w3.heap[w.heap.size + 1]? = some (.cells #[.int .u8 0, .int .u8 0, .int .i64 0, .int .i64 0, .int .i64 0, .int .i64 0] 33 (0, 0)) ∧ w3.heap[w.heap.size + 1 + 1]? = some (.cells #[.int .u8 1, .int .u8 (1 + F % 2), .int .i64 0, .int .i64 0, .int .i64 0, .int .i64 0] 33 (0, 0)))
    ⟨(((Below.refl _ _).alloc (Nat.le_refl _) _).alloc (by simp) _).alloc (by simp; omega) _, alloc_keeps (alloc_keeps (alloc_at rfl)), alloc_keeps (alloc_at (by simp)), alloc_at (by simp)⟩ ?_
  rintro w3 ⟨hb, ks, kr, kc⟩
  refine wp_region_flow0 (by kernel_rfl) (by kernel_rfl) ?_
  intro ι _ φ hφ
  have q := fun i => blk6 (keeps (hφ.old i) ks)
  have q2 := fun i => (q i).2.2.1
  have q3 := fun i => (q i).2.2.2.1
  clear q
  repeat (go_big_quiet_step (fail))
  refine wpQuiet_nil ?_
  intro w4 hv
  replace hb := below_next hb hb.size hv
  replace ks := keeps hv ks
  replace kr := keeps hv kr
  replace kc := keeps hv kc
  clear hv q2 q3 hφ
  obtain ⟨c0, c1, c2, c3, c4, c5⟩ := blk6 kc
  go_wp2_with (refine list_store_whole _ _ _ _ [.int .u8 1, .int .u8 (1 + F % 2), .int .i64 (0), .int .i64 (0), .int .i64 (0), .int .i64 (0)] [.int .u8 0, .int .u8 0, .int .i64 0, .int .i64 0, .int .i64 0, .int .i64 0] 33 rfl rfl rfl rfl kr rfl info_circuit (one6 _ _ _ _ _ _) ?_; intro w6 hbut kz)
  have hb6 := hbut.below hb (Nat.le_succ _) hb.size
  obtain ⟨z0, z1, z2, z3, z4, z5⟩ := blk6 kz
  exact bodyPost_ret (v := .agg #[.int .u8 1, .int .u8 (1 + F % 2), .int .i64 (0), .int .i64 (0), .int .i64 (0), .int .i64 (0)]) (by simp [results, Tryz.results11, go_sem, z0, z1, z2, z3, z4, z5]) rfl ⟨rfl, hb6⟩
set_option maxRecDepth 20000 in
set_option maxHeartbeats 4000000 in
theorem small_2 (K F B L W C : Int) (hK : K % 5 = 1) (k0 : 0 ≤ K) (k1 : K ≤ 255) (f0 : 0 ≤ F) (f1 : F ≤ 255) (b0 : 0 ≤ B) (b1 : B ≤ 255) (l0 : 0 ≤ L) (l1 : L ≤ 255) (w0 : 0 ≤ W) (w1 : W ≤ 255) (c0 : 0 ≤ C) (c1 : C ≤ 255) (w : World) :
    Calls Tryz.prog 11 #[svl K F B L W C] w fun e w' => e = .returned (cvl (smallC K F B L W C)) ∧ Below w.heap.size w w' := by
  have e : smallC K F B L W C = ⟨2, 1 + F % 2, 1 + B % 4, 0, 0, 0⟩ := by unfold smallC; simp [hK]
  rw [e]
  unfold svl cvl
  simp only
  go_enter Tryz.func11, Tryz.ntmps11
  go_wp2
  refine name_wp (fun w3 => Below w.heap.size w w3 ∧ w3.heap[w.heap.size]? = some (.cells #[.int .u8 K, .int .u8 F, .int .u8 B, .int .u8 L, .int .u8 W, .int .u8 C] 23 (0, 0)) ∧ w3.heap[w.heap.size + 1]? = some (.cells #[.int .u8 0, .int .u8 0, .int .i64 0, .int .i64 0, .int .i64 0, .int .i64 0] 33 (0, 0)) ∧ w3.heap[w.heap.size + 1 + 1]? = some (.cells #[.int .u8 2, .int .u8 (1 + F % 2), .int .i64 0, .int .i64 0, .int .i64 0, .int .i64 0] 33 (0, 0)))
    ⟨(((Below.refl _ _).alloc (Nat.le_refl _) _).alloc (by simp) _).alloc (by simp; omega) _, alloc_keeps (alloc_keeps (alloc_at rfl)), alloc_keeps (alloc_at (by simp)), alloc_at (by simp)⟩ ?_
  rintro w3 ⟨hb, ks, kr, kc⟩
  refine wp_region_flow0 (by kernel_rfl) (by kernel_rfl) ?_
  intro ι _ φ hφ
  have q := fun i => blk6 (keeps (hφ.old i) ks)
  have q2 := fun i => (q i).2.2.1
  have q3 := fun i => (q i).2.2.2.1
  clear q
  repeat (go_big_quiet_step (fail))
  refine wpQuiet_nil ?_
  intro w4 hv
  replace hb := below_next hb hb.size hv
  replace ks := keeps hv ks
  replace kr := keeps hv kr
  replace kc := keeps hv kc
  clear hv q2 q3 hφ
  obtain ⟨d0, d1, d2, d3, d4, d5⟩ := blk6 kc
  have fr : ∀ o, w4.frozen? ⟨w.heap.size + 1 + 1, o, none⟩ = false := fun o => by simp [World.frozen?, kc]
  go_upto_region 13 with (fail)
  refine name_wp (fun w5 => Below w.heap.size w w5 ∧ w5.heap[w.heap.size + 1]? = some (.cells #[.int .u8 0, .int .u8 0, .int .i64 0, .int .i64 0, .int .i64 0, .int .i64 0] 33 (0, 0)) ∧ w5.heap[w.heap.size + 1 + 1]? = some (.cells #[.int .u8 2, .int .u8 (1 + F % 2), .int .i64 (1 + B % 4), .int .i64 0, .int .i64 0, .int .i64 0] 33 (0, 0)))
    ⟨hb.setCell (p := ⟨w.heap.size + 1 + 1, 2, none⟩) (by show w.heap.size ≤ w.heap.size + 1 + 1; omega) _, store_far kr (by show w.heap.size + 1 ≠ w.heap.size + 1 + 1; omega), (store1 kc (o := 2)).trans rfl⟩ ?_
  clear hb ks kr kc d0 d1 d2 d3 d4 d5 fr
  rintro w5 ⟨hb, kr, kc⟩
  obtain ⟨c0, c1, c2, c3, c4, c5⟩ := blk6 kc
  go_wp2_with (refine list_store_whole _ _ _ _ [.int .u8 2, .int .u8 (1 + F % 2), .int .i64 (1 + B % 4), .int .i64 (0), .int .i64 (0), .int .i64 (0)] [.int .u8 0, .int .u8 0, .int .i64 0, .int .i64 0, .int .i64 0, .int .i64 0] 33 rfl rfl rfl rfl kr rfl info_circuit (one6 _ _ _ _ _ _) ?_; intro w6 hbut kz)
  have hb6 := hbut.below hb (Nat.le_succ _) hb.size
  obtain ⟨z0, z1, z2, z3, z4, z5⟩ := blk6 kz
  exact bodyPost_ret (v := .agg #[.int .u8 2, .int .u8 (1 + F % 2), .int .i64 (1 + B % 4), .int .i64 (0), .int .i64 (0), .int .i64 (0)]) (by simp [results, Tryz.results11, go_sem, z0, z1, z2, z3, z4, z5]) rfl ⟨rfl, hb6⟩
set_option maxRecDepth 20000 in
set_option maxHeartbeats 4000000 in
theorem small_3 (K F B L W C : Int) (hK : K % 5 = 2) (k0 : 0 ≤ K) (k1 : K ≤ 255) (f0 : 0 ≤ F) (f1 : F ≤ 255) (b0 : 0 ≤ B) (b1 : B ≤ 255) (l0 : 0 ≤ L) (l1 : L ≤ 255) (w0 : 0 ≤ W) (w1 : W ≤ 255) (c0 : 0 ≤ C) (c1 : C ≤ 255) (w : World) :
    Calls Tryz.prog 11 #[svl K F B L W C] w fun e w' => e = .returned (cvl (smallC K F B L W C)) ∧ Below w.heap.size w w' := by
  have e : smallC K F B L W C = ⟨3, 1 + F % 2, 1 + B % 4, 1 + (1 + L % 5) % 3, 0, 1 + C % 4⟩ := by unfold smallC; simp [hK]
  rw [e]
  unfold svl cvl
  simp only
  go_enter Tryz.func11, Tryz.ntmps11
  go_wp2
  refine name_wp (fun w3 => Below w.heap.size w w3 ∧ w3.heap[w.heap.size]? = some (.cells #[.int .u8 K, .int .u8 F, .int .u8 B, .int .u8 L, .int .u8 W, .int .u8 C] 23 (0, 0)) ∧ w3.heap[w.heap.size + 1]? = some (.cells #[.int .u8 0, .int .u8 0, .int .i64 0, .int .i64 0, .int .i64 0, .int .i64 0] 33 (0, 0)) ∧ w3.heap[w.heap.size + 1 + 1]? = some (.cells #[.int .u8 3, .int .u8 (1 + F % 2), .int .i64 0, .int .i64 0, .int .i64 0, .int .i64 0] 33 (0, 0)))
    ⟨(((Below.refl _ _).alloc (Nat.le_refl _) _).alloc (by simp) _).alloc (by simp; omega) _, alloc_keeps (alloc_keeps (alloc_at rfl)), alloc_keeps (alloc_at (by simp)), alloc_at (by simp)⟩ ?_
  rintro w3 ⟨hb, ks, kr, kc⟩
  refine wp_region_flow0 (by kernel_rfl) (by kernel_rfl) ?_
  intro ι _ φ hφ
  have q := fun i => blk6 (keeps (hφ.old i) ks)
  have q2 := fun i => (q i).2.2.1
  have q3 := fun i => (q i).2.2.2.1
  clear q
  repeat (go_big_quiet_step (fail))
  refine wpQuiet_nil ?_
  intro w4 hv
  replace hb := below_next hb hb.size hv
  replace ks := keeps hv ks
  replace kr := keeps hv kr
  replace kc := keeps hv kc
  clear hv q2 q3 hφ
  obtain ⟨d0, d1, d2, d3, d4, d5⟩ := blk6 kc
  obtain ⟨e0, e1, e2, e3, e4, e5⟩ := blk6 ks
  have fr : ∀ o, w4.frozen? ⟨w.heap.size + 1 + 1, o, none⟩ = false := fun o => by simp [World.frozen?, kc]
  have f2 := fr 2
  have f3 := fr 3
  have f4 := fr 4
  have f5 := fr 5
  clear fr
  go_upto_region 7 with (fail)
  go_region
  go_upto_region 13 with (fail)
  refine name_wp (fun w5 => Below w.heap.size w w5 ∧ w5.heap[w.heap.size + 1]? = some (.cells #[.int .u8 0, .int .u8 0, .int .i64 0, .int .i64 0, .int .i64 0, .int .i64 0] 33 (0, 0)) ∧ w5.heap[w.heap.size + 1 + 1]? = some (.cells #[.int .u8 3, .int .u8 (1 + F % 2), .int .i64 (1 + B % 4), .int .i64 (1 + (1 + L % 5) % 3), .int .i64 0, .int .i64 (1 + C % 4)] 33 (0, 0)))
    ⟨(((hb.setCell (p := ⟨w.heap.size + 1 + 1, 2, none⟩) (by show w.heap.size ≤ w.heap.size + 1 + 1; omega) _).setCell (p := ⟨w.heap.size + 1 + 1, 3, none⟩) (by show w.heap.size ≤ w.heap.size + 1 + 1; omega) _).setCell (p := ⟨w.heap.size + 1 + 1, 5, none⟩) (by show w.heap.size ≤ w.heap.size + 1 + 1; omega) _).drew,
      store_far (store_far (store_far kr (by show w.heap.size + 1 ≠ w.heap.size + 1 + 1; omega)) (by show w.heap.size + 1 ≠ w.heap.size + 1 + 1; omega)) (by show w.heap.size + 1 ≠ w.heap.size + 1 + 1; omega), (store1 (store1 (store1 kc (o := 2)) (o := 3)) (o := 5)).trans rfl⟩ ?_
  clear hb ks kr kc d0 d1 d2 d3 d4 d5 e0 e1 e2 e3 e4 e5 f2 f3 f4 f5
  rintro w5 ⟨hb, kr, kc⟩
  obtain ⟨c0, c1, c2, c3, c4, c5⟩ := blk6 kc
  go_wp2_with (refine list_store_whole _ _ _ _ [.int .u8 3, .int .u8 (1 + F % 2), .int .i64 (1 + B % 4), .int .i64 (1 + (1 + L % 5) % 3), .int .i64 (0), .int .i64 (1 + C % 4)] [.int .u8 0, .int .u8 0, .int .i64 0, .int .i64 0, .int .i64 0, .int .i64 0] 33 rfl rfl rfl rfl kr rfl info_circuit (one6 _ _ _ _ _ _) ?_; intro w6 hbut kz)
  have hb6 := hbut.below hb (Nat.le_succ _) hb.size
  obtain ⟨z0, z1, z2, z3, z4, z5⟩ := blk6 kz
  exact bodyPost_ret (v := .agg #[.int .u8 3, .int .u8 (1 + F % 2), .int .i64 (1 + B % 4), .int .i64 (1 + (1 + L % 5) % 3), .int .i64 (0), .int .i64 (1 + C % 4)]) (by simp [results, Tryz.results11, go_sem, z0, z1, z2, z3, z4, z5]) rfl ⟨rfl, hb6⟩
set_option maxRecDepth 20000 in
set_option maxHeartbeats 4000000 in
theorem small_4 (K F B L W C : Int) (hK : K % 5 = 3) (k0 : 0 ≤ K) (k1 : K ≤ 255) (f0 : 0 ≤ F) (f1 : F ≤ 255) (b0 : 0 ≤ B) (b1 : B ≤ 255) (l0 : 0 ≤ L) (l1 : L ≤ 255) (w0 : 0 ≤ W) (w1 : W ≤ 255) (c0 : 0 ≤ C) (c1 : C ≤ 255) (w : World) :
    Calls Tryz.prog 11 #[svl K F B L W C] w fun e w' => e = .returned (cvl (smallC K F B L W C)) ∧ Below w.heap.size w w' := by
  have e : smallC K F B L W C = ⟨4, 1 + F % 2, 0, 1 + L % 5, 0, 1 + C % 4⟩ := by unfold smallC; simp [hK]
  rw [e]
  unfold svl cvl
  simp only
  go_enter Tryz.func11, Tryz.ntmps11
  go_wp2
  refine name_wp (fun w3 => Below w.heap.size w w3 ∧ w3.heap[w.heap.size]? = some (.cells #[.int .u8 K, .int .u8 F, .int .u8 B, .int .u8 L, .int .u8 W, .int .u8 C] 23 (0, 0)) ∧ w3.heap[w.heap.size + 1]? = some (.cells #[.int .u8 0, .int .u8 0, .int .i64 0, .int .i64 0, .int .i64 0, .int .i64 0] 33 (0, 0)) ∧ w3.heap[w.heap.size + 1 + 1]? = some (.cells #[.int .u8 4, .int .u8 (1 + F % 2), .int .i64 0, .int .i64 0, .int .i64 0, .int .i64 0] 33 (0, 0)))
    ⟨(((Below.refl _ _).alloc (Nat.le_refl _) _).alloc (by simp) _).alloc (by simp; omega) _, alloc_keeps (alloc_keeps (alloc_at rfl)), alloc_keeps (alloc_at (by simp)), alloc_at (by simp)⟩ ?_
  rintro w3 ⟨hb, ks, kr, kc⟩
  refine wp_region_flow0 (by kernel_rfl) (by kernel_rfl) ?_
  intro ι _ φ hφ
  have q := fun i => blk6 (keeps (hφ.old i) ks)
  have q2 := fun i => (q i).2.2.1
  have q3 := fun i => (q i).2.2.2.1
  clear q
  repeat (go_big_quiet_step (fail))
  refine wpQuiet_nil ?_
  intro w4 hv
  replace hb := below_next hb hb.size hv
  replace ks := keeps hv ks
  replace kr := keeps hv kr
  replace kc := keeps hv kc
  clear hv q2 q3 hφ
  obtain ⟨d0, d1, d2, d3, d4, d5⟩ := blk6 kc
  obtain ⟨e0, e1, e2, e3, e4, e5⟩ := blk6 ks
  have fr : ∀ o, w4.frozen? ⟨w.heap.size + 1 + 1, o, none⟩ = false := fun o => by simp [World.frozen?, kc]
  have f2 := fr 2
  have f3 := fr 3
  have f4 := fr 4
  have f5 := fr 5
  clear fr
  go_upto_region 9 with (fail)
  go_region
  go_upto_region 13 with (fail)
  refine name_wp (fun w5 => Below w.heap.size w w5 ∧ w5.heap[w.heap.size + 1]? = some (.cells #[.int .u8 0, .int .u8 0, .int .i64 0, .int .i64 0, .int .i64 0, .int .i64 0] 33 (0, 0)) ∧ w5.heap[w.heap.size + 1 + 1]? = some (.cells #[.int .u8 4, .int .u8 (1 + F % 2), .int .i64 0, .int .i64 (1 + L % 5), .int .i64 0, .int .i64 (1 + C % 4)] 33 (0, 0)))
    ⟨(((hb.setCell (p := ⟨w.heap.size + 1 + 1, 3, none⟩) (by show w.heap.size ≤ w.heap.size + 1 + 1; omega) _)).setCell (p := ⟨w.heap.size + 1 + 1, 5, none⟩) (by show w.heap.size ≤ w.heap.size + 1 + 1; omega) _).drew,
      store_far (store_far kr (by show w.heap.size + 1 ≠ w.heap.size + 1 + 1; omega)) (by show w.heap.size + 1 ≠ w.heap.size + 1 + 1; omega), (store1 (store1 kc (o := 3)) (o := 5)).trans rfl⟩ ?_
  clear hb ks kr kc d0 d1 d2 d3 d4 d5 e0 e1 e2 e3 e4 e5 f2 f3 f4 f5
  rintro w5 ⟨hb, kr, kc⟩
  obtain ⟨c0, c1, c2, c3, c4, c5⟩ := blk6 kc
  go_wp2_with (refine list_store_whole _ _ _ _ [.int .u8 4, .int .u8 (1 + F % 2), .int .i64 (0), .int .i64 (1 + L % 5), .int .i64 (0), .int .i64 (1 + C % 4)] [.int .u8 0, .int .u8 0, .int .i64 0, .int .i64 0, .int .i64 0, .int .i64 0] 33 rfl rfl rfl rfl kr rfl info_circuit (one6 _ _ _ _ _ _) ?_; intro w6 hbut kz)
  have hb6 := hbut.below hb (Nat.le_succ _) hb.size
  obtain ⟨z0, z1, z2, z3, z4, z5⟩ := blk6 kz
  exact bodyPost_ret (v := .agg #[.int .u8 4, .int .u8 (1 + F % 2), .int .i64 (0), .int .i64 (1 + L % 5), .int .i64 (0), .int .i64 (1 + C % 4)]) (by simp [results, Tryz.results11, go_sem, z0, z1, z2, z3, z4, z5]) rfl ⟨rfl, hb6⟩
set_option maxRecDepth 20000 in
set_option maxHeartbeats 4000000 in
theorem small_5 (K F B L W C : Int) (hK : K % 5 = 4) (k0 : 0 ≤ K) (k1 : K ≤ 255) (f0 : 0 ≤ F) (f1 : F ≤ 255) (b0 : 0 ≤ B) (b1 : B ≤ 255) (l0 : 0 ≤ L) (l1 : L ≤ 255) (w0 : 0 ≤ W) (w1 : W ≤ 255) (c0 : 0 ≤ C) (c1 : C ≤ 255) (w : World) :
    Calls Tryz.prog 11 #[svl K F B L W C] w fun e w' => e = .returned (cvl (smallC K F B L W C)) ∧ Below w.heap.size w w' := by
  have e : smallC K F B L W C = ⟨5, 1 + F % 2, 0, 1 + L % 5, 1 + W % (1 + L % 5), 1 + C % 4⟩ := by unfold smallC; simp [hK]
  rw [e]
  have hm := Int.emod_nonneg W (show 1 + L % 5 ≠ 0 by omega)
  have hm2 := Int.emod_lt_of_pos W (show 0 < 1 + L % 5 by omega)
  have htm : W.tmod (1 + L % 5) = W % (1 + L % 5) := Int.tmod_eq_emod_of_nonneg w0
  have hx5 : 1 + L % 5 ≤ 5 := by omega
  have hx1 : 1 ≤ 1 + L % 5 := by omega
  obtain ⟨Y, hY⟩ : ∃ Y, W % (1 + L % 5) = Y := ⟨_, rfl⟩
  rw [hY] at hm hm2 htm ⊢
  have hne : (1 + L % 5 == 0) = false := by simp; omega
  have hm4 : Y ≤ 4 := by omega
  replace hY := Lib.hid hY
  clear hm2
  unfold svl cvl
  simp only
  go_enter Tryz.func11, Tryz.ntmps11
  go_wp2
  refine name_wp (fun w3 => Below w.heap.size w w3 ∧ w3.heap[w.heap.size]? = some (.cells #[.int .u8 K, .int .u8 F, .int .u8 B, .int .u8 L, .int .u8 W, .int .u8 C] 23 (0, 0)) ∧ w3.heap[w.heap.size + 1]? = some (.cells #[.int .u8 0, .int .u8 0, .int .i64 0, .int .i64 0, .int .i64 0, .int .i64 0] 33 (0, 0)) ∧ w3.heap[w.heap.size + 1 + 1]? = some (.cells #[.int .u8 5, .int .u8 (1 + F % 2), .int .i64 0, .int .i64 0, .int .i64 0, .int .i64 0] 33 (0, 0)))
    ⟨(((Below.refl _ _).alloc (Nat.le_refl _) _).alloc (by simp) _).alloc (by simp; omega) _, alloc_keeps (alloc_keeps (alloc_at rfl)), alloc_keeps (alloc_at (by simp)), alloc_at (by simp)⟩ ?_
  rintro w3 ⟨hb, ks, kr, kc⟩
  refine wp_region_flow0 (by kernel_rfl) (by kernel_rfl) ?_
  intro ι _ φ hφ
  have q := fun i => blk6 (keeps (hφ.old i) ks)
  have q2 := fun i => (q i).2.2.1
  have q3 := fun i => (q i).2.2.2.1
  clear q
  repeat (go_big_quiet_step (fail))
  refine wpQuiet_nil ?_
  intro w4 hv
  replace hb := below_next hb hb.size hv
  replace ks := keeps hv ks
  replace kr := keeps hv kr
  replace kc := keeps hv kc
  clear hv q2 q3 hφ
  obtain ⟨d0, d1, d2, d3, d4, d5⟩ := blk6 kc
  obtain ⟨e0, e1, e2, e3, e4, e5⟩ := blk6 ks
  have fr : ∀ o, w4.frozen? ⟨w.heap.size + 1 + 1, o, none⟩ = false := fun o => by simp [World.frozen?, kc]
  have f2 := fr 2
  have f3 := fr 3
  have f4 := fr 4
  have f5 := fr 5
  clear fr
  go_upto_region 11 with (fail)
  go_region
  go_upto_region 13 with (fail)
  refine name_wp (fun w5 => Below w.heap.size w w5 ∧ w5.heap[w.heap.size + 1]? = some (.cells #[.int .u8 0, .int .u8 0, .int .i64 0, .int .i64 0, .int .i64 0, .int .i64 0] 33 (0, 0)) ∧ w5.heap[w.heap.size + 1 + 1]? = some (.cells #[.int .u8 5, .int .u8 (1 + F % 2), .int .i64 0, .int .i64 (1 + L % 5), .int .i64 (1 + Y), .int .i64 (1 + C % 4)] 33 (0, 0)))
    ⟨(((hb.setCell (p := ⟨w.heap.size + 1 + 1, 3, none⟩) (by show w.heap.size ≤ w.heap.size + 1 + 1; omega) _).setCell (p := ⟨w.heap.size + 1 + 1, 5, none⟩) (by show w.heap.size ≤ w.heap.size + 1 + 1; omega) _).setCell (p := ⟨w.heap.size + 1 + 1, 4, none⟩) (by show w.heap.size ≤ w.heap.size + 1 + 1; omega) _).drew,
      store_far (store_far (store_far kr (by show w.heap.size + 1 ≠ w.heap.size + 1 + 1; omega)) (by show w.heap.size + 1 ≠ w.heap.size + 1 + 1; omega)) (by show w.heap.size + 1 ≠ w.heap.size + 1 + 1; omega), (store1 (store1 (store1 kc (o := 3)) (o := 5)) (o := 4)).trans rfl⟩ ?_
  clear hb ks kr kc d0 d1 d2 d3 d4 d5 e0 e1 e2 e3 e4 e5 f2 f3 f4 f5
  rintro w5 ⟨hb, kr, kc⟩
  obtain ⟨c0, c1, c2, c3, c4, c5⟩ := blk6 kc
  go_wp2_with (refine list_store_whole _ _ _ _ [.int .u8 5, .int .u8 (1 + F % 2), .int .i64 (0), .int .i64 (1 + L % 5), .int .i64 (1 + Y), .int .i64 (1 + C % 4)] [.int .u8 0, .int .u8 0, .int .i64 0, .int .i64 0, .int .i64 0, .int .i64 0] 33 rfl rfl rfl rfl kr rfl info_circuit (one6 _ _ _ _ _ _) ?_; intro w6 hbut kz)
  have hb6 := hbut.below hb (Nat.le_succ _) hb.size
  obtain ⟨z0, z1, z2, z3, z4, z5⟩ := blk6 kz
  exact bodyPost_ret (v := .agg #[.int .u8 5, .int .u8 (1 + F % 2), .int .i64 (0), .int .i64 (1 + L % 5), .int .i64 (1 + Y), .int .i64 (1 + C % 4)]) (by simp [results, Tryz.results11, go_sem, z0, z1, z2, z3, z4, z5]) rfl ⟨rfl, hb6⟩
/-- The law's circuit of small numbers. -/
theorem small_any (K F B L W C : Int) (k0 : 0 ≤ K) (k1 : K ≤ 255) (f0 : 0 ≤ F) (f1 : F ≤ 255) (b0 : 0 ≤ B) (b1 : B ≤ 255) (l0 : 0 ≤ L) (l1 : L ≤ 255) (w0 : 0 ≤ W) (w1 : W ≤ 255) (c0 : 0 ≤ C) (c1 : C ≤ 255) (w : World) :
    Calls Tryz.prog 11 #[svl K F B L W C] w fun e w' => e = .returned (cvl (smallC K F B L W C)) ∧ Below w.heap.size w w' := by
  have h5 : K % 5 = 0 ∨ K % 5 = 1 ∨ K % 5 = 2 ∨ K % 5 = 3 ∨ K % 5 = 4 := by omega
  rcases h5 with h | h | h | h | h
  · exact small_1 K F B L W C h k0 k1 f0 f1 b0 b1 l0 l1 w0 w1 c0 c1 w
  · exact small_2 K F B L W C h k0 k1 f0 f1 b0 b1 l0 l1 w0 w1 c0 c1 w
  · exact small_3 K F B L W C h k0 k1 f0 f1 b0 b1 l0 l1 w0 w1 c0 c1 w
  · exact small_4 K F B L W C h k0 k1 f0 f1 b0 b1 l0 l1 w0 w1 c0 c1 w
  · exact small_5 K F B L W C h k0 k1 f0 f1 b0 b1 l0 l1 w0 w1 c0 c1 w
end Go.Proofs.YtebgfelbffgnbaaGreatDoor

/-
  The law's fixed fact.
-/
namespace Go.Proofs.YtebgfelbffgnbaaGreatDoor
open Go.RowKit Flow F
set_option linter.unusedVariables false
set_option linter.unusedSimpArgs false
attribute [local go_sem] eql_elem

def awC : Ci := ⟨5, 1, 0, 3, 2, 2⟩
end Go.Proofs.YtebgfelbffgnbaaGreatDoor
