/-
  ViewParts' walk.
-/
import Derived.Test.YtmnnfecipkdgfaaDoorVwF
namespace Go.Proofs.YtmnnfecipkdgfaaDoor
open Go.RowKit Flow Go.Sort
set_option linter.unusedVariables false
set_option linter.unusedSimpArgs false

theorem awake_text : resS 10 3 [2] 0 = ⟨#[119, 105, 110, 100, 111, 119, 32, 49, 48, 32, 111, 107, 32, 114, 101, 112, 111, 114, 116, 115, 32, 51, 32, 115, 117, 109, 115, 32, 50]⟩ := by
  have e10 : prn 10 = ⟨#[49, 48]⟩ := by decide +kernel
  have e3 : prn 3 = ⟨#[51]⟩ := by decide +kernel
  have e2 : prn 2 = ⟨#[50]⟩ := by decide +kernel
  unfold resS sumsS midS headS cods
  simp only [if_true, List.foldl_cons, List.foldl_nil, e10, e2, e3, show (3 : Int).toNat = 3 from rfl, show (2 : Int).toNat = 2 from rfl]
  decide +kernel
set_option maxRecDepth 20000 in
set_option maxHeartbeats 4000000 in
theorem awake29 (w : World) (hT : Tab w) : Calls Tryd.prog 4 #[] w fun e w' => e = .returned (.bool true) ∧ Below w.heap.size w w' := by
  have hv := (Below.refl w.heap.size w).alloc (Nat.le_refl _) (.cells #[.int .u64 2] 24)
  have hr := Lib.hid (vresult_any 10 3 (some ⟨w.heap.size, 0, none⟩) 1 1 0 [2] rfl (by omega) (fun z hz => by simp at hz; omega) (by omega) (by omega) (by omega) (w.alloc (.cells #[.int .u64 2] 24)) (hT.up hv) (fun k hk => by
    have hk0 : k = 0 := by simpa using hk
    subst hk0
    exact ⟨w.heap.size, 0, rfl, by rw [World.cell?_alloc_new]; rfl⟩))
  rw [awake_text] at hr
  unfold resv at hr
  clear hT
  go_enter Tryd.func4, Tryd.ntmps4
  go_wp2_with fail
  refine hr.out.mono ?_
  rintro e w1 ⟨rfl, hb⟩
  have hb9 := below_next hv hv.size hb
  go_wp2
  go_ret
  exact ⟨rfl, hb9⟩
/-- A window's text, as the law spells it. -/
theorem buck_same (W1 P R N C H : ByteArray) (a b : ByteArray) (st : ByteArray) (h : st = a ++ b) : W1 ++ P ++ R ++ N ++ st ++ C ++ H = W1 ++ P ++ R ++ N ++ a ++ b ++ C ++ H := by
  rw [h]
  simp only [ByteArray.append_assoc]
theorem toList_beq {a b : ByteArray} (h : a = b) : (a.toList == b.toList) = true := by rw [h]; exact beq_self_eq_true _
-- The last region: the number's contract at hand, and what the window's text is.
set_option maxRecDepth 20000 in
set_option maxHeartbeats 8000000 in
theorem parts_walk (xs : List Int) (t : Nat) (c : Int) (s : Nat) (A : Option Addr) (n cp : Nat) (m : Int) (ys : List Int) (cl : Bool) (r : Nat) (k : Int) (Z : Option Addr) (q qc : Nat) (d : Int) (zs : List Int)
    (hx : xs.length = 16) (bx : ∀ x, x ∈ xs → 0 ≤ x ∧ x < 256) (t1 : t < 18446744073709551616) (c1 : c < 9223372036854775808) (hy : ys.length = 16) (by_ : ∀ x, x ∈ ys → 0 ≤ x ∧ x < 256) (s1 : s < 18446744073709551616) (m1 : m < 9223372036854775808)
    (hz : zs.length = q) (hzo : ∀ z, z ∈ zs → 0 ≤ z ∧ z < 18446744073709551616) (r1 : r < 18446744073709551616) (k1 : k < 9223372036854775808) (d1 : d < 9223372036854775808) (hqm : q ≤ maxLen) (w : World) (hT : Tab w) (hZ : WordsIn w Z zs) :
    Calls Tryd.prog 3 #[seenv xs t c, buckv s A n cp m ys cl, resv r k Z q qc d] w fun e w' => e = .returned (.bool true) ∧ Below w.heap.size w w' := by
  have hAw := Lib.hid (fun w h => awake29 w h)
  have hrep := Lib.hid (fun w h => report_any xs t c hx bx t1 c1 w h)
  have hbuc := Lib.hid (fun w h => bucket_any s A n cp m ys cl hy by_ s1 m1 w h)
  have hhx := Lib.hid (fun p w h => hex_any xs (some ⟨p, 0, none⟩) 16 16 hx (by omega) bx w h)
  have hhy := Lib.hid (fun p w h => hex_any ys (some ⟨p, 3, none⟩) 16 16 hy (by omega) by_ w h)
  have hpt := Lib.hid (fun w h => printed_any t t1 w h)
  have hps := Lib.hid (fun w h => printed_any s s1 w h)
  have hco := Lib.hid (fun w h => lcode_any c c1 w h)
  have z1 := hexs_size hx (by omega)
  have z2 := hexs_size hy (by omega)
  have z3 := prn_size t1
  have z4 := prn_size s1
  have z5 := cods_size c1
  have z6 := prn_size (u := m.toNat) (by omega)
  have hvr0 := fun hq => fun w h hZ => vresult_any r k Z q qc d zs hz hq hzo r1 k1 d1 w h hZ
  have hlr0 := fun hq => fun w h hZ => lresult_any r k Z q qc d zs hz hq hzo r1 k1 d1 w h hZ
  have hvr1 := Lib.hid hvr0
  have hlr1 := Lib.hid hlr0
  have hxx := Lib.hid hx
  have hyy := Lib.hid hy
  obtain ⟨Q, hQ⟩ : ∃ Q, m.toNat = Q := ⟨_, rfl⟩
  have hpm := Lib.hid (fun w h => printed_any Q (by omega) w h)
  have hmc : (max m 0 = 0 ∧ Q = 0) ∨ (max m 0 = (Q : Int) ∧ m = (Q : Int)) := by omega
  have hQ6 : Q < 9223372036854775808 := by omega
  have hwq : IntKind.u64.wrap (Q : Int) = (Q : Int) := by rw [IntKind.wrap_u64]; omega
  have hw0 : IntKind.u64.wrap (max m 0) = (Q : Int) := by rcases hmc with ⟨e, rfl⟩ | ⟨e, -⟩ <;> rw [e, IntKind.wrap_u64] <;> omega
  unfold repS at hrep
  unfold buckS at hbuc
  rw [hQ] at hbuc z6
  unfold maxLen at hqm
  clear hvr0 hlr0 hx hy bx by_ t1 c1 s1 m1 hz hzo r1 k1 d1 hQ hQ6 hwq
  have hZZ := Lib.hid hZ
  have hTT := Lib.hid hT
  clear hZ hT
  have hmm : max m 0 = (Q : Int) := by rcases hmc with ⟨e, rfl⟩ | ⟨e, -⟩ <;> rw [e] <;> rfl
  have hwQ : IntKind.u64.wrap (Q : Int) = (Q : Int) := by rw [← hmm]; exact hw0.trans hmm.symm
  clear hw0 hmc
  obtain ⟨V1, hV1⟩ : ∃ V1, (⟨#[119, 105, 110, 100, 111, 119, 32]⟩ : ByteArray) ++ prn s ++ ⟨#[32, 114, 101, 112, 111, 114, 116, 115, 32]⟩ ++ prn Q ++ (if cl = true then ⟨#[32, 99, 108, 111, 115, 101, 100]⟩ else ⟨#[32, 111, 112, 101, 110]⟩) ++ ⟨#[32, 99, 104, 101, 99, 107, 32]⟩ ++ hexs ys = V1 := ⟨_, rfl⟩
  rw [hV1] at hbuc
  have hV2 := buck_same ⟨#[119, 105, 110, 100, 111, 119, 32]⟩ (prn s) ⟨#[32, 114, 101, 112, 111, 114, 116, 115, 32]⟩ (prn Q) ⟨#[32, 99, 104, 101, 99, 107, 32]⟩ (hexs ys) ⟨#[32]⟩ (if cl = true then ⟨#[99, 108, 111, 115, 101, 100]⟩ else ⟨#[111, 112, 101, 110]⟩) _ (show (if cl = true then (⟨#[32, 99, 108, 111, 115, 101, 100]⟩ : ByteArray) else ⟨#[32, 111, 112, 101, 110]⟩) = ⟨#[32]⟩ ++ (if cl = true then ⟨#[99, 108, 111, 115, 101, 100]⟩ else ⟨#[111, 112, 101, 110]⟩) by cases cl <;> decide +kernel)
  rw [hV1] at hV2
  clear hV1
  generalize hexs xs = S1 at *
  generalize hexs ys = S2 at *
  generalize prn t = S3 at *
  generalize prn s = S4 at *
  generalize cods c = S5 at *
  generalize prn Q = S6 at *
  generalize resS r k zs d = S7 at *
  replace hV2 := Lib.hid hV2
  unfold seenv buckv resv
  unfold seenv at hrep
  unfold buckv at hbuc
  unfold resv at hvr1 hlr1
  go_enter Tryd.func3, Tryd.ntmps3
  go_upto_region 1 with (fail)
  refine name_wp (fun w1 => Below w.heap.size w w1 ∧ w1.heap[w.heap.size]? = some (.cells (scells xs t c).toArray 27 (0, 0)) ∧ w1.heap[w.heap.size + 1]? = some (.cells (bcells s A n cp m ys cl).toArray 33 (0, 0)) ∧ w1.heap[w.heap.size + 1 + 1]? = some (.cells #[.int .u64 (r : Int), .int .i64 k, .slice Z q qc, .int .i64 d] 36 (0, 0)))
    ⟨(((Below.refl _ _).alloc (Nat.le_refl _) _).alloc (by simp) _).alloc (by simp; omega) _, alloc_keeps (alloc_keeps (alloc_at rfl)), alloc_keeps (alloc_at (by simp)), alloc_at (by simp)⟩ ?_
  rintro w1 ⟨hb, k0, k1, k2⟩
  generalize w.heap.size + 1 + 1 = pr at *
  generalize hpb : w.heap.size + 1 = pb at *
  clear hpb
  have hT := hTT.out.up hb
  have hZ := hZZ.out
  go_wp2_with fail
  refine (hAw.out _ hT).mono ?_
  rintro e w2 ⟨rfl, hv⟩
  replace hb := below_next hb hb.size hv
  replace k0 := keeps hv k0
  replace k1 := keeps hv k1
  replace k2 := keeps hv k2
  replace hT := hT.up hv
  clear hv hAw hTT
  obtain ⟨e0, e1, e2, e3⟩ := blk4 k2
  by_cases h30 : 30 < q
  · have n1 : (30 : Int) < (q : Int) := by omega
    go_wp2
    go_ret
    exact ⟨rfl, hb⟩
  have n1 : ¬ (30 : Int) < (q : Int) := by omega
  have hvr := Lib.hid (hvr1.out (by omega))
  have hlr := Lib.hid (hlr1.out (by omega))
  have hs := seen_of hxx.out t c k0
  have hB := buck_of hyy.out s A n cp m cl k1
  clear hvr1 hlr1 h30
  have e4 := hB.hc
  cases cl with
  | false =>
    have hV3 := hV2.out
    simp only [Bool.false_eq_true, if_false] at hV3
    replace hV3 := Lib.hid hV3
    go_wp2
    clear e4
    clear e0 e1 e2 e3
    refine wp_region_flow0 (by kernel_rfl) (by kernel_rfl) ?_
    intro ι _ φ hφ
    
    have q1 := fun i => hφ.cell hs.ht i
    have q2 := fun i => hφ.cell hs.hc i
    have q3 := fun i => hφ.cell hB.hs i
    have q4 := fun i => hφ.cell hB.hm i
    have dd := fun i => blk4 (keeps (hφ.old i) k2)
    have d0 := fun i => (dd i).1
    have d1 := fun i => (dd i).2.1
    have d2 := fun i => (dd i).2.2.1
    have d3 := fun i => (dd i).2.2.2
    clear dd
    have hx1 := Lib.hid (fun i => hhx.out w.heap.size (φ i) (hs.up (hφ.old i)).hid)
    have hy1 := Lib.hid (fun i => hhy.out pb (φ i) (hB.up (hφ.old i)).hy)
    have hr1 := Lib.hid (fun i => hrep.out (φ i) (hT.up (hφ.old i)))
    have hb1 := Lib.hid (fun i => hbuc.out (φ i) (hT.up (hφ.old i)))
    have hv1 := Lib.hid (fun i => hvr.out (φ i) (hT.up (hφ.old i)) (hZ.up (below_next hb hb.size (hφ.old i))))
    have hl1 := Lib.hid (fun i => hlr.out (φ i) (hT.up (hφ.old i)) (hZ.up (below_next hb hb.size (hφ.old i))))
    have hp1 := Lib.hid (fun i => hpt.out (φ i) (hT.up (hφ.old i)))
    have hp2 := Lib.hid (fun i => hps.out (φ i) (hT.up (hφ.old i)))
    have hp3 := Lib.hid (fun i => hpm.out (φ i) (hT.up (hφ.old i)))
    have hc1 := Lib.hid (fun i => hco.out (φ i) (hT.up (hφ.old i)))
    iterate 41 (first
      | (refine quiet_load_mid _ _ _ 0 _ _ rfl rfl rfl (mid_family hφ (At0.of_block k0)) Tryd.underlying27 rfl (by rw [show (scells xs t c).length = 18 by simp [scells, hxx.out]]; kernel_rfl) ?_; simp only [Act.put, List.setIfInBounds_toArray, List.set_cons_succ, List.set_cons_zero])
      | (refine quiet_load_mid _ _ _ 0 _ _ rfl rfl rfl (mid_family hφ (At0.of_block k1)) Tryd.underlying33 rfl (by rw [show ∀ bb, (bcells s A n cp m ys bb).length = 20 by simp [bcells, hyy.out]]; kernel_rfl) ?_; simp only [Act.put, List.setIfInBounds_toArray, List.set_cons_succ, List.set_cons_zero])
      | go_big_quiet_step ((first
      | (go_at_call 5; exact flow_call hφ (hr1.out _))
      | (go_at_call 9; exact flow_call hφ (hb1.out _))
      | (go_at_call 10; exact flow_call hφ (hv1.out _))
      | (go_at_call 11; exact flow_call hφ (hl1.out _))
      | (go_at_call 8; exact flow_call hφ (hc1.out _))
      | (go_at_call 6; (first | (with_reducible exact flow_call hφ (hx1.out _)) | (with_reducible exact flow_call hφ (hy1.out _))))
      | (go_at_call 7; (first | (with_reducible exact flow_call hφ (hp1.out _)) | (with_reducible exact flow_call hφ (hp2.out _)) | (with_reducible exact flow_call hφ (hp3.out _)))))))
    have hV4 := toList_beq hV3.out
    rw [hV4]
    repeat (first
      | (refine quiet_load_mid _ _ _ 0 _ _ rfl rfl rfl (mid_family hφ (At0.of_block k0)) Tryd.underlying27 rfl (by rw [show (scells xs t c).length = 18 by simp [scells, hxx.out]]; kernel_rfl) ?_; simp only [Act.put, List.setIfInBounds_toArray, List.set_cons_succ, List.set_cons_zero])
      | (refine quiet_load_mid _ _ _ 0 _ _ rfl rfl rfl (mid_family hφ (At0.of_block k1)) Tryd.underlying33 rfl (by rw [show ∀ bb, (bcells s A n cp m ys bb).length = 20 by simp [bcells, hyy.out]]; kernel_rfl) ?_; simp only [Act.put, List.setIfInBounds_toArray, List.set_cons_succ, List.set_cons_zero])
      | go_big_quiet_step ((first
      | (go_at_call 5; exact flow_call hφ (hr1.out _))
      | (go_at_call 9; exact flow_call hφ (hb1.out _))
      | (go_at_call 10; exact flow_call hφ (hv1.out _))
      | (go_at_call 11; exact flow_call hφ (hl1.out _))
      | (go_at_call 8; exact flow_call hφ (hc1.out _))
      | (go_at_call 6; (first | (with_reducible exact flow_call hφ (hx1.out _)) | (with_reducible exact flow_call hφ (hy1.out _))))
      | (go_at_call 7; (first | (with_reducible exact flow_call hφ (hp1.out _)) | (with_reducible exact flow_call hφ (hp2.out _)) | (with_reducible exact flow_call hφ (hp3.out _)))))))
    refine wpQuiet_nil ?_
    intro w3 hv
    replace hb := below_next hb hb.size hv
    go_wp2
    go_ret
    exact ⟨rfl, hb⟩
  | true =>
    have hV3 := hV2.out
    simp only [if_true] at hV3
    replace hV3 := Lib.hid hV3
    go_wp2
    clear e4
    clear e0 e1 e2 e3
    refine wp_region_flow0 (by kernel_rfl) (by kernel_rfl) ?_
    intro ι _ φ hφ
    
    have q1 := fun i => hφ.cell hs.ht i
    have q2 := fun i => hφ.cell hs.hc i
    have q3 := fun i => hφ.cell hB.hs i
    have q4 := fun i => hφ.cell hB.hm i
    have dd := fun i => blk4 (keeps (hφ.old i) k2)
    have d0 := fun i => (dd i).1
    have d1 := fun i => (dd i).2.1
    have d2 := fun i => (dd i).2.2.1
    have d3 := fun i => (dd i).2.2.2
    clear dd
    have hx1 := Lib.hid (fun i => hhx.out w.heap.size (φ i) (hs.up (hφ.old i)).hid)
    have hy1 := Lib.hid (fun i => hhy.out pb (φ i) (hB.up (hφ.old i)).hy)
    have hr1 := Lib.hid (fun i => hrep.out (φ i) (hT.up (hφ.old i)))
    have hb1 := Lib.hid (fun i => hbuc.out (φ i) (hT.up (hφ.old i)))
    have hv1 := Lib.hid (fun i => hvr.out (φ i) (hT.up (hφ.old i)) (hZ.up (below_next hb hb.size (hφ.old i))))
    have hl1 := Lib.hid (fun i => hlr.out (φ i) (hT.up (hφ.old i)) (hZ.up (below_next hb hb.size (hφ.old i))))
    have hp1 := Lib.hid (fun i => hpt.out (φ i) (hT.up (hφ.old i)))
    have hp2 := Lib.hid (fun i => hps.out (φ i) (hT.up (hφ.old i)))
    have hp3 := Lib.hid (fun i => hpm.out (φ i) (hT.up (hφ.old i)))
    have hc1 := Lib.hid (fun i => hco.out (φ i) (hT.up (hφ.old i)))
    iterate 41 (first
      | (refine quiet_load_mid _ _ _ 0 _ _ rfl rfl rfl (mid_family hφ (At0.of_block k0)) Tryd.underlying27 rfl (by rw [show (scells xs t c).length = 18 by simp [scells, hxx.out]]; kernel_rfl) ?_; simp only [Act.put, List.setIfInBounds_toArray, List.set_cons_succ, List.set_cons_zero])
      | (refine quiet_load_mid _ _ _ 0 _ _ rfl rfl rfl (mid_family hφ (At0.of_block k1)) Tryd.underlying33 rfl (by rw [show ∀ bb, (bcells s A n cp m ys bb).length = 20 by simp [bcells, hyy.out]]; kernel_rfl) ?_; simp only [Act.put, List.setIfInBounds_toArray, List.set_cons_succ, List.set_cons_zero])
      | go_big_quiet_step ((first
      | (go_at_call 5; exact flow_call hφ (hr1.out _))
      | (go_at_call 9; exact flow_call hφ (hb1.out _))
      | (go_at_call 10; exact flow_call hφ (hv1.out _))
      | (go_at_call 11; exact flow_call hφ (hl1.out _))
      | (go_at_call 8; exact flow_call hφ (hc1.out _))
      | (go_at_call 6; (first | (with_reducible exact flow_call hφ (hx1.out _)) | (with_reducible exact flow_call hφ (hy1.out _))))
      | (go_at_call 7; (first | (with_reducible exact flow_call hφ (hp1.out _)) | (with_reducible exact flow_call hφ (hp2.out _)) | (with_reducible exact flow_call hφ (hp3.out _)))))))
    have hV4 := toList_beq hV3.out
    rw [hV4]
    repeat (first
      | (refine quiet_load_mid _ _ _ 0 _ _ rfl rfl rfl (mid_family hφ (At0.of_block k0)) Tryd.underlying27 rfl (by rw [show (scells xs t c).length = 18 by simp [scells, hxx.out]]; kernel_rfl) ?_; simp only [Act.put, List.setIfInBounds_toArray, List.set_cons_succ, List.set_cons_zero])
      | (refine quiet_load_mid _ _ _ 0 _ _ rfl rfl rfl (mid_family hφ (At0.of_block k1)) Tryd.underlying33 rfl (by rw [show ∀ bb, (bcells s A n cp m ys bb).length = 20 by simp [bcells, hyy.out]]; kernel_rfl) ?_; simp only [Act.put, List.setIfInBounds_toArray, List.set_cons_succ, List.set_cons_zero])
      | go_big_quiet_step ((first
      | (go_at_call 5; exact flow_call hφ (hr1.out _))
      | (go_at_call 9; exact flow_call hφ (hb1.out _))
      | (go_at_call 10; exact flow_call hφ (hv1.out _))
      | (go_at_call 11; exact flow_call hφ (hl1.out _))
      | (go_at_call 8; exact flow_call hφ (hc1.out _))
      | (go_at_call 6; (first | (with_reducible exact flow_call hφ (hx1.out _)) | (with_reducible exact flow_call hφ (hy1.out _))))
      | (go_at_call 7; (first | (with_reducible exact flow_call hφ (hp1.out _)) | (with_reducible exact flow_call hφ (hp2.out _)) | (with_reducible exact flow_call hφ (hp3.out _)))))))
    refine wpQuiet_nil ?_
    intro w3 hv
    replace hb := below_next hb hb.size hv
    go_wp2
    go_ret
    exact ⟨rfl, hb⟩
end Go.Proofs.YtmnnfecipkdgfaaDoor
