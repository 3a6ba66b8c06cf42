/-
  What the law asks of a gadget of any polynomials.
-/
import Derived.Test.YtailpfbdanhpmaaDoorGqB
namespace Go.Proofs.YtailpfbdanhpmaaDoor
open Go.RowKit F Flow
set_option linter.unusedVariables false
set_option linter.unusedSimpArgs false
attribute [local go_sem] eql_elem

/-- The document's own value of a gadget of one number. -/
theorem lof_evalE (f m x : Int) (A : Option Addr) (c : Nat) (cs : List Int) (N : Nat) (hl : cs.length = N) (hN : N ≤ 10) (hcs : InF f cs) (x0 : 0 ≤ x) (x1 : x < M f) (b o d : Nat) (w : World) (hA : ElemsAt w A cs) (hq : ElemsAt w (some ⟨b, o, none⟩) [x]) :
    Calls Tryd.prog 12 #[.int .i64 f, gvl 2 A N c m, .slice (some ⟨b, o, none⟩) 1 d] w fun e w' => e = .returned (.agg #[.int .u64 (lo (pS x cs % M f)), .int .u64 (hi (pS x cs % M f))]) ∧ Below w.heap.size w w' := by
  have hat := Lib.hid (fun w' h => rat_any f x cs A N c hl (by omega) hcs x0 x1 w' h)
  unfold gvl at *
  generalize pS x cs % M f = z at *
  clear hN hl hcs x0 x1
  go_enter Tryd.func12, Tryd.ntmps12
  go_wp2
  refine wp_region_flow1 7 (by kernel_rfl) (by kernel_rfl) (by kernel_rfl) ?_
  apply Exists.intro
  have hb : Below w.heap.size w ((w.alloc (.cells #[.int .u8 2, .slice A N c, .int .i64 m] 34 (0, 0))).alloc (.cells #[.int .u64 0, .int .u64 0] 28 (0, 0))) := ((Below.refl _ _).alloc (Nat.le_refl _) _).alloc (by simp) _
  have k0 : ((w.alloc (.cells #[.int .u8 2, .slice A N c, .int .i64 m] 34 (0, 0))).alloc (.cells #[.int .u64 0, .int .u64 0] 28 (0, 0))).heap[w.heap.size]? = some (.cells #[.int .u8 2, .slice A N c, .int .i64 m] 34 (0, 0)) := alloc_keeps (alloc_at rfl)
  have kr : ((w.alloc (.cells #[.int .u8 2, .slice A N c, .int .i64 m] 34 (0, 0))).alloc (.cells #[.int .u64 0, .int .u64 0] 28 (0, 0))).heap[w.heap.size + 1]? = some (.cells #[.int .u64 0, .int .u64 0] 28 (0, 0)) := alloc_at (by simp)
  refine ⟨fun ι _ φ hφ => ?_, fun wt hwt => ?_⟩
  · have a0 : ∀ i, (φ i).cell? ⟨w.heap.size, 1, none⟩ = some (.slice A N c) := fun i => (blk3 (keeps (hφ.old i) k0)).2.1
    have a2 : ∀ i, (φ i).cell? ⟨b, o, none⟩ = some (.int .u64 (lo x)) := fun i => by obtain ⟨b', o', e, h, _⟩ := ((hq.up hb).up (hφ.old i)) 0 (by simp); cases e; simpa using h
    have a3 : ∀ i, (φ i).cell? ⟨b, o + 1, none⟩ = some (.int .u64 (hi x)) := fun i => by obtain ⟨b', o', e, _, h⟩ := ((hq.up hb).up (hφ.old i)) 0 (by simp); cases e; simpa using h
    have hat' := fun i => hat.out (φ i) ((hA.up hb).up (hφ.old i))
    simp only [List.take_succ_cons, List.take_zero]
    repeat (go_big_quiet_step ((go_at_call 10; exact flow_call hφ (hat' _))))
    exact wpQuiet_nil rfl
  replace hb := below_next hb hb.size hwt
  replace kr := keeps hwt kr
  clear hwt
  simp only [List.drop_succ_cons, List.drop_zero]
  obtain ⟨s0, s1, s2, s3⟩ := blk2 kr
  go_wp2
  obtain ⟨p2, p3, _, _⟩ := blk2 (store2 (u := .int .u64 (lo z)) (v := .int .u64 (hi z)) kr)
  exact bodyPost_ret (v := .agg #[.int .u64 (lo z), .int .u64 (hi z)]) (by simp [results, Tryd.results12, go_sem, p2, p3]) rfl ⟨rfl, below_store2 hb (Nat.le_succ _)⟩
set_option maxRecDepth 20000 in
set_option maxHeartbeats 4000000 in
theorem poly_evalG (f m : Int) (A : Option Addr) (n c : Nat) (C : World → Prop) (hup : ∀ w w', Below w.heap.size w w' → C w → C w') (ht : CinBy f (gvl 2 A n c m) 1 0 C) (B : Option Addr) (nb cb : Nat) (Good : (Nat → Int) → Nat → Prop)
    (hev : ∀ w, C w → Calls Tryd.prog 24 #[gvl 2 A n c m, .int .u8 f, .slice B nb cb] w fun e w' => ∃ P L, Good P L ∧ MOut P L w e w') (g o d : Nat) (w : World) (hC : C w) (hq : w.cell? ⟨g, o, none⟩ = some (.slice B nb cb)) :
    Calls Tryd.prog 11 #[gvl 2 A n c m, .int .u8 f, .slice (some ⟨g, o, none⟩) 1 d] w fun e w' => ∃ P L, Good P L ∧ MOut P L w e w' := by
  unfold CinBy gvl at *
  unfold MOut at *
  replace ht := Lib.hid ht
  replace hev := Lib.hid hev
  replace hup := Lib.hid hup
  have hgl := World.block_lt_of_cell? _ _ hq
  go_enter Tryd.func11, Tryd.ntmps11
  go_wp2_with fail
  refine name_calls (fun w1 => Below w.heap.size w w1 ∧ w1.heap[w.heap.size]? = some (.cells #[.int .u8 2, .slice A n c, .int .i64 m] 34 (0, 0))) ⟨(Below.refl _ _).alloc (Nat.le_refl _) _, alloc_at rfl⟩ ?_
  rintro w1 ⟨hb, k0⟩
  refine call_then (ht.out _ (hup.out _ _ hb hC)) ?_
  intro w2 hb2
  replace hb := below_next hb hb.size hb2
  replace k0 := keeps hb2 k0
  clear hb2
  obtain ⟨c0, c1, c2, _⟩ := blk3 k0
  go_wp2
  clear c0 c1 c2
  refine seg_start 10 (by kernel_rfl) (by decide) ?_
  intro v0 hv
  replace hb := below_next hb hb.size hv
  replace k0 := keeps hv k0
  clear hv
  have hq1 := (hb.cell hgl).trans hq
  refine seg_batch 5 [0, 1, 2, 3, 4] (by kernel_rfl) rfl (by kernel_rfl) (by kernel_rfl) (by kernel_rfl) ?_
  apply Exists.intro
  refine ⟨fun ι _ φ hφ => ?_, fun v1 hv => ?_⟩
  · have a0 : ∀ i, (φ i).cell? ⟨w.heap.size, 0, none⟩ = some (.int .u8 2) := fun i => (blk3 (keeps (hφ.old i) k0)).1
    have a1 : ∀ i, (φ i).cell? ⟨w.heap.size, 1, none⟩ = some (.slice A n c) := fun i => (blk3 (keeps (hφ.old i) k0)).2.1
    have a2 : ∀ i, (φ i).cell? ⟨w.heap.size, 2, none⟩ = some (.int .i64 m) := fun i => (blk3 (keeps (hφ.old i) k0)).2.2.1
    have a3 := fun i => hφ.cell hq1 i
    repeat (refine pick_step rfl ?_; go_big_quiet_step (fail))
    exact pick_end
  replace hb := below_next hb hb.size hv
  clear hv k0 hq1
  refine seg_one 5 _ (by decide) rfl (by kernel_rfl) ?_
  intro v2 K hv hK
  replace hb := below_next hb hb.size hv
  clear hv
  replace hK := Lib.hid hK
  go_simp
  refine (hev.out _ (hup.out _ _ hb hC)).mono ?_
  rintro e v3 ⟨P', L, hGd, A', rfl, hv, hLi⟩
  replace hGd := Lib.hid hGd
  refine hK.out _ _ hv ?_
  clear hK K
  replace hLi := Lib.hid (hLi.low hb.size)
  replace hb := below_next hb hb.size hv
  clear hv
  refine seg_batch 0 [6, 7, 8, 9] (by kernel_rfl) rfl (by kernel_rfl) (by kernel_rfl) (by kernel_rfl) ?_
  apply Exists.intro
  refine ⟨fun ι _ φ hφ => ?_, fun v4 hv => ?_⟩
  · repeat (refine pick_step rfl ?_; go_big_quiet_step (fail))
    exact pick_end
  replace hLi := Lib.hid (hLi.out.up hv)
  replace hb := below_next hb hb.size hv
  clear hv
  refine seg_done rfl (by kernel_rfl) ?_
  intro v5 hv
  replace hLi := Lib.hid (hLi.out.up hv)
  replace hb := below_next hb hb.size hv
  clear hv
  go_wp2
  go_ret2
  exact ⟨P', L, hGd.out, A', rfl, hb, hLi.out⟩
/-- The polynomials' values. -/
def vls (f t : Int) (n : Nat → Nat) (F : Nat → Nat → Int) (N : Nat) : List Int := (List.range N).map fun i => pf t (F i) (n i) % M f
theorem vls_length (f t : Int) (n : Nat → Nat) (F : Nat → Nat → Int) (N : Nat) : (vls f t n F N).length = N := by simp [vls]
theorem vls_at (f t : Int) (n : Nat → Nat) (F : Nat → Nat → Int) {i N : Nat} (h : i < N) : (vls f t n F N).getD i 0 = pf t (F i) (n i) % M f := by simp [vls, h]
theorem vls_succ (f t : Int) (n : Nat → Nat) (F : Nat → Nat → Int) (N : Nat) : vls f t n F (N + 1) = vls f t n F N ++ [pf t (F N) (n N) % M f] := by simp [vls, List.range_succ]
theorem vls_in (f t : Int) (n : Nat → Nat) (F : Nat → Nat → Int) (N : Nat) : InF f (vls f t n F N) := fun k hk => by
  rw [vls_length] at hk
  rw [vls_at f t n F hk]
  exact mod_in f _
/-- Pairs' values, pair by pair. -/
theorem prs_sv (f t : Int) (n : Nat → Nat) (F : Nat → Nat → Int) (Q : Nat) (hF : ∀ i, i < Q * 2 → ∀ s, 0 ≤ F i s ∧ F i s < M f) : ∀ j, j ≤ Q → prs (mul f) (add f) (vls f t n F (Q * 2)) j = sv f t n F j % M f
  | 0, _ => by simp [prs, sv]
  | j + 1, h => by
    rw [prs, prs_sv f t n F Q hF j (by omega), vls_at f t n F (by omega), vls_at f t n F (by omega), sv, rd_same (hF _ (by omega)), rd_same (hF _ (by omega))]
    unfold mul add
    rw [redu_of_lt (mod_in f _).1 (mod_in f _).2, redu_of_lt (mod_in f _).1 (mod_in f _).2, redu_of_lt (mod_in f _).1 (mod_in f _).2, redu_of_lt (mod_in f _).1 (mod_in f _).2]
    rw [← Int.mul_emod, ← Int.add_emod]
theorem pS_mod (m x y : Int) (h : Eqm m x y) : ∀ cs : List Int, Eqm m (pS x cs) (pS y cs)
  | [] => rfl
  | c :: cs => by
    rw [pS, pS]
    exact Eqm.add rfl (Eqm.mul h (pS_mod m x y h cs))
theorem bd_lin (n mx : Nat) (h : n ≤ mx) : ∀ p, bd n p ≤ p * (mx - 1) + 1
  | 0 => by simp [bd]
  | p + 1 => by
    have := bd_lin n mx h p
    rw [bd, Nat.succ_mul]
    omega
/-- What the law asks of a gadget. -/
structure GPA (f k m : Int) (A : Option Addr) (n c N D : Nat) (C : World → Prop) (V : Int → (Nat → Nat) → (Nat → Nat → Int) → Int) : Prop where
  ar : ∀ w, Calls Tryd.prog 9 #[gvl k A n c m] w fun e w' => e = .returned (.int .i64 (N : Int)) ∧ Below w.heap.size w w'
  de : ∀ w, Calls Tryd.prog 14 #[gvl k A n c m] w fun e w' => e = .returned (.int .i64 (D : Int)) ∧ Below w.heap.size w w'
  poly : ∀ (A' : Nat → Option Addr) (n' c' : Nat → Nat) (F : Nat → Nat → Int) (mx : Nat), mx ≤ 40 → (∀ i, i < N → n' i ≤ mx ∧ ∀ t, 0 ≤ F i t ∧ F i t < M f) → ∀ (g d : Nat) w, C w → Tabs w → PolysAt w g 0 N A' n' c' F →
    Calls Tryd.prog 11 #[gvl k A n c m, .int .u8 f, .slice (some ⟨g, 0, none⟩) N d] w fun e w' => ∃ P L, Poly f P L ∧ L ≤ D * (mx - 1) + 1 ∧ (∀ t, Eqm (M f) (pf t P L) (V t n' F)) ∧ MOut P L w e w'
  few : ∀ (L : Nat) (B : Option Addr) (d : Nat) w, L ≤ 200 → L ≠ N → C w → Calls Tryd.prog 11 #[gvl k A n c m, .int .u8 f, .slice B L d] w fun e w' => e = .returned (.tuple #[.slice none 0 0, .int .i64 9]) ∧ Below w.heap.size w w'
  of : ∀ t, 0 ≤ t → t < M f → ∀ (n' : Nat → Nat) (F : Nat → Nat → Int), (∀ i, i < N → ∀ s, 0 ≤ F i s ∧ F i s < M f) → ∀ (b d : Nat) w, C w → ElemsAt w (some ⟨b, 0, none⟩) (vls f t n' F N) →
    Calls Tryd.prog 12 #[.int .i64 f, gvl k A n c m, .slice (some ⟨b, 0, none⟩) N d] w fun e w' => e = .returned (.agg #[.int .u64 (lo (V t n' F % M f)), .int .u64 (hi (V t n' F % M f))]) ∧ Below w.heap.size w w'
/-- Pairs. -/
theorem gpa_pairs {f k m : Int} (ft : Ft f) (hR : ∀ m, m ≤ 10 → RootOf f m (rt f m)) {A : Option Addr} {n c Q : Nat} (hk : (k == 2) = false) (hQ1 : 1 ≤ Q) (hQ : Q ≤ 16) {C : World → Prop} (hup : ∀ w w', Below w.heap.size w w' → C w → C w') (hch : ChkBy f (gvl k A n c m) 0 C)
    (har : ∀ w, Calls Tryd.prog 9 #[gvl k A n c m] w fun e w' => e = .returned (.int .i64 ((Q * 2 : Nat) : Int)) ∧ Below w.heap.size w w')
    (hde : ∀ w, Calls Tryd.prog 14 #[gvl k A n c m] w fun e w' => e = .returned (.int .i64 2) ∧ Below w.heap.size w w') : GPA f k m A n c (Q * 2) 2 C (fun t n' F => sv f t n' F Q) := by
  have hci := fun L hL => cin_ok f k m A n c (Q * 2) L C (by omega) hL hup hch har
  refine ⟨har, hde, fun A' n' c' F mx hmx hF g d w hC hT hP => ?_, fun L B d w hL hne hC => ?_, fun t t0 t1 n' F hF b d w hC hv => ?_⟩
  · have h0 := hci (Q * 2) (by omega)
    rw [if_pos rfl] at h0
    exact gpoly_pairs ft hR k m hk A n c Q (by omega) C hup h0 A' n' c' F mx hmx (fun i hi => ⟨(hF i hi).1, lim_f (f := f) (hF i hi).2⟩) g 0 d w hC hT hP
  · have h9 := hci L hL
    rw [if_neg hne] at h9
    exact poly_bad f k m 9 A n c L C hup (by decide) h9 B d w hC
  · have h := lof_pairs f k m hk A n c (vls f t n' F (Q * 2)) Q (vls_length ..) (by omega) (vls_in f t n' F _).ok _ d w hv
    rw [prs_sv f t n' F Q hF Q (Nat.le_refl _)] at h
    exact h
/-- An Eval. -/
theorem gpa_eval {f m : Int} (ft : Ft f) (hR : ∀ m, m ≤ 10 → RootOf f m (rt f m)) {cs : List Int} {g0 n c : Nat} (hl : cs.length = n + 2) (hn : n ≤ 2) (hnc : n + 2 ≤ c) (hok : InF f cs) {C : World → Prop} (hup : ∀ w w', Below w.heap.size w w' → C w → C w') (hA : ∀ w, C w → ElemsAt w (some ⟨g0, 0, none⟩) cs) (hch : ChkBy f (gvl 2 (some ⟨g0, 0, none⟩) (n + 2) c m) 0 C) :
    GPA f 2 m (some ⟨g0, 0, none⟩) (n + 2) c 1 (n + 1) C (fun t n' F => pS (pf t (rd f (F 0)) (n' 0)) cs) := by
  have hci := fun L hL => cin_ok f 2 m (some ⟨g0, 0, none⟩) (n + 2) c 1 L C (by omega) hL hup hch (fun w => gar_eval _ _ c m w)
  refine ⟨fun w => gar_eval _ _ c m w, fun w => gde_eval _ n c m hn w, fun A' n' c' F mx hmx hF g d w hC hT hP => ?_, fun L B d w hL hne hC => ?_, fun t t0 t1 n' F hF b d w hC hv => ?_⟩
  · have h0 := hci 1 (by omega)
    rw [if_pos rfl] at h0
    obtain ⟨q, hB⟩ := hP 0 (by omega)
    have hn0 := (hF 0 (by omega)).1
    have hb := bd_lin (n' 0) mx hn0 (n + 1)
    refine (poly_evalG f m _ _ c (fun w => C w ∧ Tabs w ∧ ElemsAt w (A' 0) (lst (F 0) (n' 0))) (fun w w' hb h => ⟨hup _ _ hb h.1, h.2.1.up hb, h.2.2.up hb⟩) (fun w h => h0 w h.1) (A' 0) (n' 0) (c' 0) (fun P L => Poly f P L ∧ L ≤ (n + 1) * (mx - 1) + 1 ∧ ∀ t, Eqm (M f) (pf t P L) (pS (pf t (rd f (F 0)) (n' 0)) cs)) (fun w hC => ?_) g 0 d w ⟨hC, hT, hB⟩ q).mono ?_
    · refine (evp_any ft hR cs (n + 2) hl (by omega) (by omega) hok g0 0 c hnc m (F 0) (n' 0) (by omega) (lim_f (f := f) (hF 0 (by omega)).2) (A' 0) (c' 0) w hC.2.1 (hA w hC.1) hC.2.2).mono ?_
      rintro e w' ⟨P, L, h1, h2, h3, h4⟩
      exact ⟨P, L, ⟨h1, Nat.le_trans h2 hb, h3⟩, h4⟩
    · rintro e w' ⟨P, L, ⟨h1, h2, h3⟩, h4⟩
      exact ⟨P, L, h1, h2, h3, h4⟩
  · have h9 := hci L hL
    rw [if_neg hne] at h9
    exact poly_bad f 2 m 9 _ _ c L C hup (by decide) h9 B d w hC
  · have hv1 : vls f t n' F 1 = [pf t (F 0) (n' 0) % M f] := by simp [vls]
    rw [hv1] at hv
    have h := lof_evalE f m _ _ c cs _ hl (by omega) hok (mod_in f (pf t (F 0) (n' 0))).1 (mod_in f _).2 b 0 d w (hA w hC) hv
    have e : pS (pf t (F 0) (n' 0) % M f) cs % M f = pS (pf t (rd f (F 0)) (n' 0)) cs % M f := by
      rw [rd_same (hF 0 (by omega))]
      exact pS_mod _ _ _ (Int.emod_emod _ _) cs
    rw [e] at h
    exact h
end Go.Proofs.YtailpfbdanhpmaaDoor
