/-
  A table's rows: a row more, added.
-/
import Derived.Test.YtnaakklfbegldaaTcE
import Derived.Deep.Cut
import Derived.Deep.DeepCutAuto
import Derived.Deep.CutBlock
namespace Go.Proofs.Ytnaakklfbegldaa
open Go.RowKit Flow
set_option linter.unusedVariables false
set_option linter.unusedSimpArgs false

/-- What a row more leaves. -/
def NewOut (p base : Nat) (l : List TR) (v : Value) (k : Nat) (t m : Int) (ys : List Nat) (w : World) (e : Ending) (w' : World) : Prop :=
  ∃ v' A c, e = .returned (.int .i64 0) ∧ KeptX p v w w' ∧ Tb p base (l.take k ++ ⟨t, m, A, c, ys⟩ :: l.drop k) v' w'
theorem mem_ins {l : List TR} {s x : TR} {k : Nat} (h : x ∈ l.take k ++ s :: l.drop k) : x = s ∨ x ∈ l := by
  rcases List.mem_append.1 h with h1 | h1
  · exact .inr (List.mem_of_mem_take h1)
  · rcases List.mem_cons.1 h1 with rfl | h1
    · exact .inl rfl
    · exact .inr (List.mem_of_mem_drop h1)
theorem FlAt.lt {w : World} {s : TR} (h : FlAt w s) {g : Nat} (hg : s.A = some ⟨g, 0, none⟩) (hx : s.xs ≠ []) : g < w.heap.size := by
  rcases h.lies with h | ⟨g2, e, ha⟩
  · exact absurd h hx
  · rw [hg] at e
    cases e
    cases hxs : s.xs with
    | nil => exact absurd hxs hx
    | cons x xs => exact World.block_lt_of_cell? _ _ (ha 0 (.float .f64 x) (by rw [hxs]; rfl))
theorem FlAt.kept {w w' : World} {s : TR} (h : FlAt w s) (hb : ∀ g, s.A = some ⟨g, 0, none⟩ → s.xs ≠ [] → w'.heap[g]? = w.heap[g]?) : FlAt w' s := by
  refine ⟨h.nil, ?_⟩
  by_cases hx : s.xs = []
  · exact .inl hx
  · rcases h.lies with h | ⟨g, e, ha⟩
    · exact absurd h hx
    · exact .inr ⟨g, e, fun j v hj => by
        rw [World.cell?_of_block (w := w) (a := ⟨g, 0 + j, none⟩) (hb g e hx)]
        exact ha j v hj⟩
theorem own_fl {w : World} {b : Nat} {t m : Int} {A : Option Addr} {n c : Nat} {ys : List Nat} (h : w.ownsRow b 35 1 (.slice A n c) n (ys.map (Value.float .f64))) (hy : ys.length = n) : FlAt w ⟨t, m, A, c, ys⟩ := by
  rcases h.2 with ⟨e, h0⟩ | ⟨g, cap, cur, e, _⟩
  · cases e
    exact ⟨fun _ => ⟨List.eq_nil_of_length_eq_zero (by rw [hy]), rfl⟩, .inl (List.eq_nil_of_length_eq_zero (by rw [hy]))⟩
  · cases e
    refine ⟨fun h => (by cases h), .inr ⟨g, rfl, fun j v hj => ?_⟩⟩
    have := h.cells (g := g) rfl j v hj
    rwa [Addr.add_mid] at this
theorem tins_row (base : Nat) (l : List TR) (a : Option Addr) (L cap : Nat) (hL : L = l.length) (hL1 : L ≤ 32) (k : Nat) (hk : k ≤ L) (t m : Int) (A : Option Addr) (n c h : Nat) (w : World) (hrow : w.ownsRow base 29 3 (.slice a L cap) L (rowT l)) (kh : w.heap[h]? = some (.cells #[.int .u64 t, .int .i64 m, .slice A n c] 29 (0, 0))) (hne : (Value.slice a L cap).ownBlock ≠ some h) (hb : base ≤ w.heap.size) (ys : List Nat) (hy : ys.length = n) :
    Calls Try.prog 27 #[.slice a L cap, .int .i64 k, .slice (some ⟨h, 0, none⟩) 1 1] w (InsOut base (.slice a L cap) (L + 1) (rowT (l.take k ++ ⟨t, m, A, c, ys⟩ :: l.drop k)) w) := by
  have := insert_any base (.slice a L cap) L k hk (by omega) (rowT l) w hrow rowT_one h (rowc t m (.slice A n c)) rfl kh hne rowc_one hb
  rw [show rowc t m (.slice A n c) = TR.cells ⟨t, m, A, c, ys⟩ by unfold TR.cells; rw [hy], rowT_ins] at this
  exact this
set_option maxRecDepth 20000 in
set_option maxHeartbeats 8000000 in
theorem tadd_new (p base : Nat) (l : List TR) (g L cap : Nat) (t m : Int) (B : Option Addr) (n cB : Nat) (ys : List Nat) (hy : ys.length = n) (w : World) (h : Tb p base l (.slice (some ⟨g, 0, none⟩) L cap) w) (hN : News w B n cB 1 (ys.map (Value.float .f64)))
    (hm : (decide (1 ≤ m) && decide (m ≤ 256)) = true) (hn : n ≤ 64) (hL : L < 32) (hl : 0 < l.length) (hz : (tnth l 0).xs.length = n) (k : Nat) (hk : TPlace l t k) (hB : thasB l t k = false) :
    Calls Try.prog 10 #[.pointer (some ⟨p, 0, none⟩), .agg #[.int .u64 t, .int .i64 m, .slice B n cB]] w (NewOut p base l (.slice (some ⟨g, 0, none⟩) L cap) k t m ys w) := by
  obtain ⟨hLl, g', hgg, _⟩ := first_cell h hl
  obtain rfl : g = g' := by cases hgg; rfl
  clear hgg
  have e1 : ¬ (64 : Int) < (n : Int) := by omega
  have e2 : ¬ (32 : Int) ≤ (L : Int) := by omega
  have e3 : (0 : Int) < (L : Int) := by omega
  have e4 : 0 < L := by omega
  have hfc := Lib.hid (fun w (h : Tb p base l (.slice (some ⟨g, 0, none⟩) L cap) w) => (first_cell h hl).2)
  have hf := Lib.hid (fun w h => tfind_any p base l (.slice (some ⟨g, 0, none⟩) L cap) w h t k hk)
  have hcp := Lib.hid (fun w h => copied_news t m B n cB (ys.map (Value.float .f64)) (fun u hu => by obtain ⟨x, _, rfl⟩ := List.mem_map.1 hu; rfl) (by omega) w h)
  have hin := Lib.hid (fun A c hh w hrow kh hne hb => tins_row base l (some ⟨g, 0, none⟩) L cap hLl (by omega) k (by rw [hLl]; exact hk.le) t m A n c hh w hrow kh hne hb ys hy)
  have hri := Lib.hid (fun A c => trising_ins (s := ⟨t, m, A, c, ys⟩) h.up hk hB)
  have hkl := hk.le
  have hW : Hid (some w.heap.size ≠ (Value.slice (some ⟨g, 0, none⟩) L cap).ownBlock) := Lib.hid (fun e => by have := (h.row.lt _ e.symm).2; omega)
  rw [hB] at hf
  rw [hz] at hfc
  replace hLl := Lib.hid hLl
  replace hl := Lib.hid hl
  unfold FlOut at hcp
  unfold InsOut at hin
  unfold NewOut
  obtain ⟨xs, hxs⟩ : ∃ xs, ys.map (Value.float .f64) = xs := ⟨_, rfl⟩
  rw [hxs] at hcp hN
  replace hxs := Lib.hid hxs
  clear hk hB hz
  have hma := Lib.hid (fun w => many_any m w)
  go_enter Try.func10, Try.ntmps10
  go_upto_region 1 with (fail)
  refine name_wp (fun w1 => Below w.heap.size w w1 ∧ Tb p base l (.slice (some ⟨g, 0, none⟩) L cap) w1 ∧ w1.heap[w.heap.size]? = some (.cells #[.int .u64 t, .int .i64 m, .slice B n cB] 29 (0, 0)) ∧ News w1 B n cB 1 xs)
    ⟨(Below.refl _ _).alloc (Nat.le_refl _) _, h.below ((Below.refl _ _).alloc (Nat.le_refl _) _), alloc_at rfl, hN.up ((Below.refl _ _).alloc (Nat.le_refl _) _)⟩ ?_
  clear h hN
  rintro w1 ⟨hb, h, kx, hN⟩
  obtain ⟨x0, x1, x2, _, _, _⟩ := blk3t kx
  obtain ⟨c0, _⟩ := blk1t h.hp
  go_wp2_with fail
  refine call_then (hma.out _) ?_
  intro w2 hv
  clear x0 x1 x2 c0 hma
  replace hb := below_next hb hb.size hv
  replace h := h.below hv
  replace kx := keeps hv kx
  replace hN := hN.up hv
  clear hv
  rw [hm]
  obtain ⟨x0, x1, x2, _, _, _⟩ := blk3t kx
  obtain ⟨c0, _⟩ := blk1t h.hp
  obtain ⟨g', hgg, c2⟩ := hfc.out _ h
  obtain rfl : g = g' := by cases hgg; rfl
  clear hgg
  go_wp2
  refine wp_region_flow0 (by kernel_rfl) (by kernel_rfl) ?_
  intro ι _ φ hφ
  have d0 := fun i => (blk1t (keeps (hφ.old i) h.hp)).1
  have d2 := fun i => ((hφ.old i).cell (World.block_lt_of_cell? _ _ c2)).trans c2
  have y2 := fun i => (blk3t (keeps (hφ.old i) kx)).2.2.1
  repeat (go_big_quiet_step (fail))
  refine wpQuiet_nil ?_
  intro w3 hv
  clear d0 d2 y2 x0 x1 x2 c0 c2
  replace hb := below_next hb hb.size hv
  replace h := h.below hv
  replace kx := keeps hv kx
  replace hN := hN.up hv
  clear hv
  obtain ⟨x0, x1, x2, _, _, _⟩ := blk3t kx
  go_wp2_with fail
  refine call_then (hf.out _ h) ?_
  intro w4 hv
  clear x0 x1 x2
  replace hb := below_next hb hb.size hv
  replace h := h.below hv
  replace kx := keeps hv kx
  replace hN := hN.up hv
  clear hv
  go_wp2
  have hpo : some p ≠ (Value.slice (some ⟨g, 0, none⟩) L cap).ownBlock := fun e => by have := (h.row.lt p e.symm).1; have := h.pb; omega
  refine segS_start (gb := fun b => some b ≠ (Value.slice (some ⟨g, 0, none⟩) L cap).ownBlock) 12 (by kernel_rfl) (by decide) ?_
  intro v0 hv
  replace hb := below_next hb hb.size hv
  replace h := h.below hv
  replace kx := keeps hv kx
  replace hN := hN.up hv
  try replace hown := owns_upn hown hv
  try replace kh := keeps hv kh
  clear hv
  have hwo : some w.heap.size ≠ (Value.slice (some ⟨g, 0, none⟩) L cap).ownBlock := hW.out
  refine segS_batch 5 [0, 1, 2, 3, 4, 5, 6] (by kernel_rfl) rfl (by kernel_rfl) (by kernel_rfl) (by kernel_rfl) ?_
  apply Exists.intro
  refine ⟨fun ι _ φ hφ => ?_, fun v1 hv => ?_⟩
  · have c0 := fun i => (blk1t ((hφ.old i).keeps h.hp hpo)).1
    have k3 : At0 v0 w.heap.size [.int .u64 t, .int .i64 m, .slice B n cB] := At0.of_block kx
    repeat (refine pick_step rfl ?_; first
      | (refine quiet_load_mid _ _ _ 0 _ _ rfl rfl rfl (mid_familyS hφ k3 hwo) Try.underlying29 rfl (by kernel_rfl) ?_; simp only [Act.put, List.setIfInBounds_toArray, List.set_cons_succ, List.set_cons_zero])
      | go_big_quiet_step (fail))
    exact pick_end
  replace hb := below_next hb hb.size hv
  replace h := h.below hv
  replace kx := keeps hv kx
  replace hN := hN.up hv
  try replace hown := owns_upn hown hv
  try replace kh := keeps hv kh
  clear hv
  refine segS_one 7 _ (by decide) rfl (by kernel_rfl) ?_
  intro v2 K hv hK
  replace hb := below_next hb hb.size hv
  replace h := h.below hv
  replace kx := keeps hv kx
  replace hN := hN.up hv
  try replace hown := owns_upn hown hv
  try replace kh := keeps hv kh
  clear hv
  replace hK := Lib.hid hK
  go_simp
  refine (hcp.out _ hN).mono ?_
  rintro e v3 ⟨A2, c2, rfl, hv, hown⟩
  refine hK.out _ _ (HeldS.of_below hv) ?_
  clear hK K
  have hv2 : (Value.slice (some ⟨g, 0, none⟩) L cap).ownBlock ≠ some v2.heap.size ∧ ∀ gg, (Value.slice (some ⟨g, 0, none⟩) L cap).ownBlock = some gg → gg < v2.heap.size := ⟨fun e => by have := (h.row.lt _ e).2; omega, fun gg hg => (h.row.lt gg hg).2⟩
  have hpv2 : p < v2.heap.size := lt_of_get h.hp
  have hbv2 : base ≤ v2.heap.size := h.bs
  replace hb := below_next hb hb.size hv
  replace h := h.below hv
  replace kx := keeps hv kx
  replace hN := hN.up hv
  try replace hown := owns_upn hown hv
  try replace kh := keeps hv kh
  clear hv
  refine segS_one 8 _ (by decide) rfl (by kernel_rfl) ?_
  intro v4 K hv hK
  replace hb := below_next hb hb.size hv
  replace h := h.below hv
  replace kx := keeps hv kx
  replace hN := hN.up hv
  try replace hown := owns_upn hown hv
  try replace kh := keeps hv kh
  clear hv
  replace hK := Lib.hid hK
  go_simp
  have hv := (Below.refl v4.heap.size v4).alloc (Nat.le_refl _) (.cells #[.int .u64 t, .int .i64 m, .slice A2 n c2] 29 (0, 0))
  refine hK.out _ _ (HeldS.of_below hv) ?_
  clear hK K
  have hgh : (Value.slice (some ⟨g, 0, none⟩) L cap).ownBlock ≠ some v4.heap.size := fun e => by have := (h.row.lt _ e).2; omega
  replace hb := below_next hb hb.size hv
  replace h := h.below hv
  replace kx := keeps hv kx
  replace hN := hN.up hv
  try replace hown := owns_upn hown hv
  try replace kh := keeps hv kh
  clear hv
  have kh := alloc_at (w := v4) (k := v4.heap.size) (o := .cells #[.int .u64 t, .int .i64 m, .slice A2 n c2] 29 (0, 0)) rfl
  generalize v4.alloc (.cells #[.int .u64 t, .int .i64 m, .slice A2 n c2] 29 (0, 0)) = v5 at *
  refine segS_one 9 _ (by decide) rfl (by kernel_rfl) ?_
  intro v6 K hv hK
  replace hb := below_next hb hb.size hv
  replace h := h.below hv
  replace kx := keeps hv kx
  replace hN := hN.up hv
  try replace hown := owns_upn hown hv
  try replace kh := keeps hv kh
  clear hv
  replace hK := Lib.hid hK
  go_simp
  refine (hin.out _ _ _ _ (by have := h.row; rw [← hLl.out] at this; exact this) kh hgh h.bs).mono ?_
  rintro e v7 ⟨vn, rfl, hgr, hrow7, hown7⟩
  refine hK.out _ _ ⟨hgr.os, hgr.tape, hgr.output, hgr.size, fun b hb hg => hgr.block b hb hg⟩ ?_
  clear hK K kh kx
  have hp7 : v7.heap[p]? = some (.cells #[.slice (some ⟨g, 0, none⟩) L cap] 25 (0, 0)) := (hgr.block p (lt_of_get h.hp) hpo).trans h.hp
  have hk7 : KeptX p (.slice (some ⟨g, 0, none⟩) L cap) w v7 := ⟨hgr.os.trans hb.os, hgr.tape.trans hb.tape, hgr.output.trans hb.output, Nat.le_trans hb.size hgr.size, fun b h1 _ h3 => (hgr.block b (Nat.lt_of_lt_of_le h1 hb.size) h3).trans (hb.block b h1)⟩
  have hbs7 := Nat.le_trans h.bs hgr.size
  have hpb := h.pb
  have hap : ∀ s, s ∈ l → ∀ g, s.A = some ⟨g, 0, none⟩ → s.xs ≠ [] → vn.ownBlock ≠ some g ∧ g ≠ p := fun s hs g hg hx => by
    obtain ⟨h1, h2⟩ := h.apart s hs g hg hx
    refine ⟨fun e => ?_, h2⟩
    rcases hown7 with h3 | ⟨g3, h3, h4⟩
    · exact h1 (h3.symm.trans e)
    · have := (h.fl s hs).lt hg hx
      rw [h3] at e
      have := Option.some.inj e
      omega
  have hfl7 : ∀ s, s ∈ l → FlAt v7 s := fun s hs => (h.fl s hs).kept (fun g hg hx => hgr.block g ((h.fl s hs).lt hg hx) (fun e => (h.apart s hs g hg hx).1 e.symm))
  have hnb : ∀ g, (Value.slice A2 n c2).ownBlock = some g → vn.ownBlock ≠ some g ∧ g ≠ p := fun g hg => by
    obtain ⟨h1, h2⟩ := hown.lt g hg
    refine ⟨fun e => ?_, by omega⟩
    rcases hown7 with h3 | ⟨g3, h3, h4⟩
    · have := hv2.2 g (h3.symm.trans e)
      omega
    · rw [h3] at e
      have := Option.some.inj e
      omega
  have hown8 := hown.kept hgr (by
    cases hA : (Value.slice A2 n c2).ownBlock with
    | none => exact .inl rfl
    | some g => exact .inr (fun e => by
        have h1 := (hown.lt g hA).1
        have h2 := hv2.2 g e.symm
        omega))
  replace hk7 := Lib.hid hk7
  replace hap := Lib.hid hap
  replace hfl7 := Lib.hid hfl7
  replace hnb := Lib.hid hnb
  clear hgr hb h hown hown7
  refine segS_batch 0 [10, 11] (by kernel_rfl) rfl (by kernel_rfl) (by kernel_rfl) (by kernel_rfl) ?_
  apply Exists.intro
  refine ⟨fun ι _ φ hφ => ?_, fun v8 hv => ?_⟩
  · repeat (refine pick_step rfl ?_; go_big_quiet_step (fail))
    exact pick_end
  replace hp7 := keeps hv hp7
  replace hrow7 := owns_upn hrow7 hv
  replace hown8 := owns_upn hown8 hv
  replace hbs7 := Nat.le_trans hbs7 hv.size
  replace hk7 := Lib.hid (hk7.out.next hv)
  replace hfl7 := Lib.hid (fun s hs => (hfl7.out s hs).up hv)
  clear hv
  refine segS_tail (by kernel_rfl) ?_
  intro v9 hv
  replace hp7 := keeps hv hp7
  replace hrow7 := owns_upn hrow7 hv
  replace hown8 := owns_upn hown8 hv
  replace hbs7 := Nat.le_trans hbs7 hv.size
  replace hk7 := Lib.hid (hk7.out.next hv)
  replace hfl7 := Lib.hid (fun s hs => (hfl7.out s hs).up hv)
  clear hv
  obtain ⟨c0, f0⟩ := blk1t hp7
  simp only [List.drop_succ_cons, List.drop_zero]
  obtain ⟨An, cn, rfl⟩ := owns_slice hrow7
  replace hrow7 := Lib.hid hrow7
  replace hown8 := Lib.hid hown8
  go_wp2
  refine calm_normal ?_
  go_wp2
  go_ret
  have hvp : (Value.slice An (L + 1) cn).ownBlock ≠ some p := fun e => by have := (hrow7.out.lt p e).1; omega
  have hle : (l.take k ++ ⟨t, m, A2, c2, ys⟩ :: l.drop k : List TR).length = L + 1 := by rw [tlen_ins hkl, hLl.out]
  refine ⟨_, A2, c2, rfl, hk7.out.set _, ⟨(store1 hp7 (o := 0) (v := .slice An (L + 1) cn)).trans rfl, ?_, hpb, by simpa [World.setCell] using hbs7, hri.out A2 c2, by rw [hle]; omega, fun s hs => ?_, fun s hs g hg hx => ?_⟩⟩
  · rw [hle]
    exact hrow7.out.kept (w' := v9.setCell ⟨p, 0, none⟩ (.slice An (L + 1) cn)) (row := some p) ⟨rfl, rfl, rfl, by simp [World.setCell], fun b hb hne => Below.heap_setCell _ _ _ _ (fun e => hne (by rw [show b = p from e]))⟩ (.inr (fun e => hvp e))
  · rcases mem_ins hs with rfl | hs
    · have hf9 : FlAt v9 ⟨t, m, A2, c2, ys⟩ := own_fl (by rw [hxs.out]; exact hown8.out) hy
      exact hf9.kept (fun g hg hx => Below.heap_setCell _ _ _ _ (by
        have := (hnb.out g (by rw [show A2 = some ⟨g, 0, none⟩ from hg]; rfl)).2
        exact this))
    · exact (hfl7.out s hs).kept (fun g hg hx => Below.heap_setCell _ _ _ _ (hap.out s hs g hg hx).2)
  · rcases mem_ins hs with rfl | hs
    · exact hnb.out g (by rw [show A2 = some ⟨g, 0, none⟩ from hg]; rfl)
    · exact hap.out s hs g hg hx
set_option maxRecDepth 20000 in
set_option maxHeartbeats 8000000 in
theorem tadd_new0 (p base : Nat) (t m : Int) (B : Option Addr) (n cB : Nat) (ys : List Nat) (hy : ys.length = n) (w : World) (h : Tb p base [] (.slice none 0 0) w) (hN : News w B n cB 1 (ys.map (Value.float .f64)))
    (hm : (decide (1 ≤ m) && decide (m ≤ 256)) = true) (hn : n ≤ 64) :
    Calls Try.prog 10 #[.pointer (some ⟨p, 0, none⟩), .agg #[.int .u64 t, .int .i64 m, .slice B n cB]] w (NewOut p base [] (.slice none 0 0) 0 t m ys w) := by
  have hk : TPlace [] t 0 := ⟨Nat.le_refl _, fun i hi => absurd hi (Nat.not_lt_zero _), fun i _ hi => absurd hi (Nat.not_lt_zero _)⟩
  have hB : thasB [] t 0 = false := rfl
  obtain ⟨l, hl0⟩ : ∃ l : List TR, [] = l := ⟨_, rfl⟩
  obtain ⟨L, hL0⟩ : ∃ L : Nat, 0 = L := ⟨_, rfl⟩
  obtain ⟨cap, hc0⟩ : ∃ cap : Nat, 0 = cap := ⟨_, rfl⟩
  obtain ⟨k, hk0⟩ : ∃ k : Nat, 0 = k := ⟨_, rfl⟩
  have hLl : L = l.length := by rw [← hl0, ← hL0]; rfl
  have e0 : L = 0 := hL0.symm
  rw [show Tb p base [] (.slice none 0 0) w = Tb p base l (.slice none L cap) w by rw [← hl0, ← hL0, ← hc0]] at h
  rw [show NewOut p base [] (.slice none 0 0) 0 t m ys w = NewOut p base l (.slice none L cap) k t m ys w by rw [← hl0, ← hL0, ← hc0, ← hk0]]
  rw [hl0] at hk hB
  rw [hk0] at hk hB
  clear hl0 hL0 hc0 hk0
  have hL : L < 32 := by omega
  have e1 : ¬ (64 : Int) < (n : Int) := by omega
  have e2 : ¬ (32 : Int) ≤ (L : Int) := by omega
  have e3 : ¬ (0 : Int) < (L : Int) := by omega
  have e4 : ¬ 0 < L := by omega
  have hf := Lib.hid (fun w h => tfind_any p base l (.slice none L cap) w h t k hk)
  have hcp := Lib.hid (fun w h => copied_news t m B n cB (ys.map (Value.float .f64)) (fun u hu => by obtain ⟨x, _, rfl⟩ := List.mem_map.1 hu; rfl) (by omega) w h)
  have hin := Lib.hid (fun A c hh w hrow kh hne hb => tins_row base l none L cap hLl (by omega) k (by rw [hLl]; exact hk.le) t m A n c hh w hrow kh hne hb ys hy)
  have hri := Lib.hid (fun A c => trising_ins (s := ⟨t, m, A, c, ys⟩) h.up hk hB)
  have hkl := hk.le
  have hW : Hid (some w.heap.size ≠ (Value.slice none L cap).ownBlock) := Lib.hid (fun e => by have := (h.row.lt _ e.symm).2; omega)
  rw [hB] at hf
  replace hLl := Lib.hid hLl
  replace e0 := Lib.hid e0
  unfold FlOut at hcp
  unfold InsOut at hin
  unfold NewOut
  obtain ⟨xs, hxs⟩ : ∃ xs, ys.map (Value.float .f64) = xs := ⟨_, rfl⟩
  rw [hxs] at hcp hN
  replace hxs := Lib.hid hxs
  clear hk hB
  have hma := Lib.hid (fun w => many_any m w)
  go_enter Try.func10, Try.ntmps10
  go_upto_region 1 with (fail)
  refine name_wp (fun w1 => Below w.heap.size w w1 ∧ Tb p base l (.slice none L cap) w1 ∧ w1.heap[w.heap.size]? = some (.cells #[.int .u64 t, .int .i64 m, .slice B n cB] 29 (0, 0)) ∧ News w1 B n cB 1 xs)
    ⟨(Below.refl _ _).alloc (Nat.le_refl _) _, h.below ((Below.refl _ _).alloc (Nat.le_refl _) _), alloc_at rfl, hN.up ((Below.refl _ _).alloc (Nat.le_refl _) _)⟩ ?_
  clear h hN
  rintro w1 ⟨hb, h, kx, hN⟩
  obtain ⟨x0, x1, x2, _, _, _⟩ := blk3t kx
  obtain ⟨c0, _⟩ := blk1t h.hp
  go_wp2_with fail
  refine call_then (hma.out _) ?_
  intro w2 hv
  clear x0 x1 x2 c0 hma
  replace hb := below_next hb hb.size hv
  replace h := h.below hv
  replace kx := keeps hv kx
  replace hN := hN.up hv
  clear hv
  rw [hm]
  obtain ⟨x0, x1, x2, _, _, _⟩ := blk3t kx
  obtain ⟨c0, _⟩ := blk1t h.hp
  go_wp2
  refine wp_region_flow0 (by kernel_rfl) (by kernel_rfl) ?_
  intro ι _ φ hφ
  have d0 := fun i => (blk1t (keeps (hφ.old i) h.hp)).1
  repeat (go_big_quiet_step (fail))
  refine wpQuiet_nil ?_
  intro w3 hv
  clear d0 x0 x1 x2 c0
  replace hb := below_next hb hb.size hv
  replace h := h.below hv
  replace kx := keeps hv kx
  replace hN := hN.up hv
  clear hv
  obtain ⟨x0, x1, x2, _, _, _⟩ := blk3t kx
  go_wp2_with fail
  refine call_then (hf.out _ h) ?_
  intro w4 hv
  clear x0 x1 x2
  replace hb := below_next hb hb.size hv
  replace h := h.below hv
  replace kx := keeps hv kx
  replace hN := hN.up hv
  clear hv
  go_wp2
  have hpo : some p ≠ (Value.slice none L cap).ownBlock := fun e => by have := (h.row.lt p e.symm).1; have := h.pb; omega
  refine segS_start (gb := fun b => some b ≠ (Value.slice none L cap).ownBlock) 12 (by kernel_rfl) (by decide) ?_
  intro v0 hv
  replace hb := below_next hb hb.size hv
  replace h := h.below hv
  replace kx := keeps hv kx
  replace hN := hN.up hv
  try replace hown := owns_upn hown hv
  try replace kh := keeps hv kh
  clear hv
  have hwo : some w.heap.size ≠ (Value.slice none L cap).ownBlock := hW.out
  refine segS_batch 5 [0, 1, 2, 3, 4, 5, 6] (by kernel_rfl) rfl (by kernel_rfl) (by kernel_rfl) (by kernel_rfl) ?_
  apply Exists.intro
  refine ⟨fun ι _ φ hφ => ?_, fun v1 hv => ?_⟩
  · have c0 := fun i => (blk1t ((hφ.old i).keeps h.hp hpo)).1
    have k3 : At0 v0 w.heap.size [.int .u64 t, .int .i64 m, .slice B n cB] := At0.of_block kx
    repeat (refine pick_step rfl ?_; first
      | (refine quiet_load_mid _ _ _ 0 _ _ rfl rfl rfl (mid_familyS hφ k3 hwo) Try.underlying29 rfl (by kernel_rfl) ?_; simp only [Act.put, List.setIfInBounds_toArray, List.set_cons_succ, List.set_cons_zero])
      | go_big_quiet_step (fail))
    exact pick_end
  replace hb := below_next hb hb.size hv
  replace h := h.below hv
  replace kx := keeps hv kx
  replace hN := hN.up hv
  try replace hown := owns_upn hown hv
  try replace kh := keeps hv kh
  clear hv
  refine segS_one 7 _ (by decide) rfl (by kernel_rfl) ?_
  intro v2 K hv hK
  replace hb := below_next hb hb.size hv
  replace h := h.below hv
  replace kx := keeps hv kx
  replace hN := hN.up hv
  try replace hown := owns_upn hown hv
  try replace kh := keeps hv kh
  clear hv
  replace hK := Lib.hid hK
  go_simp
  refine (hcp.out _ hN).mono ?_
  rintro e v3 ⟨A2, c2, rfl, hv, hown⟩
  refine hK.out _ _ (HeldS.of_below hv) ?_
  clear hK K
  have hv2 : (Value.slice none L cap).ownBlock ≠ some v2.heap.size ∧ ∀ gg, (Value.slice none L cap).ownBlock = some gg → gg < v2.heap.size := ⟨fun e => by have := (h.row.lt _ e).2; omega, fun gg hg => (h.row.lt gg hg).2⟩
  have hpv2 : p < v2.heap.size := lt_of_get h.hp
  have hbv2 : base ≤ v2.heap.size := h.bs
  replace hb := below_next hb hb.size hv
  replace h := h.below hv
  replace kx := keeps hv kx
  replace hN := hN.up hv
  try replace hown := owns_upn hown hv
  try replace kh := keeps hv kh
  clear hv
  refine segS_one 8 _ (by decide) rfl (by kernel_rfl) ?_
  intro v4 K hv hK
  replace hb := below_next hb hb.size hv
  replace h := h.below hv
  replace kx := keeps hv kx
  replace hN := hN.up hv
  try replace hown := owns_upn hown hv
  try replace kh := keeps hv kh
  clear hv
  replace hK := Lib.hid hK
  go_simp
  have hv := (Below.refl v4.heap.size v4).alloc (Nat.le_refl _) (.cells #[.int .u64 t, .int .i64 m, .slice A2 n c2] 29 (0, 0))
  refine hK.out _ _ (HeldS.of_below hv) ?_
  clear hK K
  have hgh : (Value.slice none L cap).ownBlock ≠ some v4.heap.size := fun e => by have := (h.row.lt _ e).2; omega
  replace hb := below_next hb hb.size hv
  replace h := h.below hv
  replace kx := keeps hv kx
  replace hN := hN.up hv
  try replace hown := owns_upn hown hv
  try replace kh := keeps hv kh
  clear hv
  have kh := alloc_at (w := v4) (k := v4.heap.size) (o := .cells #[.int .u64 t, .int .i64 m, .slice A2 n c2] 29 (0, 0)) rfl
  generalize v4.alloc (.cells #[.int .u64 t, .int .i64 m, .slice A2 n c2] 29 (0, 0)) = v5 at *
  refine segS_one 9 _ (by decide) rfl (by kernel_rfl) ?_
  intro v6 K hv hK
  replace hb := below_next hb hb.size hv
  replace h := h.below hv
  replace kx := keeps hv kx
  replace hN := hN.up hv
  try replace hown := owns_upn hown hv
  try replace kh := keeps hv kh
  clear hv
  replace hK := Lib.hid hK
  go_simp
  refine (hin.out _ _ _ _ (by have := h.row; rw [← hLl.out] at this; exact this) kh hgh h.bs).mono ?_
  rintro e v7 ⟨vn, rfl, hgr, hrow7, hown7⟩
  refine hK.out _ _ ⟨hgr.os, hgr.tape, hgr.output, hgr.size, fun b hb hg => hgr.block b hb hg⟩ ?_
  clear hK K kh kx
  have hp7 : v7.heap[p]? = some (.cells #[.slice none L cap] 25 (0, 0)) := (hgr.block p (lt_of_get h.hp) hpo).trans h.hp
  have hk7 : KeptX p (.slice none L cap) w v7 := ⟨hgr.os.trans hb.os, hgr.tape.trans hb.tape, hgr.output.trans hb.output, Nat.le_trans hb.size hgr.size, fun b h1 _ h3 => (hgr.block b (Nat.lt_of_lt_of_le h1 hb.size) h3).trans (hb.block b h1)⟩
  have hbs7 := Nat.le_trans h.bs hgr.size
  have hpb := h.pb
  have hap : ∀ s, s ∈ l → ∀ g, s.A = some ⟨g, 0, none⟩ → s.xs ≠ [] → vn.ownBlock ≠ some g ∧ g ≠ p := fun s hs g hg hx => by
    obtain ⟨h1, h2⟩ := h.apart s hs g hg hx
    refine ⟨fun e => ?_, h2⟩
    rcases hown7 with h3 | ⟨g3, h3, h4⟩
    · exact h1 (h3.symm.trans e)
    · have := (h.fl s hs).lt hg hx
      rw [h3] at e
      have := Option.some.inj e
      omega
  have hfl7 : ∀ s, s ∈ l → FlAt v7 s := fun s hs => (h.fl s hs).kept (fun g hg hx => hgr.block g ((h.fl s hs).lt hg hx) (fun e => (h.apart s hs g hg hx).1 e.symm))
  have hnb : ∀ g, (Value.slice A2 n c2).ownBlock = some g → vn.ownBlock ≠ some g ∧ g ≠ p := fun g hg => by
    obtain ⟨h1, h2⟩ := hown.lt g hg
    refine ⟨fun e => ?_, by omega⟩
    rcases hown7 with h3 | ⟨g3, h3, h4⟩
    · have := hv2.2 g (h3.symm.trans e)
      omega
    · rw [h3] at e
      have := Option.some.inj e
      omega
  have hown8 := hown.kept hgr (by
    cases hA : (Value.slice A2 n c2).ownBlock with
    | none => exact .inl rfl
    | some g => exact .inr (fun e => by
        have h1 := (hown.lt g hA).1
        have h2 := hv2.2 g e.symm
        omega))
  replace hk7 := Lib.hid hk7
  replace hap := Lib.hid hap
  replace hfl7 := Lib.hid hfl7
  replace hnb := Lib.hid hnb
  clear hgr hb h hown hown7
  refine segS_batch 0 [10, 11] (by kernel_rfl) rfl (by kernel_rfl) (by kernel_rfl) (by kernel_rfl) ?_
  apply Exists.intro
  refine ⟨fun ι _ φ hφ => ?_, fun v8 hv => ?_⟩
  · repeat (refine pick_step rfl ?_; go_big_quiet_step (fail))
    exact pick_end
  replace hp7 := keeps hv hp7
  replace hrow7 := owns_upn hrow7 hv
  replace hown8 := owns_upn hown8 hv
  replace hbs7 := Nat.le_trans hbs7 hv.size
  replace hk7 := Lib.hid (hk7.out.next hv)
  replace hfl7 := Lib.hid (fun s hs => (hfl7.out s hs).up hv)
  clear hv
  refine segS_tail (by kernel_rfl) ?_
  intro v9 hv
  replace hp7 := keeps hv hp7
  replace hrow7 := owns_upn hrow7 hv
  replace hown8 := owns_upn hown8 hv
  replace hbs7 := Nat.le_trans hbs7 hv.size
  replace hk7 := Lib.hid (hk7.out.next hv)
  replace hfl7 := Lib.hid (fun s hs => (hfl7.out s hs).up hv)
  clear hv
  obtain ⟨c0, f0⟩ := blk1t hp7
  simp only [List.drop_succ_cons, List.drop_zero]
  obtain ⟨An, cn, rfl⟩ := owns_slice hrow7
  replace hrow7 := Lib.hid hrow7
  replace hown8 := Lib.hid hown8
  go_wp2
  refine calm_normal ?_
  go_wp2
  go_ret
  have hvp : (Value.slice An (L + 1) cn).ownBlock ≠ some p := fun e => by have := (hrow7.out.lt p e).1; omega
  have hle : (l.take k ++ ⟨t, m, A2, c2, ys⟩ :: l.drop k : List TR).length = L + 1 := by rw [tlen_ins hkl, hLl.out]
  refine ⟨_, A2, c2, rfl, hk7.out.set _, ⟨(store1 hp7 (o := 0) (v := .slice An (L + 1) cn)).trans rfl, ?_, hpb, by simpa [World.setCell] using hbs7, hri.out A2 c2, by rw [hle]; omega, fun s hs => ?_, fun s hs g hg hx => ?_⟩⟩
  · rw [hle]
    exact hrow7.out.kept (w' := v9.setCell ⟨p, 0, none⟩ (.slice An (L + 1) cn)) (row := some p) ⟨rfl, rfl, rfl, by simp [World.setCell], fun b hb hne => Below.heap_setCell _ _ _ _ (fun e => hne (by rw [show b = p from e]))⟩ (.inr (fun e => hvp e))
  · rcases mem_ins hs with rfl | hs
    · have hf9 : FlAt v9 ⟨t, m, A2, c2, ys⟩ := own_fl (by rw [hxs.out]; exact hown8.out) hy
      exact hf9.kept (fun g hg hx => Below.heap_setCell _ _ _ _ (by
        have := (hnb.out g (by rw [show A2 = some ⟨g, 0, none⟩ from hg]; rfl)).2
        exact this))
    · exact (hfl7.out s hs).kept (fun g hg hx => Below.heap_setCell _ _ _ _ (hap.out s hs g hg hx).2)
  · rcases mem_ins hs with rfl | hs
    · exact hnb.out g (by rw [show A2 = some ⟨g, 0, none⟩ from hg]; rfl)
    · exact hap.out s hs g hg hx
end Go.Proofs.Ytnaakklfbegldaa
