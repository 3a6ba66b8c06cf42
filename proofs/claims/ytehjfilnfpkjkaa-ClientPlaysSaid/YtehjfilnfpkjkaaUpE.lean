/-
  A client: a report of any bytes that may be.
-/
import Derived.Test.YtehjfilnfpkjkaaUpD
namespace Go.Proofs.Ytehjfilnfpkjkaa
open Go.RowKit Flow
set_option linter.unusedVariables false
set_option linter.unusedSimpArgs false

/-- A client. -/
structure Cl (q : Nat) (m0 m1 : Mg) (id : List Int) (t : Int) (ps s0 s1 : List Int) (a0 a1 : Bool) (k0 k1 f wt nx sent : Int) (w : World) : Prop where
  at' : w.heap[q]? = some (.cells (up22 m0.val ++ up22 m1.val ++ clTail a0 a1 k0 k1 f wt nx sent).toArray 59 (0, 0))
  ok0 : MgOk (q + 1) w m0 id t ps s0
  ok1 : MgOk (q + 1) w m1 id t ps s1
def RawOk (id : List Int) (t : Int) (ps s0 s1 : List Int) (w : World) (e : Ending) (w' : World) : Prop :=
  ∃ q m0 m1, e = .returned (.tuple #[.pointer (some ⟨q, 0, none⟩), .int .i64 0]) ∧ Below w.heap.size w w' ∧ w.heap.size ≤ q ∧ Cl q m0 m1 id t ps s0 s1 false false 0 0 0 0 0 0 w'
/-- Amid the making of a client. -/
def RawAt (q0 : Nat) (id : List Int) (t : Int) (ps s0 s1 : List Int) (w0 : World) (i : Nat) (w : World) : Prop :=
  Below q0 w0 w ∧ w.heap[q0]? = some (.cells (id.map (Value.int .u8)).toArray 34 (0, 0)) ∧
    ((i = 0 ∧ w.heap[q0 + 1]? = some (.cells (zup ++ zup ++ clTail false false 0 0 0 0 0 0).toArray 59 (0, 0))) ∨
     (i = 1 ∧ ∃ m0, w.heap[q0 + 1]? = some (.cells (up22 (Mg.val m0) ++ zup ++ clTail false false 0 0 0 0 0 0).toArray 59 (0, 0)) ∧ MgOk (q0 + 2) w m0 id t ps s0) ∨
     (i = 2 ∧ ∃ m0 m1, w.heap[q0 + 1]? = some (.cells (up22 (Mg.val m0) ++ up22 (Mg.val m1) ++ clTail false false 0 0 0 0 0 0).toArray 59 (0, 0)) ∧ MgOk (q0 + 2) w m0 id t ps s0 ∧ MgOk (q0 + 2) w m1 id t ps s1))
theorem MgOk.mono {B B' : Nat} {w : World} {m : Mg} {id : List Int} {t : Int} {ps ss : List Int} (h : MgOk B w m id t ps ss) (hB : B' ≤ B) : MgOk B' w m id t ps ss := ⟨owns_mono h.row hB, owns_mono h.P hB, owns_mono h.S hB, h.PS⟩
theorem MgOk.but {B q : Nat} {w w' : World} {m : Mg} {id : List Int} {t : Int} {ps ss : List Int} (h : MgOk B w m id t ps ss) (hb : But q w w') (hq : q < B) : MgOk B w' m id t ps ss := by
  have k : ∀ {ty : TypeId} {size n : Nat} {v : Value} {xs : List Value}, w.ownsRow B ty size v n xs → w'.ownsRow B ty size v n xs := fun {ty size n v xs} h =>
    h.kept (row := some q) ⟨hb.os, hb.tape, hb.output, hb.size, fun b hlt hne => hb.block b hlt (fun e => hne (by rw [e]))⟩ (.inr (fun e => by have := (h.lt q e).1; omega))
  exact ⟨k h.row, k h.P, k h.S, h.PS⟩
theorem news_entU {w : World} {g : Nat} {cs : List Value} {t : TypeId} (h : w.heap[g]? = some (.cells cs.toArray t (0, 0))) (hl : cs.length = 1 * 20 := by rfl) : News w (some ⟨g, 0, none⟩) 1 1 20 cs :=
  ⟨hl, fun h => (by cases h), fun ad ha j u hj => by
    cases ha
    rw [Addr.add_mid]
    exact At0.of_block h j u hj⟩
set_option maxRecDepth 20000 in
set_option maxHeartbeats 16000000 in
theorem raw_ok (id : List Int) (h16 : id.length = 16) (t : Int) (PA SA HA : Option Addr) (pc sc hc : Nat) (ps s0 s1 : List Int) (hp : ps.length ≤ 65536) (hs : s0.length ≤ 65536) (hh : s1.length ≤ 65536) (ht : t ≤ 1099511627776) (w : World)
    (hP : News w PA ps.length pc 1 (ps.map (Value.int .u8))) (hS : News w SA s0.length sc 1 (s0.map (Value.int .u8))) (hH : News w HA s1.length hc 1 (s1.map (Value.int .u8))) :
    Calls Try.prog 8 #[.agg (id.map (Value.int .u8)).toArray, .int .u64 t, .slice PA ps.length pc, .slice SA s0.length sc, .slice HA s1.length hc] w (RawOk id t ps s0 s1 w) := by
  have hu : ∀ n, n ≤ 65536 → ucode t ps.length n = 0 := fun n hn => by unfold ucode; rw [if_neg (by omega), if_neg (by omega)]
  have hc0 := fun g w hr => check_up id h16 t PA SA ps.length pc s0.length sc g 1 w hr
  have hc1 := fun g w hr => check_up id h16 t PA HA ps.length pc s1.length hc g 1 w hr
  rw [hu _ hs] at hc0
  rw [hu _ hh] at hc1
  have hm0 := Lib.hid (fun A w hE hP hS => mclone_ok A PA SA 1 pc sc id h16 t ps s0 hp hs w hE hP hS)
  have hm1 := Lib.hid (fun A w hE hP hS => mclone_ok A PA HA 1 pc hc id h16 t ps s1 hp hh w hE hP hS)
  replace hc0 := Lib.hid hc0
  replace hc1 := Lib.hid hc1
  clear hu hp hs hh ht
  have hix := fun w => idx_zero SA HA s0.length sc s1.length hc w
  have hix1 := fun w => idx_one SA HA s0.length sc s1.length hc w
  obtain ⟨pn, hpn⟩ : ∃ pn, ps.length = pn := ⟨_, rfl⟩
  obtain ⟨sn, hsn⟩ : ∃ sn, s0.length = sn := ⟨_, rfl⟩
  obtain ⟨hn, hhn⟩ : ∃ hn, s1.length = hn := ⟨_, rfl⟩
  rw [hpn] at hc0 hc1 hm0 hm1 hP ⊢
  rw [hsn] at hc0 hm0 hS hix hix1 ⊢
  rw [hhn] at hc1 hm1 hH hix hix1 ⊢
  replace hpn := Lib.hid hpn
  replace hsn := Lib.hid hsn
  replace hhn := Lib.hid hhn
  replace hP := Lib.hid hP
  replace hS := Lib.hid hS
  replace hH := Lib.hid hH
  obtain ⟨a0, a1, a2, a3, a4, a5, a6, a7, a8, a9, a10, a11, a12, a13, a14, a15, rfl⟩ := id_lit h16
  unfold RawOk
  rw [show (Value.agg (List.map (Value.int .u8) [a0, a1, a2, a3, a4, a5, a6, a7, a8, a9, a10, a11, a12, a13, a14, a15]).toArray) = .agg #[.int .u8 a0, .int .u8 a1, .int .u8 a2, .int .u8 a3, .int .u8 a4, .int .u8 a5, .int .u8 a6, .int .u8 a7, .int .u8 a8, .int .u8 a9, .int .u8 a10, .int .u8 a11, .int .u8 a12, .int .u8 a13, .int .u8 a14, .int .u8 a15] from rfl]
  go_enter Try.func8, Try.ntmps8
  go_upto_region 3 with (fail)
  refine name_wp (fun w1 => RawAt w.heap.size [a0, a1, a2, a3, a4, a5, a6, a7, a8, a9, a10, a11, a12, a13, a14, a15] t ps s0 s1 w 0 w1)
    ⟨((Below.refl _ _).alloc (Nat.le_refl _) _).alloc (by simp) _, alloc_keeps (alloc_at rfl), .inl ⟨rfl, (alloc_at (by simp)).trans rfl⟩⟩ ?_
  rintro w1 hR
  obtain ⟨q0, hq0⟩ : ∃ q0, w.heap.size = q0 := ⟨_, rfl⟩
  rw [hq0] at hR ⊢
  replace hq0 := Lib.hid hq0
  go_wp2
  go_loopw [22] (fun i wr => ∃ j : Nat, i = .int .i64 (j : Int) ∧ RawAt q0 [a0, a1, a2, a3, a4, a5, a6, a7, a8, a9, a10, a11, a12, a13, a14, a15] t ps s0 s1 w j wr) (fun i _ => 2 - (intOf i).toNat)
  case atStart => exact ⟨0, rfl, hR⟩
  case round =>
    clear hR
    obtain ⟨j, rfl, hb, k0, hR⟩ := hrel
    rcases hR with ⟨rfl, k1⟩ | ⟨rfl, m0, k1, hk0⟩ | ⟨rfl, m0, m1, k1, hk0, hk1⟩
    · skip
      have hid := At0.of_block (cs := [.int .u8 a0, .int .u8 a1, .int .u8 a2, .int .u8 a3, .int .u8 a4, .int .u8 a5, .int .u8 a6, .int .u8 a7, .int .u8 a8, .int .u8 a9, .int .u8 a10, .int .u8 a11, .int .u8 a12, .int .u8 a13, .int .u8 a14, .int .u8 a15]) k0
      have hone := Lib.hid (@up22_one (some ⟨wr.heap.size, 0, none⟩) 1 1)
      go_upto_region 6 with (first
        | (refine list_load_mid _ _ _ 0 _ _ rfl rfl rfl hid Try.underlying34 rfl (by kernel_rfl) ?_)
        | (refine list_store_whole _ _ _ _ (up22 (.slice (some ⟨wr.heap.size, 0, none⟩) 1 1)) zup 27 rfl rfl rfl rfl (alloc_at (by simp)) rfl (by kernel_rfl) hone.out ?_; intro w5 hbut ks))
      have hvv : Below wr.heap.size wr w5 := hbut.below (((Below.refl wr.heap.size wr).alloc (Nat.le_refl _) _).alloc (by simp) _) (Nat.le_succ _) (by simp; omega)
      have ke : w5.heap[wr.heap.size]? = some (.cells (ent20 [a0, a1, a2, a3, a4, a5, a6, a7, a8, a9, a10, a11, a12, a13, a14, a15] t (.slice PA pn pc) (.slice SA sn sc)).toArray 44 (0, 0)) := (hbut.block _ (by simp; omega) (by omega)).trans ((alloc_keeps (alloc_at rfl)).trans rfl)
      clear hbut hid hone
      have hqg : q0 + 2 ≤ wr.heap.size := by have := lt_of_get k1; omega
      replace hb := below_next hb (by omega) hvv
      replace k0 := keeps hvv k0
      replace k1 := keeps hvv k1
      try replace hk0 := hk0.up hvv
      have hgw : wr.heap.size + 1 < w5.heap.size := lt_of_get ks
      generalize wr.heap.size = ge at *
      clear hvv
      have hme := At0.of_block ks
      have hre := At0.of_block ke
      go_wp2_with (first | (refine list_load_mid _ _ _ 0 _ _ rfl rfl rfl hme Try.underlying27 rfl (by kernel_rfl) ?_))
      refine call_then (hc0.out _ _ hre) ?_
      intro w6 hv
      replace hb := below_next hb (by omega) hv
      replace k0 := keeps hv k0
      replace k1 := keeps hv k1
      replace ks := keeps hv ks
      replace ke := keeps hv ke
      try replace hk0 := hk0.up hv
      have hgw2 := Nat.lt_of_lt_of_le hgw hv.size
      clear hv hme hre hgw
      go_wp2
      refine segS_start (gb := fun _ => True) 7 (by kernel_rfl) (by decide) ?_
      intro v0 hv
      replace hb := below_next hb (by omega) hv
      replace k0 := keeps hv k0
      replace k1 := keeps hv k1
      replace ks := keeps hv ks
      replace ke := keeps hv ke
      try replace hk0 := hk0.up hv
      replace hgw2 := Nat.lt_of_lt_of_le hgw2 hv.size
      clear hv
      refine segS_batch 2 [0, 1, 2, 4, 5] (by kernel_rfl) rfl (by kernel_rfl) (by kernel_rfl) (by kernel_rfl) ?_
      have kme := At0.of_block ks
      apply Exists.intro
      refine ⟨fun ι _ φ hφ => ?_, fun v1 hv => ?_⟩
      · repeat (refine pick_step rfl ?_; first
          | (refine quiet_load_mid _ _ _ 0 _ _ rfl rfl rfl (fun w9 ⟨i, e⟩ j v hj => by subst e; rw [World.cell?_of_block ((hφ.old i).block _ (World.block_lt_of_cell? _ _ (kme j v hj)) trivial)]; exact kme j v hj) Try.underlying27 rfl (by kernel_rfl) ?_; simp only [Act.put, List.setIfInBounds_toArray, List.set_cons_succ, List.set_cons_zero])
          | go_big_quiet_step (fail))
        exact pick_end
      replace hb := below_next hb (by omega) hv
      replace k0 := keeps hv k0
      replace k1 := keeps hv k1
      replace ks := keeps hv ks
      replace ke := keeps hv ke
      try replace hk0 := hk0.up hv
      replace hgw2 := Nat.lt_of_lt_of_le hgw2 hv.size
      clear hv
      refine segS_one 3 _ (by decide) rfl (by kernel_rfl) ?_
      intro v2 K hv hK
      replace hb := below_next hb (by omega) hv
      replace k0 := keeps hv k0
      replace k1 := keeps hv k1
      replace ks := keeps hv ks
      replace ke := keeps hv ke
      try replace hk0 := hk0.up hv
      replace hgw2 := Nat.lt_of_lt_of_le hgw2 hv.size
      clear hv
      replace hK := Lib.hid hK
      go_simp
      refine (hm0.out _ _ (news_entU ke) (hP.out.up (by rw [hq0.out]; exact hb)) (hS.out.up (by rw [hq0.out]; exact hb))).mono ?_
      rintro e v3 ⟨mm, rfl, hv, hmk⟩
      refine hK.out _ _ (HeldS.of_below hv) ?_
      clear hK K
      replace hmk := hmk.mono (show q0 + 2 ≤ v2.heap.size by omega)
      replace hb := below_next hb (by omega) hv
      replace k0 := keeps hv k0
      replace k1 := keeps hv k1
      replace ks := keeps hv ks
      replace ke := keeps hv ke
      try replace hk0 := hk0.up hv
      replace hgw2 := Nat.lt_of_lt_of_le hgw2 hv.size
      clear hv
      refine segS_batch 0 [6] (by kernel_rfl) rfl (by kernel_rfl) (by kernel_rfl) (by kernel_rfl) ?_
      apply Exists.intro
      refine ⟨fun ι _ φ hφ => ?_, fun v1 hv => ?_⟩
      · repeat (refine pick_step rfl ?_; go_big_quiet_step (fail))
        exact pick_end
      replace hmk := hmk.up hv
      replace hb := below_next hb (by omega) hv
      replace k0 := keeps hv k0
      replace k1 := keeps hv k1
      replace ks := keeps hv ks
      replace ke := keeps hv ke
      try replace hk0 := hk0.up hv
      replace hgw2 := Nat.lt_of_lt_of_le hgw2 hv.size
      clear hv
      refine segS_tail (by kernel_rfl) ?_
      intro v4 hv
      replace hmk := hmk.up hv
      replace hb := below_next hb (by omega) hv
      replace k0 := keeps hv k0
      replace k1 := keeps hv k1
      replace ks := keeps hv ks
      replace ke := keeps hv ke
      try replace hk0 := hk0.up hv
      replace hgw2 := Nat.lt_of_lt_of_le hgw2 hv.size
      clear hv
      simp only [List.drop_succ_cons, List.drop_zero]
      obtain ⟨gm, cm, hmv⟩ : ∃ gm cm, mm.val = .slice (some ⟨gm, 0, none⟩) 1 cm := ⟨_, _, rfl⟩
      have hone := Lib.hid (@up22_one (some ⟨gm, 0, none⟩) 1 cm)
      rw [← hmv] at hone
      have hpre : ([] : List Value).length = 0 := rfl
      have k1' : v4.heap[q0 + 1]? = some (.cells ([] ++ zup ++ (zup ++ clTail false false 0 0 0 0 0 0)).toArray 59 (0, 0)) := by first | exact k1 | exact k1.trans (by simp)
      go_wp2_with (first | (refine list_store_atU _ _ _ (q0 + 1) 0 ([]) (up22 mm.val) zup (zup ++ clTail false false 0 0 0 0 0 0) 59 rfl rfl rfl rfl k1' hpre rfl (by kernel_rfl) hone.out ?_; intro w7 hbut kc))
      have hbe := hbut.below hb (Nat.le_succ q0) (by omega)
      have k0' := (hbut.block q0 (lt_of_get k0) (by omega)).trans k0
      replace hmk := hmk.but hbut (Nat.lt_succ_self _)
      try have hk0' := hk0.but hbut (by omega)
      clear hbut hb k0 k1 k1' ks ke
      refine calm_normal ?_
      go_wp2
      exact ⟨⟨1, rfl, hbe, k0', .inr (.inl ⟨rfl, mm, kc, hmk⟩)⟩, by decide⟩
    · skip
      have hid := At0.of_block (cs := [.int .u8 a0, .int .u8 a1, .int .u8 a2, .int .u8 a3, .int .u8 a4, .int .u8 a5, .int .u8 a6, .int .u8 a7, .int .u8 a8, .int .u8 a9, .int .u8 a10, .int .u8 a11, .int .u8 a12, .int .u8 a13, .int .u8 a14, .int .u8 a15]) k0
      have hone := Lib.hid (@up22_one (some ⟨wr.heap.size, 0, none⟩) 1 1)
      go_upto_region 6 with (first
        | (refine list_load_mid _ _ _ 0 _ _ rfl rfl rfl hid Try.underlying34 rfl (by kernel_rfl) ?_)
        | (refine list_store_whole _ _ _ _ (up22 (.slice (some ⟨wr.heap.size, 0, none⟩) 1 1)) zup 27 rfl rfl rfl rfl (alloc_at (by simp)) rfl (by kernel_rfl) hone.out ?_; intro w5 hbut ks))
      have hvv : Below wr.heap.size wr w5 := hbut.below (((Below.refl wr.heap.size wr).alloc (Nat.le_refl _) _).alloc (by simp) _) (Nat.le_succ _) (by simp; omega)
      have ke : w5.heap[wr.heap.size]? = some (.cells (ent20 [a0, a1, a2, a3, a4, a5, a6, a7, a8, a9, a10, a11, a12, a13, a14, a15] t (.slice PA pn pc) (.slice HA hn hc)).toArray 44 (0, 0)) := (hbut.block _ (by simp; omega) (by omega)).trans ((alloc_keeps (alloc_at rfl)).trans rfl)
      clear hbut hid hone
      have hqg : q0 + 2 ≤ wr.heap.size := by have := lt_of_get k1; omega
      replace hb := below_next hb (by omega) hvv
      replace k0 := keeps hvv k0
      replace k1 := keeps hvv k1
      try replace hk0 := hk0.up hvv
      have hgw : wr.heap.size + 1 < w5.heap.size := lt_of_get ks
      generalize wr.heap.size = ge at *
      clear hvv
      have hme := At0.of_block ks
      have hre := At0.of_block ke
      go_wp2_with (first | (refine list_load_mid _ _ _ 0 _ _ rfl rfl rfl hme Try.underlying27 rfl (by kernel_rfl) ?_))
      refine call_then (hc1.out _ _ hre) ?_
      intro w6 hv
      replace hb := below_next hb (by omega) hv
      replace k0 := keeps hv k0
      replace k1 := keeps hv k1
      replace ks := keeps hv ks
      replace ke := keeps hv ke
      try replace hk0 := hk0.up hv
      have hgw2 := Nat.lt_of_lt_of_le hgw hv.size
      clear hv hme hre hgw
      go_wp2
      refine segS_start (gb := fun _ => True) 7 (by kernel_rfl) (by decide) ?_
      intro v0 hv
      replace hb := below_next hb (by omega) hv
      replace k0 := keeps hv k0
      replace k1 := keeps hv k1
      replace ks := keeps hv ks
      replace ke := keeps hv ke
      try replace hk0 := hk0.up hv
      replace hgw2 := Nat.lt_of_lt_of_le hgw2 hv.size
      clear hv
      refine segS_batch 2 [0, 1, 2, 4, 5] (by kernel_rfl) rfl (by kernel_rfl) (by kernel_rfl) (by kernel_rfl) ?_
      have kme := At0.of_block ks
      apply Exists.intro
      refine ⟨fun ι _ φ hφ => ?_, fun v1 hv => ?_⟩
      · repeat (refine pick_step rfl ?_; first
          | (refine quiet_load_mid _ _ _ 0 _ _ rfl rfl rfl (fun w9 ⟨i, e⟩ j v hj => by subst e; rw [World.cell?_of_block ((hφ.old i).block _ (World.block_lt_of_cell? _ _ (kme j v hj)) trivial)]; exact kme j v hj) Try.underlying27 rfl (by kernel_rfl) ?_; simp only [Act.put, List.setIfInBounds_toArray, List.set_cons_succ, List.set_cons_zero])
          | go_big_quiet_step (fail))
        exact pick_end
      replace hb := below_next hb (by omega) hv
      replace k0 := keeps hv k0
      replace k1 := keeps hv k1
      replace ks := keeps hv ks
      replace ke := keeps hv ke
      try replace hk0 := hk0.up hv
      replace hgw2 := Nat.lt_of_lt_of_le hgw2 hv.size
      clear hv
      refine segS_one 3 _ (by decide) rfl (by kernel_rfl) ?_
      intro v2 K hv hK
      replace hb := below_next hb (by omega) hv
      replace k0 := keeps hv k0
      replace k1 := keeps hv k1
      replace ks := keeps hv ks
      replace ke := keeps hv ke
      try replace hk0 := hk0.up hv
      replace hgw2 := Nat.lt_of_lt_of_le hgw2 hv.size
      clear hv
      replace hK := Lib.hid hK
      go_simp
      refine (hm1.out _ _ (news_entU ke) (hP.out.up (by rw [hq0.out]; exact hb)) (hH.out.up (by rw [hq0.out]; exact hb))).mono ?_
      rintro e v3 ⟨mm, rfl, hv, hmk⟩
      refine hK.out _ _ (HeldS.of_below hv) ?_
      clear hK K
      replace hmk := hmk.mono (show q0 + 2 ≤ v2.heap.size by omega)
      replace hb := below_next hb (by omega) hv
      replace k0 := keeps hv k0
      replace k1 := keeps hv k1
      replace ks := keeps hv ks
      replace ke := keeps hv ke
      try replace hk0 := hk0.up hv
      replace hgw2 := Nat.lt_of_lt_of_le hgw2 hv.size
      clear hv
      refine segS_batch 0 [6] (by kernel_rfl) rfl (by kernel_rfl) (by kernel_rfl) (by kernel_rfl) ?_
      apply Exists.intro
      refine ⟨fun ι _ φ hφ => ?_, fun v1 hv => ?_⟩
      · repeat (refine pick_step rfl ?_; go_big_quiet_step (fail))
        exact pick_end
      replace hmk := hmk.up hv
      replace hb := below_next hb (by omega) hv
      replace k0 := keeps hv k0
      replace k1 := keeps hv k1
      replace ks := keeps hv ks
      replace ke := keeps hv ke
      try replace hk0 := hk0.up hv
      replace hgw2 := Nat.lt_of_lt_of_le hgw2 hv.size
      clear hv
      refine segS_tail (by kernel_rfl) ?_
      intro v4 hv
      replace hmk := hmk.up hv
      replace hb := below_next hb (by omega) hv
      replace k0 := keeps hv k0
      replace k1 := keeps hv k1
      replace ks := keeps hv ks
      replace ke := keeps hv ke
      try replace hk0 := hk0.up hv
      replace hgw2 := Nat.lt_of_lt_of_le hgw2 hv.size
      clear hv
      simp only [List.drop_succ_cons, List.drop_zero]
      obtain ⟨gm, cm, hmv⟩ : ∃ gm cm, mm.val = .slice (some ⟨gm, 0, none⟩) 1 cm := ⟨_, _, rfl⟩
      have hone := Lib.hid (@up22_one (some ⟨gm, 0, none⟩) 1 cm)
      rw [← hmv] at hone
      have hpre : (up22 m0.val : List Value).length = 22 := rfl
      have k1' : v4.heap[q0 + 1]? = some (.cells (up22 m0.val ++ zup ++ (clTail false false 0 0 0 0 0 0)).toArray 59 (0, 0)) := by first | exact k1 | exact k1.trans (by simp)
      go_wp2_with (first | (refine list_store_atU _ _ _ (q0 + 1) 22 (up22 m0.val) (up22 mm.val) zup (clTail false false 0 0 0 0 0 0) 59 rfl rfl rfl rfl k1' hpre rfl (by kernel_rfl) hone.out ?_; intro w7 hbut kc))
      have hbe := hbut.below hb (Nat.le_succ q0) (by omega)
      have k0' := (hbut.block q0 (lt_of_get k0) (by omega)).trans k0
      replace hmk := hmk.but hbut (Nat.lt_succ_self _)
      try have hk0' := hk0.but hbut (by omega)
      clear hbut hb k0 k1 k1' ks ke
      refine calm_normal ?_
      go_wp2
      exact ⟨⟨2, rfl, hbe, k0', .inr (.inr ⟨rfl, m0, mm, kc, hk0', hmk⟩)⟩, by decide⟩
    · go_wp2
      refine bodyPost_ret (v := .tuple #[.pointer (some ⟨q0 + 1, 0, none⟩), .int .i64 0]) (by simp [results, Try.results8, go_sem]) rfl ⟨q0 + 1, m0, m1, rfl, by rw [hq0.out]; exact hb, by rw [hq0.out]; exact Nat.le_succ q0, ⟨k1, hk0, hk1⟩⟩
end Go.Proofs.Ytehjfilnfpkjkaa
