/-
  A disk: bytes behind a file's.
-/
import Derived.Test.YtmicnkiadfihgaaDkC
namespace Go.Proofs.Ytmicnkiadfihgaa
open Go.RowKit Flow Go.Maps
set_option linter.unusedVariables false
set_option linter.unusedSimpArgs false

theorem own_neK {w : World} {B n a : Nat} {V : Value} {xs : List Value} {x : Array Value} {t : TypeId} {r : Nat × Nat} (h : w.ownsRow B 5 1 V n xs) (hk : w.heap[a]? = some (.cells x t r)) (ht : t ≠ 5) : V.ownBlock ≠ some a := fun e => by
  rcases h.2 with ⟨e2, _⟩ | ⟨g, cap, cur, e2, _, hg, _⟩
  · rw [e2] at e; cases e
  · rw [e2] at e
    cases e
    exact type_neK hk hg ht rfl
theorem own_mapK {w : World} {B n m k : Nat} {V : Value} {xs : List Value} {D : DataW Value} (h : w.ownsRow B 5 1 V n xs) (hm : w.ownsMap Try.prog 9 RvK m k D) : V.ownBlock ≠ some m := fun e => by
  rcases h.2 with ⟨e2, _⟩ | ⟨g, cap, cur, e2, _, hg, _⟩
  · rw [e2] at e; cases e
  · rw [e2] at e
    cases e
    exact map_neK hg hm rfl
theorem Ds1.put {B d m n f : Nat} {lim : Int} {D : DataW Value} {V V' : Value} {X X' : List Int} {S S' : Nat} {w w9 w10 : World} (h : Ds1 B d m n f lim D V X S w) (hg : w.grownBy w9 V.ownBlock) (hb : But f w9 w10)
    (hk : w10.heap[f]? = some (.cells #[V', .int .i64 (S' : Int)] 56 (0, 0))) (hr : w10.ownsRow B 5 1 V' X'.length (X'.map (Value.int .u8))) : Ds1 B d m n f lim D V' X' S' w10 := by
  have k9 := (hg.block d (lt_of_get h.kd) (fun e => own_neK h.row h.kd (by decide) e.symm)).trans h.kd
  have m9 := map_keepK h.hm (hg.block m (map_ltK h.hm) (fun e => own_mapK h.row h.hm e.symm))
  exact ⟨(hb.block d (lt_of_get k9) (type_neK h.kd h.kf (by decide))).trans k9, map_keepK m9 (hb.block m (map_ltK m9) (fun e => map_neK h.kf h.hm e.symm)), h.has, h.only, h.sz, h.atk, hk, hr, h.lows⟩
def AppOut (B d m : Nat) (lim : Int) (X : List Int) (S : Nat) (w0 : World) (e : Ending) (w' : World) : Prop := ∃ n f D V, e = .returned (.int .i64 0) ∧ Below B w0 w' ∧ Ds1 B d m n f lim D V X S w' ∧ n ≤ 2
set_option maxRecDepth 20000 in
set_option maxHeartbeats 4000000 in
theorem append_1 (B d m n f : Nat) (lim : Int) (D : DataW Value) (V : Value) (X : List Int) (S : Nat) (A : Option Addr) (yn c : Nat) (ys : List Int) (hyl : ys.length = yn) (hX : X.length ≤ 1000) (hY : yn ≤ 1000) (hlim : lim ≤ 100000) (hfit : (X.length : Int) + (yn : Int) ≤ lim) (hn2 : n ≤ 2) (w0 w : World) (hb : Below B w0 w) (hs : B ≤ w.heap.size) (h : Ds1 B d m n f lim D V X S w) (hN : News w A yn c 1 (ys.map (Value.int .u8))) :
    Calls Try.prog 10 #[.pointer (some ⟨d, 0, none⟩), .string nmA, .slice A yn c] w (AppOut B d m lim (X ++ ys) S w0) := by
  have hNm := Lib.hid (fun w => named_a w)
  have hFi := Lib.hid (fun w h => find_1 B d m n f lim D V X S w h)
  have hUs := Lib.hid (fun w h => used_1 B d m n f lim D V X S (by omega) w h)
  have hXl : (X ++ ys).length = X.length + yn := by rw [List.length_append, hyl]
  unfold AppOut
  obtain ⟨xn, hxn⟩ : ∃ xn, X.length = xn := ⟨_, rfl⟩
  rw [hxn] at hUs hX hfit hXl
  have hw : IntKind.i64.wrap (lim - (xn : Int)) = lim - (xn : Int) := by rw [IntKind.wrap_i64]; omega
  have hd : decide ((yn : Int) > lim - (xn : Int)) = false := by simp; omega
  have t1 : X.length + yn ≤ maxLen := by unfold maxLen; omega
  have t2 : (X.length + yn) * 1 ≤ 140737488355328 := by omega
  rw [hxn] at t1 t2
  obtain ⟨s, hsn⟩ : ∃ s, nmA = s := ⟨_, rfl⟩
  rw [hsn] at hNm hFi ⊢
  obtain ⟨q, hq⟩ : ∃ q, lim - (xn : Int) = q := ⟨_, rfl⟩
  rw [hq] at hw hd
  have hw2 : IntKind.i64.wrap (lim - (xn : Int)) = q := by rw [hq]; exact hw
  have hsub : lim - (xn : Int) = q := hq
  replace hsub := Lib.hid hsub
  clear hq hsn
  replace hXl := Lib.hid hXl
  replace hxn := Lib.hid hxn
  replace h := Lib.hid h
  replace hN := Lib.hid hN
  replace hb := Lib.hid hb
  go_enter Try.func10, Try.ntmps10
  go_wp2_with fail
  refine call_then (hNm.out _) ?_
  intro w1 hv
  replace h := Lib.hid (h.out.up hv)
  replace hN := Lib.hid (hN.out.up hv)
  replace hb := Lib.hid (below_next hb.out hs hv)
  replace hs := Nat.le_trans hs hv.size
  clear hv hNm
  go_wp2_with fail
  refine call_then (hFi.out _ h.out) ?_
  intro w2 hv
  replace h := Lib.hid (h.out.up hv)
  replace hN := Lib.hid (hN.out.up hv)
  replace hb := Lib.hid (below_next hb.out hs hv)
  replace hs := Nat.le_trans hs hv.size
  clear hv hFi
  obtain ⟨c0, c1⟩ := disk_cells h.out.kd
  go_upto_region 8 with (fail)
  refine wp_region_flow0 (by kernel_rfl) (by kernel_rfl) ?_
  intro ι _ φ hφ
  have e1 := fun i => hφ.cell c1 i
  repeat (go_big_quiet_step ((go_at_call 15; exact flow_call hφ (hUs.out _ (h.out.up (hφ.old _))))))
  refine wpQuiet_nil ?_
  intro w3 hv
  replace h := Lib.hid (h.out.up hv)
  replace hN := Lib.hid (hN.out.up hv)
  replace hb := Lib.hid (below_next hb.out hs hv)
  replace hs := Nat.le_trans hs hv.size
  clear hv hUs e1 c0 c1 hφ
  replace h := h.out
  replace hb := hb.out
  have hx2 := hxn.out
  clear hxn
  subst hx2
  replace hXl := hXl.out
  obtain ⟨y0, y1, yf0, yf1⟩ := file_cells h.kf
  have hrow := Lib.hid h.row
  have kf := Lib.hid h.kf
  have hVf := row_neK h.row h.kf
  obtain ⟨i0, z0, hinf, hz0, hz1, hz2, hz3⟩ := info_partsU info_u8K
  have hone := Lib.hid (show ∀ u ∈ ys.map (Value.int .u8), u.oneCell' = true from fun u hu => by obtain ⟨x, _, rfl⟩ := List.mem_map.1 hu; rfl)
  replace hinf := Lib.hid hinf
  replace hz0 := Lib.hid hz0
  replace hz1 := Lib.hid hz1
  replace hz2 := Lib.hid hz2
  replace hz3 := Lib.hid hz3
  have lowf := h.lows.2.2
  replace h := Lib.hid h
  replace hb := Lib.hid hb
  have hBs := Lib.hid hs
  obtain ⟨aV, cV, rfl⟩ := owns_slice hrow.out
  go_upto_region 13 with (first
    | (at_builtin; refine wpList_append_news rfl _ _ 22 rfl B 5 i0 z0 1 1 Try.underlying22 hinf.out hz0.out hz1.out hz2.out hz3.out (by decide) _ _ _ rfl hrow.out A yn c (ys.map (Value.int .u8)) rfl hN.out hone.out t1 t2 hBs.out ?_; intro v9 w9 ho9 hg9 hnn9; have kf9 := (hg9.block f (lt_of_get kf.out) (fun e => hVf e.symm)).trans kf.out; obtain ⟨x0, x1, xf0, xf1⟩ := file_cells kf9; obtain ⟨aI, cI, rfl⟩ := owns_slice ho9))
  have hbut : But f w9 (w9.setCell ⟨f, 0, none⟩ (.slice aI (X.length + yn) cI)) := (But.refl f w9).set _
  have hk10 := store1 (b := f) (o := 0) (v := .slice aI (X.length + yn) cI) kf9
  have hr10 := row_butK ho9 hbut (row_neK ho9 kf9)
  have hb10 := ((hb.out.grown hg9 hBs.out (fun j hj => (hrow.out.lt j hj).1)).setCell (p := ⟨f, 0, none⟩) lowf (.slice aI (X.length + yn) cI))
  go_wp2
  go_ret
  refine ⟨_, f, _, _, rfl, hb10, h.out.put hg9 hbut (hk10.trans rfl) (by rw [hXl, List.map_append]; exact hr10), hn2⟩
theorem News.nearK {w w' : World} {A : Option Addr} {yn c k : Nat} {xs : List Value} (h : News w A yn c 1 xs) (hA : ∀ ad, A = some ad → xs ≠ [] → ad.block ≠ k) (hk : ∀ j, j < w.heap.size → j ≠ k → w'.heap[j]? = w.heap[j]?) : News w' A yn c 1 xs :=
  ⟨h.len, h.none, fun ad ha j u hj => by
    have hl := h.lies ad ha j u hj
    exact (World.cell?_of_block (hk _ (World.block_lt_of_cell? _ _ hl) (by rw [addr_add_block]; exact hA ad ha (by intro e; rw [e] at hj; cases hj)))).trans hl⟩
set_option maxRecDepth 20000 in
set_option maxHeartbeats 4000000 in
theorem append_0 (B d m : Nat) (lim : Int) (D : DataW Value) (A : Option Addr) (yn c : Nat) (ys : List Int) (hyl : ys.length = yn) (hY : yn ≤ 1000) (hlim : lim ≤ 100000) (hfit : (yn : Int) ≤ lim) (hB : B ≤ d ∧ B ≤ m) (w0 w : World) (hb : Below B w0 w) (hs : B ≤ w.heap.size) (h : Ds0 d m 0 lim D w) (hN : News w A yn c 1 (ys.map (Value.int .u8))) (hA : ∀ ad, A = some ad → ys ≠ [] → ad.block ≠ m) :
    Calls Try.prog 10 #[.pointer (some ⟨d, 0, none⟩), .string nmA, .slice A yn c] w (AppOut B d m lim ys 0 w0) := by
  have hNm := Lib.hid (fun w => named_a w)
  have hFi := Lib.hid (fun w h => find_0 d m 0 lim D nmA (by decide) w h)
  have hUs := Lib.hid (fun w h => used_0 d m 0 lim D w h)
  have hCr := Lib.hid (fun w hb hs h => create_0 B d m 0 lim D (by decide) hB w0 w hb hs h)
  have hw : IntKind.i64.wrap lim = lim := by rw [IntKind.wrap_i64]; omega
  have hd : decide ((yn : Int) > lim) = false := by simp; omega
  obtain ⟨X, hX0⟩ : ∃ X : List Int, X = [] := ⟨_, rfl⟩
  have hXl : (X ++ ys).length = X.length + yn := by rw [List.length_append, hyl]
  have t1 : X.length + yn ≤ maxLen := by rw [hX0]; unfold maxLen; simp; omega
  have t2 : (X.length + yn) * 1 ≤ 140737488355328 := by rw [hX0]; simp; omega
  have hXa : X ++ ys = ys := by rw [hX0]; rfl
  suffices hgoal : Calls Try.prog 10 #[.pointer (some ⟨d, 0, none⟩), .string nmA, .slice A yn c] w (AppOut B d m lim (X ++ ys) 0 w0) by rw [hXa] at hgoal; exact hgoal
  unfold AppOut
  have hX0' := Lib.hid hX0
  clear hX0
  obtain ⟨s, hsn⟩ : ∃ s, nmA = s := ⟨_, rfl⟩
  rw [hsn] at hNm hFi hCr ⊢
  clear hsn
  replace hXl := Lib.hid hXl
  replace h := Lib.hid h
  replace hN := Lib.hid hN
  replace hb := Lib.hid hb
  replace hA := Lib.hid hA
  go_enter Try.func10, Try.ntmps10
  go_wp2_with fail
  refine call_then (hNm.out _) ?_
  intro w1 hv
  replace h := Lib.hid (h.out.up hv)
  replace hN := Lib.hid (hN.out.up hv)
  replace hb := Lib.hid (below_next hb.out hs hv)
  replace hs := Nat.le_trans hs hv.size
  clear hv hNm
  go_wp2_with fail
  refine call_then (hFi.out _ h.out) ?_
  intro w2 hv
  replace h := Lib.hid (h.out.up hv)
  replace hN := Lib.hid (hN.out.up hv)
  replace hb := Lib.hid (below_next hb.out hs hv)
  replace hs := Nat.le_trans hs hv.size
  clear hv hFi
  obtain ⟨c0, c1⟩ := disk_cells h.out.kd
  have hlen := fun ty => h.out.hm.len (t := 51) Try.underlying51 ty
  rw [h.out.sz] at hlen
  go_upto_region 8 with (fail)
  refine wp_region_flow0 (by kernel_rfl) (by kernel_rfl) ?_
  intro ι _ φ hφ
  have e1 := fun i => hφ.cell c1 i
  repeat (go_big_quiet_step ((go_at_call 15; exact flow_call hφ (hUs.out _ (h.out.up (hφ.old _))))))
  refine wpQuiet_nil ?_
  intro w3 hv
  replace h := Lib.hid (h.out.up hv)
  replace hN := Lib.hid (hN.out.up hv)
  replace hb := Lib.hid (below_next hb.out hs hv)
  replace hs := Nat.le_trans hs hv.size
  clear hv hUs e1 c0 c1 hφ hlen
  go_upto_region 11 with (fail)
  go_wp2_with fail
  refine (hCr.out _ hb.out hs h.out).mono ?_
  clear hCr
  rintro e4 w4 ⟨f, D1, rfl, hb4, h4, hk4, hs4⟩
  replace hN := Lib.hid (News.nearK hN.out (fun ad e hne => hA.out ad e (by intro e2; exact hne (by rw [e2]; rfl))) hk4)
  replace hs := Nat.le_trans hs hs4
  rw [← hX0'.out] at h4
  obtain ⟨V, hV⟩ : ∃ V, Value.slice none 0 0 = V := ⟨_, rfl⟩
  rw [hV] at h4
  clear hV
  clear h hb hk4 hs4 hA
  have h := h4
  have hb := hb4
  clear h4 hb4
  replace hXl := hXl.out
  have hn2 : 0 + 1 ≤ 2 := by decide
  obtain ⟨y0, y1, yf0, yf1⟩ := file_cells h.kf
  have hrow := Lib.hid h.row
  have kf := Lib.hid h.kf
  have hVf := row_neK h.row h.kf
  obtain ⟨i0, z0, hinf, hz0, hz1, hz2, hz3⟩ := info_partsU info_u8K
  have hone := Lib.hid (show ∀ u ∈ ys.map (Value.int .u8), u.oneCell' = true from fun u hu => by obtain ⟨x, _, rfl⟩ := List.mem_map.1 hu; rfl)
  replace hinf := Lib.hid hinf
  replace hz0 := Lib.hid hz0
  replace hz1 := Lib.hid hz1
  replace hz2 := Lib.hid hz2
  replace hz3 := Lib.hid hz3
  have lowf := h.lows.2.2
  replace h := Lib.hid h
  replace hb := Lib.hid hb
  have hBs := Lib.hid hs
  obtain ⟨aV, cV, rfl⟩ := owns_slice hrow.out
  go_upto_region 13 with (first
    | (at_builtin; refine wpList_append_news rfl _ _ 22 rfl B 5 i0 z0 1 1 Try.underlying22 hinf.out hz0.out hz1.out hz2.out hz3.out (by decide) _ _ _ rfl hrow.out A yn c (ys.map (Value.int .u8)) rfl hN.out hone.out t1 t2 hBs.out ?_; intro v9 w9 ho9 hg9 hnn9; have kf9 := (hg9.block f (lt_of_get kf.out) (fun e => hVf e.symm)).trans kf.out; obtain ⟨x0, x1, xf0, xf1⟩ := file_cells kf9; obtain ⟨aI, cI, rfl⟩ := owns_slice ho9))
  have hbut : But f w9 (w9.setCell ⟨f, 0, none⟩ (.slice aI (X.length + yn) cI)) := (But.refl f w9).set _
  have hk10 := store1 (b := f) (o := 0) (v := .slice aI (X.length + yn) cI) kf9
  have hr10 := row_butK ho9 hbut (row_neK ho9 kf9)
  have hb10 := ((hb.out.grown hg9 hBs.out (fun j hj => (hrow.out.lt j hj).1)).setCell (p := ⟨f, 0, none⟩) lowf (.slice aI (X.length + yn) cI))
  go_wp2
  go_ret
  refine ⟨_, f, _, _, rfl, hb10, h.out.put hg9 hbut (hk10.trans rfl) (by rw [hXl, List.map_append]; exact hr10), hn2⟩
end Go.Proofs.Ytmicnkiadfihgaa
