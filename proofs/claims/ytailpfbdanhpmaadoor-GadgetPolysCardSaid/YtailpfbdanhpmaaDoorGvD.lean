/-
  The law's gadget of small numbers.
-/
import Derived.Test.YtailpfbdanhpmaaDoorGvC
import Derived.Test.YtailpfbdanhpmaaDoorBE
namespace Go.Proofs.YtailpfbdanhpmaaDoor
open Go.RowKit F Flow
set_option linter.unusedVariables false
attribute [local go_sem] eql_elem

/-- A small gadget as an argument. -/
def svl (kd : Int) (A : Option Addr) (n c : Nat) (mn : Int) : Value := .agg #[.int .u8 kd, .slice A n c, .int .u8 mn]
set_option maxHeartbeats 1000000 in
theorem sg_mul (f kd mn : Int) (A : Option Addr) (n c : Nat) (k0 : 0 ≤ kd) (hk : kd % 3 = 0) (w : World) :
    Calls Tryd.prog 7 #[svl kd A n c mn, .int .i64 f] w fun e w' => e = .returned (gvl 1 none 0 0 0) ∧ Below w.heap.size w w' := by
  unfold svl gvl
  go_enter Tryd.func7, Tryd.ntmps7
  go_wp2
  exact bodyPost_ret (v := .agg #[.int .u8 1, .slice none 0 0, .int .i64 0]) (by simp [results, Tryd.results7, go_sem]) rfl ⟨rfl, ((((Below.refl _ _).alloc (Nat.le_refl _) _).alloc (by simp) _))⟩
set_option maxHeartbeats 1000000 in
theorem sg_par (f kd mn : Int) (A : Option Addr) (n c : Nat) (k0 : 0 ≤ kd) (hk : kd % 3 = 1) (m0 : 0 ≤ mn) (m1 : mn ≤ 255) (w : World) :
    Calls Tryd.prog 7 #[svl kd A n c mn, .int .i64 f] w fun e w' => e = .returned (gvl 3 none 0 0 (1 + mn % 5)) ∧ Below w.heap.size w w' := by
  unfold svl gvl
  have e0 : 0 ≤ mn % 5 ∧ mn % 5 < 5 := by omega
  go_enter Tryd.func7, Tryd.ntmps7
  go_wp2
  exact bodyPost_ret (v := .agg #[.int .u8 3, .slice none 0 0, .int .i64 (1 + mn % 5)]) (by simp [results, Tryd.results7, go_sem]) rfl ⟨rfl, ((((Below.refl _ _).alloc (Nat.le_refl _) _).alloc (by simp) _))⟩
theorem owns_far {w : World} {base n size p o : Nat} {e : TypeId} {v u : Value} {xs : List Value} (h : w.ownsRow base e size v n xs) (hp : p < base) : (w.setCell ⟨p, o, none⟩ u).ownsRow base e size v n xs := by
  refine ⟨h.1, ?_⟩
  rcases h.2 with hn | ⟨g, cap, cur, rfl, hbb, hgg, rest⟩
  · exact .inl hn
  · exact .inr ⟨g, cap, cur, rfl, hbb, store_far hgg (by show g ≠ p; omega), rest⟩
theorem owns_sl {w : World} {base n size : Nat} {e : TypeId} {v : Value} {xs : List Value} (h : w.ownsRow base e size v n xs) : ∃ a c, v = .slice a n c := by
  rcases h.2 with ⟨rfl, hn⟩ | ⟨g, cap, cur, rfl, _⟩
  · exact ⟨none, 0, by rw [hn]⟩
  · exact ⟨_, _, rfl⟩
theorem owns_off {w : World} {base n size p o : Nat} {e : TypeId} {v u : Value} {xs : List Value} (h : w.ownsRow base e size v n xs) (hp : ∀ k, v.ownBlock = some k → k < p) : (w.setCell ⟨p, o, none⟩ u).ownsRow base e size v n xs := by
  refine ⟨h.1, ?_⟩
  rcases h.2 with hn | ⟨g, cap, cur, rfl, hbb, hgg, rest⟩
  · exact .inl hn
  · exact .inr ⟨g, cap, cur, rfl, hbb, store_far hgg (by have := hp g rfl; show g ≠ p; omega), rest⟩
/-- What Gadget answers for a polynomial. -/
def SgOut (f : Int) (N : Nat) (w : World) (e : Ending) (w' : World) : Prop := ∃ g c' cs', e = .returned (gvl 2 (some ⟨g, 0, none⟩) (N + 2) c' 0) ∧ Below w.heap.size w w' ∧ cs'.length = N + 2 ∧ InF f cs' ∧ cs'.getD (N + 1) 0 ≠ 0 ∧ ElemsAt w' (some ⟨g, 0, none⟩) cs' ∧ N + 2 ≤ c' ∧ w.heap.size ≤ g
theorem ElemsAt.far1 {w : World} {g p i : Nat} {xs : List Int} {v : Value} (h : ElemsAt w (some ⟨g, 0, none⟩) xs) (hp : g ≠ p) : ElemsAt (w.setCell ⟨p, i, none⟩ v) (some ⟨g, 0, none⟩) xs := by
  intro k hk
  obtain ⟨b, o, e, h0, h1⟩ := h k hk
  cases e
  exact ⟨g, 0, rfl, (World.cell?_setCell_other _ _ _ _ (fun e => by cases e; exact hp rfl)).trans h0, (World.cell?_setCell_other _ _ _ _ (fun e => by cases e; exact hp rfl)).trans h1⟩
set_option maxHeartbeats 4000000 in
set_option maxRecDepth 20000 in
theorem sg_eval (f kd mn : Int) (A : Option Addr) (cs : List Int) (n c N : Nat) (hn : cs.length = n) (hm : n ≤ maxLen) (hcs : ElemsOK cs) (k0 : 0 ≤ kd) (hk : kd % 3 = 2) (hN : mn % 3 = (N : Int)) (m0 : 0 ≤ mn) (w : World) (hA : ElemsAt w A cs) :
    Calls Tryd.prog 7 #[svl kd A n c mn, .int .i64 f] w (SgOut f N w) := by
  have hN2 : N ≤ 2 := by omega
  unfold maxLen at hm
  obtain ⟨i0, hinf, hz0, hz1, hz2⟩ := info_parts info_elemv
  unfold svl
  replace hn := Lib.hid hn
  replace hinf := Lib.hid hinf
  go_enter Tryd.func7, Tryd.ntmps7
  go_wp2
  replace hN := Lib.hid hN
  replace hk := Lib.hid hk
  refine name_wp (fun w1 => Below w.heap.size w w1 ∧ w1.heap[w.heap.size]? = some (.cells #[.int .u8 kd, .slice A n c, .int .u8 mn] 24 (0, 0)) ∧ w1.heap[w.heap.size + 1]? = some (.cells #[.int .u8 0, .slice none 0 0, .int .i64 0] 34 (0, 0)) ∧ w1.heap[w.heap.size + 1 + 1]? = some (.cells #[.int .u8 2, .slice none 0 0, .int .i64 0] 34 (0, 0)))
    ⟨(((Below.refl _ _).alloc (Nat.le_refl _) _).alloc (by simp) _).alloc (by simp; omega) _, alloc_keeps (alloc_keeps (alloc_at rfl)), alloc_keeps (alloc_at (by simp)), alloc_at (by simp)⟩ ?_
  rintro w1 ⟨hb, ks, kr, kx⟩
  obtain ⟨B0, hB0⟩ : ∃ b, b = w1.heap.size := ⟨_, rfl⟩
  have hpB : w.heap.size + 1 + 1 < B0 := by rw [hB0]; exact lt_of_get kx
  have hBw : w.heap.size ≤ B0 := by omega
  have hown : w1.ownsRow B0 28 2 (.slice none 0 0) 0 (ecells (gcs f cs 0)) := World.ownsRow_nil _ _ _ _
  have hBs : B0 ≤ w1.heap.size := by omega
  clear hB0
  go_loopw [29] (fun i wr => ∃ (k : Nat) (v0 : Value), k ≤ N + 2 ∧ i = .int .i64 (k : Int) ∧ Below w.heap.size w wr ∧ wr.heap[w.heap.size]? = some (.cells #[.int .u8 kd, .slice A n c, .int .u8 mn] 24 (0, 0)) ∧ wr.heap[w.heap.size + 1]? = some (.cells #[.int .u8 0, .slice none 0 0, .int .i64 0] 34 (0, 0)) ∧ wr.heap[w.heap.size + 1 + 1]? = some (.cells #[.int .u8 2, v0, .int .i64 0] 34 (0, 0)) ∧ B0 ≤ wr.heap.size ∧ wr.ownsRow B0 28 2 v0 k (ecells (gcs f cs k))) (fun i _ => N + 2 - (intOf i).toNat)
  case atStart => exact ⟨0, _, Nat.zero_le _, rfl, hb, ks, kr, kx, hBs, hown⟩
  case round =>
    clear hb ks kr kx hBs hown
    obtain ⟨k, v0, hk, rfl, hb, ks, kr, kx, hBs, hown⟩ := hrel
    by_cases hlt : k < N + 2
    · have i0' : (0 : Int) ≤ (k : Int) := by omega
      have i1' : (k : Int) < 2 + (N : Int) := by omega
      have l0 := lt_of_get ks
      have l1 := lt_of_get kx
      by_cases hc : k < n
      · have hlt' : k < cs.length := by rw [hn.out]; exact hc
        obtain ⟨b, o, rfl, c0, c1⟩ := (hA.up hb) k hlt'
        have hxk := hcs.at_ hlt'
        have hzz : Hid (gcs f cs (k + 1) = gcs f cs k ++ [redu f (cs.getD k 0)]) := Lib.hid (gcs_succ f cs k)
        generalize cs.getD k 0 = x at *
        have hof := Lib.hid (of_any f x hxk.1 hxk.2)
        generalize redu f x = z at *
        have i2' : (k : Int) < (n : Int) := by omega
        obtain ⟨s0, s1, s2, t0, t1, t2⟩ := blk3 ks
        obtain ⟨x0, x1, x2, y0, y1, y2⟩ := blk3 kx
        have hb' := hb.alloc hb.size (.cells #[.int .u64 0, .int .u64 0] 28 (0, 0))
        have lb := World.block_lt_of_cell? _ _ c0
        have lb2 := Nat.ne_of_lt lb
        have l2 := Nat.ne_of_lt l0
        have l3 := Nat.ne_of_lt l1
        go_wp2_with fail
        refine name_calls (fun w2 => Below w.heap.size w w2 ∧ w2.heap[w.heap.size]? = some (.cells #[.int .u8 kd, .slice (some ⟨b, o, none⟩) n c, .int .u8 mn] 24 (0, 0)) ∧ w2.heap[w.heap.size + 1]? = some (.cells #[.int .u8 0, .slice none 0 0, .int .i64 0] 34 (0, 0)) ∧ w2.heap[w.heap.size + 1 + 1]? = some (.cells #[.int .u8 2, v0, .int .i64 0] 34 (0, 0)) ∧ B0 ≤ w2.heap.size ∧ w2.ownsRow B0 28 2 v0 k (ecells (gcs f cs k)) ∧ w2.heap[wr.heap.size]? = some (.cells #[.int .u64 0, .int .u64 0] 28 (0, 0))) ⟨hb', alloc_keeps ks, alloc_keeps kr, alloc_keeps kx, by simp; omega, hown.alloc _, alloc_at rfl⟩ ?_
        have hpo : Hid (∀ k, v0.ownBlock = some k → k < wr.heap.size) := Lib.hid (fun k e => (hown.lt k e).2)
        clear hb' s0 s1 s2 t0 t1 t2 x0 x1 x2 y0 y1 y2 hb ks kr kx hown l0 l1 l2 l3 lb lb2 c0 c1 hA
        have hBp : B0 ≤ wr.heap.size := hBs
        clear hBs
        generalize wr.heap.size = p7 at *
        rintro w2 ⟨hb, ks, kr, kx, hBs, hown, k7⟩
        refine call_then (hof.out _) ?_
        intro w5 hb5
        replace hb := below_next hb hb.size hb5
        replace ks := keeps hb5 ks
        replace kr := keeps hb5 kr
        replace kx := keeps hb5 kx
        replace k7 := keeps hb5 k7
        replace hBs := Nat.le_trans hBs hb5.size
        replace hown := ownsn_up hown hb5
        clear hb5
        obtain ⟨h0, h1, h2, h3⟩ := blk2 k7
        obtain ⟨x0, x1, x2, y0, y1, y2⟩ := blk3 kx
        have l1 := lt_of_get kx
        have l7 := lt_of_get k7
        have l2 := Nat.ne_of_lt l1
        have l3 : w.heap.size + 1 + 1 ≠ p7 := by omega
        have l4 := Nat.ne_of_lt l7
        replace hb := below_store2 (u := .int .u64 (lo z)) (v := .int .u64 (hi z)) hb (by omega : w.heap.size ≤ p7)
        replace ks := store2_far (u := .int .u64 (lo z)) (v := .int .u64 (hi z)) ks (by omega : w.heap.size ≠ p7)
        replace kr := store2_far (u := .int .u64 (lo z)) (v := .int .u64 (hi z)) kr (by omega : w.heap.size + 1 ≠ p7)
        replace kx := store2_far (u := .int .u64 (lo z)) (v := .int .u64 (hi z)) kx l3
        replace hown := owns_off (o := 1) (u := .int .u64 (hi z)) (owns_off (o := 0) (u := .int .u64 (lo z)) hown hpo.out) hpo.out
        replace hBs : B0 ≤ ((w5.setCell ⟨p7, 0, none⟩ (.int .u64 (lo z))).setCell ⟨p7, 1, none⟩ (.int .u64 (hi z))).heap.size := by simpa using hBs
        have hb6 := hb.alloc hb.size (.cells #[.int .u64 (lo z), .int .u64 (hi z)] 28 (0, 0))
        have hown2 := hown.alloc (.cells #[.int .u64 (lo z), .int .u64 (hi z)] 28 (0, 0))
        have hBs2 : B0 ≤ (World.alloc ((w5.setCell ⟨p7, 0, none⟩ (.int .u64 (lo z))).setCell ⟨p7, 1, none⟩ (.int .u64 (hi z))) (.cells #[.int .u64 (lo z), .int .u64 (hi z)] 28 (0, 0))).heap.size := Nat.le_trans hBs (by simp)
        have ks2 := alloc_keeps (o := .cells #[.int .u64 (lo z), .int .u64 (hi z)] 28 (0, 0)) ks
        have kr2 := alloc_keeps (o := .cells #[.int .u64 (lo z), .int .u64 (hi z)] 28 (0, 0)) kr
        have kx2 := alloc_keeps (o := .cells #[.int .u64 (lo z), .int .u64 (hi z)] 28 (0, 0)) kx
        have kx3 : ∀ w6 : World, (∀ x, x < B0 → w6.heap[x]? = (World.alloc ((w5.setCell ⟨p7, 0, none⟩ (.int .u64 (lo z))).setCell ⟨p7, 1, none⟩ (.int .u64 (hi z))) (.cells #[.int .u64 (lo z), .int .u64 (hi z)] 28 (0, 0))).heap[x]?) → w6.cell? ⟨w.heap.size + 1 + 1, 1, none⟩ = some v0 ∧ w6.frozen? ⟨w.heap.size + 1 + 1, 1, none⟩ = false ∧ w.heap.size + 1 + 1 < w6.heap.size := fun w6 h => by
          have h1 := (h (w.heap.size + 1 + 1) hpB).trans kx2
          obtain ⟨_, q1, _, _, q4, _⟩ := blk3 h1
          exact ⟨q1, q4, lt_of_get h1⟩
        replace kx3 := Lib.hid kx3
        go_wp2_with (at_builtin; refine wpList_append_own _ rfl _ _ 22 rfl B0 28 i0 (.agg #[.int .u64 0, .int .u64 0]) 2 16 Tryd.underlying22 hinf.out hz0 hz1 hz2 rfl (by decide) _ _ _ rfl hown2 ⟨_, 0, none⟩ 1 1 (ecells [z]) rfl rfl (news_elem2 (by simp)) (by first | (simp [Value.oneCell']; done) | simp [ecells, Value.oneCell']) (by unfold maxLen; omega) (by omega) hBs2 ?_; intro v1 w6 hown6 hg6 _; have hb7 := grownn_below hb6 hBw hown2 hg6; have hk6 := fun (x : Nat) (hx : x < B0) => hg6.block x (by omega) (fun e => by have := (hown2.lt x e.symm).1; omega); have hsz6 := Nat.le_trans hBs2 hg6.size; clear hg6; obtain ⟨q1, q4, q5⟩ := kx3.out w6 hk6; obtain ⟨a9, c9, rfl⟩ := owns_sl hown6)
        have r1 := hb7.setCell (p := ⟨w.heap.size + 1 + 1, 1, none⟩) (by show w.heap.size ≤ w.heap.size + 1 + 1; omega) (.slice a9 (k + 1) c9)
        have r2 := store_far (a := ⟨w.heap.size + 1 + 1, 1, none⟩) (v := .slice a9 (k + 1) c9) ((hk6 w.heap.size (by omega)).trans ks2) (by show w.heap.size ≠ w.heap.size + 1 + 1; omega)
        have r3 := store_far (a := ⟨w.heap.size + 1 + 1, 1, none⟩) (v := .slice a9 (k + 1) c9) ((hk6 (w.heap.size + 1) (by omega)).trans kr2) (by show w.heap.size + 1 ≠ w.heap.size + 1 + 1; omega)
        refine ⟨⟨k + 1, .slice a9 (k + 1) c9, by omega, by go_num, r1, r2, r3, (store1 ((hk6 (w.heap.size + 1 + 1) hpB).trans kx2) (o := 1) (v := .slice a9 (k + 1) c9)).trans rfl, by first | (simp; omega) | exact hsz6, ?_⟩, by simp [intOf]; omega⟩
        rw [hzz.out, ecells_append]
        exact owns_far hown6 hpB
      · have hzz : Hid (gcs f cs (k + 1) = gcs f cs k ++ [0]) := Lib.hid (by
          have e : cs.getD k 0 = 0 := by
            have := hn.out
            rw [List.getD_eq_getElem?_getD, List.getElem?_eq_none (by omega)]; rfl
          rw [gcs_succ, e, redu_zero])
        have i2' : ¬ ((k : Int) < (n : Int)) := by omega
        obtain ⟨s0, s1, s2, t0, t1, t2⟩ := blk3 ks
        obtain ⟨x0, x1, x2, y0, y1, y2⟩ := blk3 kx
        have l2 := Nat.ne_of_lt l0
        have l3 := Nat.ne_of_lt l1
        replace hb := hb.alloc hb.size (.cells #[.int .u64 0, .int .u64 0] 28 (0, 0))
        replace ks := alloc_keeps (o := .cells #[.int .u64 0, .int .u64 0] 28 (0, 0)) ks
        replace kr := alloc_keeps (o := .cells #[.int .u64 0, .int .u64 0] 28 (0, 0)) kr
        replace kx := alloc_keeps (o := .cells #[.int .u64 0, .int .u64 0] 28 (0, 0)) kx
        replace hown := hown.alloc (.cells #[.int .u64 0, .int .u64 0] 28 (0, 0))
        replace hBs : B0 ≤ (wr.alloc (.cells #[.int .u64 0, .int .u64 0] 28 (0, 0))).heap.size := by simp; omega
        clear hA
        have hb6 := hb.alloc hb.size (.cells #[.int .u64 0, .int .u64 0] 28 (0, 0))
        have hown2 := hown.alloc (.cells #[.int .u64 0, .int .u64 0] 28 (0, 0))
        have hBs2 : B0 ≤ (World.alloc (wr.alloc (.cells #[.int .u64 0, .int .u64 0] 28 (0, 0))) (.cells #[.int .u64 0, .int .u64 0] 28 (0, 0))).heap.size := Nat.le_trans hBs (by simp)
        have ks2 := alloc_keeps (o := .cells #[.int .u64 0, .int .u64 0] 28 (0, 0)) ks
        have kr2 := alloc_keeps (o := .cells #[.int .u64 0, .int .u64 0] 28 (0, 0)) kr
        have kx2 := alloc_keeps (o := .cells #[.int .u64 0, .int .u64 0] 28 (0, 0)) kx
        have kx3 : ∀ w6 : World, (∀ x, x < B0 → w6.heap[x]? = (World.alloc (wr.alloc (.cells #[.int .u64 0, .int .u64 0] 28 (0, 0))) (.cells #[.int .u64 0, .int .u64 0] 28 (0, 0))).heap[x]?) → w6.cell? ⟨w.heap.size + 1 + 1, 1, none⟩ = some v0 ∧ w6.frozen? ⟨w.heap.size + 1 + 1, 1, none⟩ = false ∧ w.heap.size + 1 + 1 < w6.heap.size := fun w6 h => by
          have h1 := (h (w.heap.size + 1 + 1) hpB).trans kx2
          obtain ⟨_, q1, _, _, q4, _⟩ := blk3 h1
          exact ⟨q1, q4, lt_of_get h1⟩
        replace kx3 := Lib.hid kx3
        go_wp2_with (at_builtin; refine wpList_append_own _ rfl _ _ 22 rfl B0 28 i0 (.agg #[.int .u64 0, .int .u64 0]) 2 16 Tryd.underlying22 hinf.out hz0 hz1 hz2 rfl (by decide) _ _ _ rfl hown2 ⟨_, 0, none⟩ 1 1 [.int .u64 0, .int .u64 0] rfl rfl (news_elem2 (by simp)) (by first | (simp [Value.oneCell']; done) | simp [ecells, Value.oneCell']) (by unfold maxLen; omega) (by omega) hBs2 ?_; intro v1 w6 hown6 hg6 _; have hb7 := grownn_below hb6 hBw hown2 hg6; have hk6 := fun (x : Nat) (hx : x < B0) => hg6.block x (by omega) (fun e => by have := (hown2.lt x e.symm).1; omega); have hsz6 := Nat.le_trans hBs2 hg6.size; clear hg6; obtain ⟨q1, q4, q5⟩ := kx3.out w6 hk6; obtain ⟨a9, c9, rfl⟩ := owns_sl hown6)
        have r1 := hb7.setCell (p := ⟨w.heap.size + 1 + 1, 1, none⟩) (by show w.heap.size ≤ w.heap.size + 1 + 1; omega) (.slice a9 (k + 1) c9)
        have r2 := store_far (a := ⟨w.heap.size + 1 + 1, 1, none⟩) (v := .slice a9 (k + 1) c9) ((hk6 w.heap.size (by omega)).trans ks2) (by show w.heap.size ≠ w.heap.size + 1 + 1; omega)
        have r3 := store_far (a := ⟨w.heap.size + 1 + 1, 1, none⟩) (v := .slice a9 (k + 1) c9) ((hk6 (w.heap.size + 1) (by omega)).trans kr2) (by show w.heap.size + 1 ≠ w.heap.size + 1 + 1; omega)
        refine ⟨⟨k + 1, .slice a9 (k + 1) c9, by omega, by go_num, r1, r2, r3, (store1 ((hk6 (w.heap.size + 1 + 1) hpB).trans kx2) (o := 1) (v := .slice a9 (k + 1) c9)).trans rfl, by first | (simp; omega) | exact hsz6, ?_⟩, by simp [intOf]; omega⟩
        rw [hzz.out, ecells_append]
        exact owns_far hown6 hpB
    · obtain rfl : k = N + 2 := by omega
      obtain ⟨hl, ⟨h0, _⟩ | ⟨g, c', rfl, hnc, hBg, hE, hfz⟩⟩ := owns_elemsB hown
      · omega
      · have hin := gcs_in f cs (N + 2)
        have hcapN := Lib.hid hnc
        clear hown hA
        obtain ⟨b, o, e, c0, c1⟩ := hE (N + 1) (by omega)
        cases e
        rw [Nat.zero_add] at c0 c1
        have f0 := hfz ((N + 1) * 2)
        have f1 := hfz ((N + 1) * 2 + 1)
        have hy := hin (N + 1) (by omega)
        have lg := World.block_lt_of_cell? _ _ c0
        have hz := zero_iff hy.1
        generalize gcs f cs (N + 2) = ds at *
        have hlast : Hid (∀ z, (ds.set (N + 1) z).getD (N + 1) 0 = z) := Lib.hid (fun z => by simp [hl])
        have e1 : ((N + 2 : Nat) : Int) - 1 = ((N + 1 : Nat) : Int) := by omega
        obtain ⟨s0, s1, s2, t0, t1, t2⟩ := blk3 ks
        obtain ⟨x0, x1, x2, y0, y1, y2⟩ := blk3 kx
        obtain ⟨r0, r1, r2, u0, u1, u2⟩ := blk3 kr
        have hgne : g ≠ w.heap.size + 1 + 1 := by omega
        have hgne2 : g ≠ w.heap.size + 1 := by omega
        by_cases hy0 : ds.getD (N + 1) 0 = 0
        · rw [decide_eq_true hy0] at hz
          generalize ds.getD (N + 1) 0 = y at *
          have hput := Lib.hid (hE.put (k := N + 1) (by omega) 1)
          have k1 : ((wr.setCell ⟨g, (N + 1) * 2, none⟩ (.int .u64 1)).setCell ⟨g, (N + 1) * 2 + 1, none⟩ (.int .u64 0)).heap[w.heap.size + 1 + 1]? = some (.cells #[.int .u8 2, .slice (some ⟨g, 0, none⟩) (N + 2) c', .int .i64 0] 34 (0, 0)) := store_far (store_far kx (by show w.heap.size + 1 + 1 ≠ g; omega)) (by show w.heap.size + 1 + 1 ≠ g; omega)
          have k2 : ((wr.setCell ⟨g, (N + 1) * 2, none⟩ (.int .u64 1)).setCell ⟨g, (N + 1) * 2 + 1, none⟩ (.int .u64 0)).heap[w.heap.size + 1]? = some (.cells #[.int .u8 0, .slice none 0 0, .int .i64 0] 34 (0, 0)) := store_far (store_far kr (by show w.heap.size + 1 ≠ g; omega)) (by show w.heap.size + 1 ≠ g; omega)
          have hb2 := (hb.setCell (p := ⟨g, (N + 1) * 2, none⟩) (by show w.heap.size ≤ g; omega) (.int .u64 1)).setCell (p := ⟨g, (N + 1) * 2 + 1, none⟩) (by show w.heap.size ≤ g; omega) (.int .u64 0)
          replace hin := Lib.hid (gset_in hin (N + 1))
          replace hl := Lib.hid hl
          replace hy0 := Lib.hid hy0
          clear hy
          go_wp2
          have k4 := (store1 (store1 (store1 k2 (o := 0) (v := .int .u8 2)) (o := 1) (v := .slice (some ⟨g, 0, none⟩) (N + 2) c')) (o := 2) (v := .int .i64 0)).trans rfl
          obtain ⟨z0, z1, z2, _⟩ := blk3 (u := .int .u8 2) (v := .slice (some ⟨g, 0, none⟩) (N + 2) c') (x := .int .i64 0) k4
          have hb4 := ((hb2.setCell (p := ⟨w.heap.size + 1, 0, none⟩) (by show w.heap.size ≤ w.heap.size + 1; omega) (.int .u8 2)).setCell (p := ⟨w.heap.size + 1, 1, none⟩) (by show w.heap.size ≤ w.heap.size + 1; omega) (.slice (some ⟨g, 0, none⟩) (N + 2) c')).setCell (p := ⟨w.heap.size + 1, 2, none⟩) (by show w.heap.size ≤ w.heap.size + 1; omega) (.int .i64 0)
          exact bodyPost_ret (v := .agg #[.int .u8 2, .slice (some ⟨g, 0, none⟩) (N + 2) c', .int .i64 0]) (by simp [results, Tryd.results7, go_sem, z0, z1, z2]) rfl ⟨g, c', (ds.set (N + 1) 1), rfl, hb4, (by rw [List.length_set]; exact hl.out), hin.out, (by rw [hlast.out]; decide), ((hput.out.far1 (by omega)).far1 (by omega)).far1 (by omega), hcapN.out, Nat.le_trans hBw hBg⟩
        · rw [decide_eq_false hy0] at hz
          obtain ⟨y, hyy⟩ : ∃ y, y = ds.getD (N + 1) 0 := ⟨_, rfl⟩
          rw [← hyy] at hz c0 c1
          replace hyy := Lib.hid hyy
          replace hy0 := Lib.hid hy0
          replace hin := Lib.hid hin
          replace hl := Lib.hid hl
          clear hy
          go_wp2
          have k4 := (store1 (store1 (store1 kr (o := 0) (v := .int .u8 2)) (o := 1) (v := .slice (some ⟨g, 0, none⟩) (N + 2) c')) (o := 2) (v := .int .i64 0)).trans rfl
          obtain ⟨z0, z1, z2, _⟩ := blk3 (u := .int .u8 2) (v := .slice (some ⟨g, 0, none⟩) (N + 2) c') (x := .int .i64 0) k4
          have hb4 := ((hb.setCell (p := ⟨w.heap.size + 1, 0, none⟩) (by show w.heap.size ≤ w.heap.size + 1; omega) (.int .u8 2)).setCell (p := ⟨w.heap.size + 1, 1, none⟩) (by show w.heap.size ≤ w.heap.size + 1; omega) (.slice (some ⟨g, 0, none⟩) (N + 2) c')).setCell (p := ⟨w.heap.size + 1, 2, none⟩) (by show w.heap.size ≤ w.heap.size + 1; omega) (.int .i64 0)
          exact bodyPost_ret (v := .agg #[.int .u8 2, .slice (some ⟨g, 0, none⟩) (N + 2) c', .int .i64 0]) (by simp [results, Tryd.results7, go_sem, z0, z1, z2]) rfl ⟨g, c', ds, rfl, hb4, hl.out, hin.out, hy0.out, ((hE.far1 (by omega)).far1 (by omega)).far1 (by omega), hcapN.out, Nat.le_trans hBw hBg⟩
end Go.Proofs.YtailpfbdanhpmaaDoor
