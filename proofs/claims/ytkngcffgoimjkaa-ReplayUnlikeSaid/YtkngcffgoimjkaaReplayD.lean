/-
  An index of reports that is none; a report got, and listed.
-/
import Derived.Test.YtkngcffgoimjkaaReplayC
import Derived.Test.YtkngcffgoimjkaaEqInts
import Derived.Laws.Cover3
namespace Go.Proofs.Ytkngcffgoimjkaa
open Go.RowKit Flow
set_option linter.unusedVariables false

theorem results_cell_tmp {P : Program} {fn : Func} {tmps : Array Value} {w : World} {a j : Nat} {t : TypeId} {b : Nat} {v v2 : Value} (hr : fn.results = #[.cell a t, .tmp j]) (ha : tmps.getD a undef = .pointer (some ⟨b, 0, none⟩))
    (h : (loadVar t ⟨b, 0, none⟩).run P w = .ok v w) (hj : tmps.getD j undef = v2) : (results fn tmps).run P w = .ok (.tuple #[v, v2]) w := by
  rw [Array.getD_eq_getD_getElem?] at ha hj
  simp [results, hr, asAddr, ha, h, hj]
def noId : List Int := [0, 0, 0, 0, 0, 0, 0, 0, 0, 0, 0, 0, 0, 0, 0, 0]
theorem len_nil (x : Int) (w : World) : Calls Try.prog 19 #[.pointer none] w fun e w' => e = .returned (.int .i64 0) ∧ Below w.heap.size w w' := by
  go_enter Try.func19, Try.ntmps19
  go_wp2
  go_ret
  exact ⟨rfl, by first | exact Below.refl _ _ | exact (Below.refl _ _).alloc (Nat.le_refl _) _⟩
theorem room_nil (x : Int) (w : World) : Calls Try.prog 20 #[.pointer none] w fun e w' => e = .returned (.int .i64 0) ∧ Below w.heap.size w w' := by
  go_enter Try.func20, Try.ntmps20
  go_wp2
  go_ret
  exact ⟨rfl, by first | exact Below.refl _ _ | exact (Below.refl _ _).alloc (Nat.le_refl _) _⟩
theorem list_nil (x : Int) (w : World) : Calls Try.prog 18 #[.pointer none] w fun e w' => e = .returned (.slice none 0 0) ∧ Below w.heap.size w w' := by
  go_enter Try.func18, Try.ntmps18
  go_wp2
  go_ret
  exact ⟨rfl, by first | exact Below.refl _ _ | exact (Below.refl _ _).alloc (Nat.le_refl _) _⟩
theorem drop_nil (x : Int) (w : World) : Calls Try.prog 14 #[.pointer none, .int .u64 x] w fun e w' => e = .returned (.int .i64 0) ∧ Below w.heap.size w w' := by
  go_enter Try.func14, Try.ntmps14
  go_wp2
  go_ret
  exact ⟨rfl, by first | exact Below.refl _ _ | exact (Below.refl _ _).alloc (Nat.le_refl _) _⟩
theorem within_nil (x y : Int) (w : World) : Calls Try.prog 22 #[.pointer none, .int .u64 x, .int .u64 y] w fun e w' => e = .returned (.slice none 0 0) ∧ Below w.heap.size w w' := by
  go_enter Try.func22, Try.ntmps22
  go_wp2
  go_ret
  exact ⟨rfl, by first | exact Below.refl _ _ | exact (Below.refl _ _).alloc (Nat.le_refl _) _⟩
theorem set_nil (ys : List Int) (c : Int) (w : World) : Calls Try.prog 12 #[.pointer none, idv ys, .int .i64 c] w fun e w' => e = .returned (.int .i64 1) ∧ Below w.heap.size w w' := by
  unfold idv
  go_enter Try.func12, Try.ntmps12
  go_wp2
  go_ret
  exact ⟨rfl, (Below.refl _ _).alloc (Nat.le_refl _) _⟩
theorem add_nil (xs : List Int) (t c : Int) (w : World) : Calls Try.prog 16 #[.pointer none, seenv xs t c] w fun e w' => e = .returned (.int .i64 1) ∧ Below w.heap.size w w' := by
  unfold seenv
  go_enter Try.func16, Try.ntmps16
  go_wp2
  go_ret
  exact ⟨rfl, (Below.refl _ _).alloc (Nat.le_refl _) _⟩
set_option maxHeartbeats 1000000 in
theorem get_nil (ys : List Int) (w : World) : Calls Try.prog 13 #[.pointer none, idv ys] w fun e w' => e = .returned (.tuple #[seenv noId 0 0, .bool false]) ∧ Below w.heap.size w w' := by
  unfold idv
  go_enter Try.func13, Try.ntmps13
  go_upto_region 1 with (fail)
  refine name_wp (fun w1 => Below w.heap.size w w1 ∧ w1.heap[w.heap.size + 1]? = some (.cells (scells noId 0 0).toArray 32 (0, 0)))
    ⟨((Below.refl _ _).alloc (Nat.le_refl _) _).alloc (by simp) _, alloc_at (by simp)⟩ ?_
  rintro w1 ⟨hb, kz⟩
  have hz : (scells noId 0 0).length = 18 := rfl
  have hz1 := @one_scells noId 0 0
  go_wp2_with (first | (refine list_store_whole _ _ _ _ (scells noId 0 0) (scells noId 0 0) 32 rfl rfl rfl rfl kz rfl (by kernel_rfl) hz1 ?_; intro w2 hbut kz2; replace hb := hbut.below hb (Nat.le_succ _) hb.size))
  have hld := loadVar_whole _ (At0.of_block kz2) Try.underlying32 rfl (by kernel_rfl)
  exact bodyPost_ret (v := .tuple #[seenv noId 0 0, .bool false]) (results_cell_tmp Try.results13 rfl hld rfl) rfl ⟨rfl, hb⟩
set_option maxHeartbeats 2000000 in
theorem get_hit (p g cap : Nat) (lim : Int) (xs : List Int) (t c : Int) (hx : xs.length = 16) (bx : ByteList xs) (w : World) (hp : w.heap[p]? = some (.cells #[.slice (some ⟨g, 0, none⟩) 1 cap, .int .i64 lim] 60 (0, 0))) (hg : At0 w g (scells xs t c)) :
    Calls Try.prog 13 #[.pointer (some ⟨p, 0, none⟩), idv xs] w fun e w' => e = .returned (.tuple #[seenv xs t c, .bool true]) ∧ Below w.heap.size w w' := by
  have hf := Lib.hid (fun w h hg => find_hit p g cap lim xs t c hx bx w h hg)
  clear bx
  have hl := Lib.hid (scells_length hx t c)
  unfold idv at *
  go_enter Try.func13, Try.ntmps13
  go_upto_region 1 with (fail)
  refine name_wp (fun w1 => Below w.heap.size w w1 ∧ w1.heap[p]? = some (.cells #[.slice (some ⟨g, 0, none⟩) 1 cap, .int .i64 lim] 60 (0, 0)) ∧ At0 w1 g (scells xs t c) ∧ At0 w1 w.heap.size (xs.map (Value.int .u8)) ∧ w1.heap[w.heap.size + 1]? = some (.cells (scells noId 0 0).toArray 32 (0, 0)))
    ⟨((Below.refl _ _).alloc (Nat.le_refl _) _).alloc (by simp) _, alloc_keeps (alloc_keeps hp), hg.up (((Below.refl _ _).alloc (Nat.le_refl _) _).alloc (by simp) _), At0.of_block (alloc_keeps (alloc_at rfl)), alloc_at (by simp)⟩ ?_
  clear hp hg
  rintro w1 ⟨hb, hp, hg, kx, kz⟩
  go_wp2_with (first | (refine list_load_mid _ _ _ 0 _ _ rfl rfl rfl kx Try.underlying29 rfl (by rw [List.length_map, hx]; kernel_rfl) ?_))
  refine call_then (hf.out _ hp hg) ?_
  intro w2 hb2
  replace hb := below_next hb hb.size hb2
  replace hp := keeps hb2 hp
  replace hg := hg.up hb2
  replace kz := keeps hb2 kz
  clear hb2
  obtain ⟨c0, c1, _, _⟩ := blk2 hp
  go_wp2_with (first
    | (refine list_load_mid _ _ _ 0 _ _ rfl rfl rfl hg Try.underlying32 rfl (by rw [hl.out]; kernel_rfl) ?_)
    | (refine list_store_whole _ _ _ _ (scells xs t c) (scells noId 0 0) 32 rfl rfl rfl rfl kz (by rw [hl.out]; rfl) (by rw [hl.out]; kernel_rfl) one_scells ?_; intro w3 hbut kz2; replace hb := hbut.below hb (Nat.le_succ _) hb.size))
  have hld := loadVar_whole _ (At0.of_block kz2) Try.underlying32 rfl (by rw [hl.out]; kernel_rfl)
  exact bodyPost_ret (v := .tuple #[seenv xs t c, .bool true]) (results_cell_tmp Try.results13 rfl hld rfl) rfl ⟨rfl, hb⟩
set_option maxHeartbeats 2000000 in
theorem clone_one (g cap : Nat) (xs : List Int) (t c : Int) (hx : xs.length = 16) (w : World) (hg : At0 w g (scells xs t c)) : Calls Try.prog 32 #[.slice (some ⟨g, 0, none⟩) 1 cap] w fun e w' => ∃ g2 cap2, e = .returned (.slice (some ⟨g2, 0, none⟩) 1 cap2) ∧ Below w.heap.size w w' ∧ w.heap.size ≤ g2 ∧ At0 w' g2 (scells xs t c) ∧ w'.frozen? ⟨g2, 16, none⟩ = false := by
  obtain ⟨i0, z0, hinf, hz0, hz1, hz2, hz3⟩ := info_parts' info_seen
  have hl := Lib.hid (scells_length hx t c)
  have hone := Lib.hid (@one_scells xs t c)
  have hown : (w.alloc (.cells #[] 32 (0, 0))).ownsRow w.heap.size 32 18 (.slice (some ⟨w.heap.size, 0, none⟩) 0 0) 0 [] := World.ownsRow_lit w #[] 0 (Nat.le_refl _) (by unfold maxLen; omega) rfl
  have hg' := hg.up ((Below.refl w.heap.size w).alloc (Nat.le_refl _) (.cells #[] 32 (0, 0)))
  have hn : ∀ j u, (scells xs t c)[j]? = some u → (w.alloc (.cells #[] 32 (0, 0))).cell? ((⟨g, 0, none⟩ : Addr).add j) = some u := fun j u hj => by rw [Addr.add_mid]; exact hg' j u hj
  generalize scells xs t c = cs at *
  replace hn := Lib.hid hn
  replace hown := Lib.hid hown
  clear hg hg'
  have heq : ∀ w : World, (binOp .eql 27 (.slice (some ⟨g, 0, none⟩) 1 cap) (.slice none 0 0)).run Try.prog w = .ok (.bool false) w := fun w => by
    simp only [binOp]
    simp [run_equal_slice_nil w 27 32 (some ⟨g, 0, none⟩) 1 cap Try.underlying27]
  go_enter Try.func32, Try.ntmps32
  go_wp2_with (at_builtin; refine wpList_append_own _ rfl _ _ 27 rfl w.heap.size 32 i0 z0 18 32 Try.underlying27 hinf hz0 hz1 hz2 hz3 (by decide) _ _ _ rfl hown.out ⟨_, 0, none⟩ 1 cap cs rfl hl.out hn.out hone.out (by unfold maxLen; omega) (by omega) (by simp) ?_; intro v1 w6 hown6 hg6 hnn; have hb6 := ((Below.refl w.heap.size w).alloc (Nat.le_refl _) (.cells #[] 32 (0, 0))).grown hg6 (by simp) (fun k hk => by cases hk; exact Nat.le_refl _); clear hg6)
  rw [List.nil_append] at hown6
  obtain ⟨g2, cap2, rfl, hg2⟩ : ∃ g2 cap2, v1 = .slice (some ⟨g2, 0, none⟩) 1 cap2 ∧ w.heap.size ≤ g2 := by
    rcases hown6.2 with ⟨_, h0⟩ | ⟨g2, cap2, cur, e, hbg, _⟩
    · exact absurd h0 (by omega)
    · exact ⟨g2, cap2, e, hbg⟩
  have hc := hown6.cells (g := g2) rfl
  go_ret
  exact ⟨g2, cap2, rfl, hb6, hg2, fun j v hj => by have := hc j v hj; rw [Addr.add_mid] at this; exact this, hown6.frozenAt 16⟩
set_option maxHeartbeats 2000000 in
theorem list_one (p g cap : Nat) (lim : Int) (xs : List Int) (t c : Int) (hx : xs.length = 16) (w : World) (hp : w.heap[p]? = some (.cells #[.slice (some ⟨g, 0, none⟩) 1 cap, .int .i64 lim] 60 (0, 0))) (hg : At0 w g (scells xs t c)) :
    Calls Try.prog 18 #[.pointer (some ⟨p, 0, none⟩)] w fun e w' => ∃ g2 cap2, e = .returned (.slice (some ⟨g2, 0, none⟩) 1 cap2) ∧ Below w.heap.size w w' ∧ w.heap.size ≤ g2 ∧ At0 w' g2 (scells xs t c) ∧ w'.frozen? ⟨g2, 16, none⟩ = false := by
  have hc := Lib.hid (clone_one g cap xs t c hx w hg)
  obtain ⟨c0, c1, _, _⟩ := blk2 hp
  go_enter Try.func18, Try.ntmps18
  go_wp2_with fail
  refine hc.out.mono ?_
  rintro e w2 ⟨g2, cap2, rfl, hb, hg2, hat, hfr⟩
  go_wp2
  go_ret
  exact ⟨g2, cap2, rfl, hb, hg2, hat, hfr⟩
theorem seen_fields : (Try.prog.fieldsOf 32).toList.map (fun f => (f.name != "_", f.type, f.offset)) = [(true, 29, 0), (true, 23, 16), (true, 30, 17)] := by kernel_rfl
theorem eqFields_three {P : Program} {d : Nat} {xs ys : Array Value} {fs : List Field} {t0 t1 t2 : TypeId} {o0 o1 o2 : Nat} {w : World} {a0 a1 a2 b0 b1 b2 : Value} {r0 r1 r2 : Bool}
    (hf : fs.map (fun f => (f.name != "_", f.type, f.offset)) = [(true, t0, o0), (true, t1, o1), (true, t2, o2)])
    (p0 : (part t0 xs o0).run P w = .ok a0 w) (q0 : (part t0 ys o0).run P w = .ok b0 w) (e0 : (Op.equalIn d t0 a0 b0).run P w = .ok r0 w)
    (p1 : (part t1 xs o1).run P w = .ok a1 w) (q1 : (part t1 ys o1).run P w = .ok b1 w) (e1 : (Op.equalIn d t1 a1 b1).run P w = .ok r1 w)
    (p2 : (part t2 xs o2).run P w = .ok a2 w) (q2 : (part t2 ys o2).run P w = .ok b2 w) (e2 : (Op.equalIn d t2 a2 b2).run P w = .ok r2 w) :
    (Op.eqFields d xs ys fs).run P w = .ok (r0 && r1 && r2) w := by
  obtain ⟨f0, fs, rfl, h0, hf⟩ := List.map_eq_cons_iff.1 hf
  obtain ⟨f1, fs, rfl, h1, hf⟩ := List.map_eq_cons_iff.1 hf
  obtain ⟨f2, fs, rfl, h2, hf⟩ := List.map_eq_cons_iff.1 hf
  obtain rfl := List.map_eq_nil_iff.1 hf
  simp only [Prod.mk.injEq] at h0 h1 h2
  obtain ⟨n0, rfl, rfl⟩ := h0
  obtain ⟨n1, rfl, rfl⟩ := h1
  obtain ⟨n2, rfl, rfl⟩ := h2
  have m0 : f0.name ≠ "_" := by simpa using n0
  have m1 : f1.name ≠ "_" := by simpa using n1
  have m2 : f2.name ≠ "_" := by simpa using n2
  cases r0 <;> cases r1 <;> cases r2 <;> simp [Op.eqFields, m0, m1, m2, p0, q0, e0, p1, q1, e1, p2, q2, e2]
theorem eql_seen (xs : List Int) (t c : Int) (hx : xs.length = 16) (w : World) : (Op.equalIn 10000 32 (.agg (scells xs t c).toArray) (.agg (scells xs t c).toArray)).run Try.prog w = .ok true w := by
  have h0 : (part 29 (scells xs t c).toArray 0).run Try.prog w = .ok (.agg (xs.map (Value.int .u8)).toArray) w := by
    have e : (scells xs t c).take 16 = xs.map (Value.int .u8) := by
      unfold scells
      rw [List.take_left' (by simp [hx])]
    have hagg : (isAgg 29).run Try.prog w = .ok true w := by unfold isAgg; rw [Sem.run_bind, run_underlying Try.underlying29 w]; rfl
    simp [part, hagg, Try.sizeOf29, e]
  have h1 : (part 23 (scells xs t c).toArray 16).run Try.prog w = .ok (.int .u64 t) w := by
    have e : (scells xs t c).toArray[16]? = some (.int .u64 t) := by simp [scells, hx]
    have hagg : (isAgg 23).run Try.prog w = .ok false w := by unfold isAgg; rw [Sem.run_bind, run_underlying Try.underlying23 w]; rfl
    simp only [part, Sem.run_bind, hagg, Result.andThen_ok]
    simp [scells, hx]
  have h2 : (part 30 (scells xs t c).toArray 17).run Try.prog w = .ok (.int .i64 c) w := by
    have hagg : (isAgg 30).run Try.prog w = .ok false w := by unfold isAgg; rw [Sem.run_bind, run_underlying Try.underlying30 w]; rfl
    simp only [part, Sem.run_bind, hagg, Result.andThen_ok]
    simp [scells, hx]
  rw [show (10000 : Nat) = 9999 + 1 from rfl, run_equalIn_struct w 9999 32 _ _ (by kernel_rfl) (by kernel_rfl)]
  have e0 := run_equalIn_ints (P := Try.prog) Try.underlying29 Try.underlying5 Try.sizeOf5 9997 xs xs hx hx w
  have e1 := run_equalIn_int (P := Try.prog) w 9998 23 .u64 .u64 t t Try.underlying23
  have e2 := run_equalIn_int (P := Try.prog) w 9998 30 .i64 .i64 c c Try.underlying30
  rw [eqFields_three seen_fields h0 h0 e0 h1 h1 e1 h2 h2 e2]
  simp
end Go.Proofs.Ytkngcffgoimjkaa
