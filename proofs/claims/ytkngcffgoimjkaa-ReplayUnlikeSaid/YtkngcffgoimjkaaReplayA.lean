/-
  An index of reports: a first one put, and looked for.
-/
import Derived.Test.YtkngcffgoimjkaaIds
import Derived.Test.YtkngcffgoimjkaaSeg
import Derived.Test.YtkngcffgoimjkaaMid
import Derived.Laws.AppendOwn
import Derived.Deep.DeepCutAuto
import Derived.Deep.CutBlock
import Derived.OwnWalk
import Derived.Laws.MakeOwn
namespace Go.Proofs.Ytkngcffgoimjkaa
open Go.RowKit Flow
set_option linter.unusedVariables false

/-- A report that there was, as cells. -/
def scells (xs : List Int) (t c : Int) : List Value := xs.map (Value.int .u8) ++ [.int .u64 t, .int .i64 c]
def seenv (xs : List Int) (t c : Int) : Value := .agg (scells xs t c).toArray
theorem scells_length {xs : List Int} (h : xs.length = 16) (t c : Int) : (scells xs t c).length = 18 := by simp [scells, h]
theorem Flow.At0.id {w : World} {g : Nat} {xs : List Int} {t c : Int} (h : At0 w g (scells xs t c)) : w.rangeAt g 0 (xs.map (Value.int .u8)) := fun j v hj => h j v (by
  unfold scells
  rw [List.getElem?_append_left (List.getElem?_eq_some_iff.1 hj).1]
  exact hj)
theorem Flow.At0.time {w : World} {g : Nat} {xs : List Int} {t c : Int} (hx : xs.length = 16) (h : At0 w g (scells xs t c)) : w.cell? ⟨g, 16, none⟩ = some (.int .u64 t) := by
  have := h 16 (.int .u64 t) (by simp [scells, hx])
  simpa using this
theorem load_id {w : World} {b : Nat} {xs : List Int} (hx : xs.length = 16) (h : w.rangeAt b 0 (xs.map (Value.int .u8))) : (Instr.loadAt 29 (.pointer (some ⟨b, 0, none⟩))).run Try.prog w = .ok (idv xs) w :=
  run_loadAt_mid w b 0 29 (xs.map (Value.int .u8)) _ h Try.underlying29 rfl (by rw [List.length_map, hx]; kernel_rfl)
theorem load_seen {w : World} {b : Nat} {xs : List Int} {t c : Int} (hx : xs.length = 16) (h : At0 w b (scells xs t c)) : (Instr.loadAt 32 (.pointer (some ⟨b, 0, none⟩))).run Try.prog w = .ok (seenv xs t c) w :=
  run_loadAt_mid w b 0 32 (scells xs t c) _ h Try.underlying32 rfl (by rw [scells_length hx]; kernel_rfl)
set_option maxHeartbeats 1000000 in
theorem findc_any (xs ys : List Int) (t c : Int) (hx : xs.length = 16) (hy : ys.length = 16) (bx : ByteList xs) (by_ : ByteList ys) (w : World) : Calls Try.prog 38 #[seenv xs t c, idv ys] w fun e w' => e = .returned (.int .i64 (idCmp xs ys)) ∧ Below w.heap.size w w' := by
  have hcmp := Lib.hid (compare_any xs ys hx hy bx by_)
  clear bx by_
  unfold seenv
  unfold idv at *
  go_enter Try.func38, Try.ntmps38
  go_upto_region 1 with (fail)
  refine name_wp (fun w1 => Below w.heap.size w w1 ∧ At0 w1 w.heap.size (scells xs t c) ∧ w1.heap[w.heap.size + 1]? = some (.cells (ys.map (Value.int .u8)).toArray 29 (0, 0)))
    ⟨((Below.refl _ _).alloc (Nat.le_refl _) _).alloc (by simp) _, At0.of_block (alloc_keeps (alloc_at rfl)), alloc_at (by simp)⟩ ?_
  rintro w1 ⟨hb, kx, ky⟩
  go_wp2_with (first | (refine wpList_load_mid rfl _ _ rfl _ 0 rfl _ _ kx.id Try.underlying29 rfl (by rw [List.length_map, hx]; kernel_rfl) ?_) | (refine wpList_load_mid rfl _ _ rfl _ 0 rfl _ _ (At0.of_block ky) Try.underlying29 rfl (by rw [List.length_map, hy]; kernel_rfl) ?_))
  refine call_then (hcmp.out _) ?_
  intro w2 hb2
  replace hb := below_next hb hb.size hb2
  clear hb2 kx ky
  go_wp2
  go_ret
  exact ⟨rfl, hb⟩
theorem new_any (lim : Int) (h0 : 0 ≤ lim) (h1 : lim ≤ 256) (w : World) : Calls Try.prog 9 #[.int .i64 lim] w fun e w' => ∃ p, e = .returned (.pointer (some ⟨p, 0, none⟩)) ∧ Below w.heap.size w w' ∧ w.heap.size ≤ p ∧ w'.heap[p]? = some (.cells #[.slice none 0 0, .int .i64 lim] 60 (0, 0)) := by
  go_enter Try.func9, Try.ntmps9
  go_wp2
  · go_ret
    exact ⟨_, rfl, (Below.refl _ _).alloc (Nat.le_refl _) _, Nat.le_refl _, alloc_at rfl⟩
  · obtain rfl : lim = 0 := by omega
    go_ret
    exact ⟨_, rfl, (Below.refl _ _).alloc (Nat.le_refl _) _, Nat.le_refl _, alloc_at rfl⟩
set_option maxHeartbeats 1000000 in
theorem search_nil (ys : List Int) (hy : ys.length = 16) (w : World) : Calls Try.prog 37 #[.slice none 0 0, idv ys, .func (.func 38) #[] #[]] w fun e w' => e = .returned (.tuple #[.int .i64 0, .bool false]) ∧ Below w.heap.size w w' := by
  unfold idv
  go_enter Try.func37, Try.ntmps37
  go_upto_region 1 with (fail)
  refine name_wp (fun w1 => Below w.heap.size w w1) ((Below.refl _ _).alloc (Nat.le_refl _) _) ?_
  rintro w1 hb
  go_wp2
  refine wp_loop_rounds 1 ?_
  rw [rounds_succ]
  go_wp2
  refine wp_region_flow0 (by kernel_rfl) (by kernel_rfl) ?_
  intro ι _ φ hφ
  repeat (go_big_quiet_step (fail))
  refine wpQuiet_nil ?_
  intro w2 hw2
  replace hb := below_next hb hb.size hw2
  clear hw2
  go_wp2
  refine bodyPost_ret (v := .tuple #[.int .i64 0, .bool false]) (by simp [results, Try.results37, go_sem]) rfl ⟨rfl, hb⟩
set_option maxHeartbeats 1000000 in
theorem search_hit (xs : List Int) (t c : Int) (g cap : Nat) (hx : xs.length = 16) (bx : ByteList xs) (w : World) (hg : At0 w g (scells xs t c)) : Calls Try.prog 37 #[.slice (some ⟨g, 0, none⟩) 1 cap, idv xs, .func (.func 38) #[] #[]] w fun e w' => e = .returned (.tuple #[.int .i64 0, .bool true]) ∧ Below w.heap.size w w' := by
  have hcc : idCmp xs xs = 0 := by have := idCmp_zero xs xs rfl; simpa using this
  have hcmp := Lib.hid (findc_any xs xs t c hx hx bx bx)
  rw [hcc] at hcmp
  clear bx hcc
  unfold seenv at hcmp
  unfold idv at *
  go_enter Try.func37, Try.ntmps37
  go_upto_region 1 with (fail)
  refine name_wp (fun w1 => Below w.heap.size w w1 ∧ At0 w1 g (scells xs t c) ∧ At0 w1 w.heap.size (xs.map (Value.int .u8))) ⟨(Below.refl _ _).alloc (Nat.le_refl _) _, hg.up ((Below.refl _ _).alloc (Nat.le_refl _) _), At0.of_block (alloc_at rfl)⟩ ?_
  clear hg
  rintro w1 ⟨hb, hg, kx⟩
  go_wp2
  refine wp_loop_rounds 2 ?_
  rw [rounds_succ]
  go_wp2
  refine wp_region_flow0 (by kernel_rfl) (by kernel_rfl) ?_
  intro ι _ φ hφ
  repeat (first
    | (refine quiet_load_mid _ _ _ 0 _ _ rfl rfl rfl (mid_family hφ hg) Try.underlying32 rfl (by rw [scells_length hx]; kernel_rfl) ?_; simp only [Act.put, List.setIfInBounds_toArray, List.set_cons_succ, List.set_cons_zero])
    | (refine quiet_load_mid _ _ _ 0 _ _ rfl rfl rfl (mid_family hφ kx) Try.underlying29 rfl (by rw [List.length_map, hx]; kernel_rfl) ?_; simp only [Act.put, List.setIfInBounds_toArray, List.set_cons_succ, List.set_cons_zero])
    | go_big_quiet_step ((go_at_call 38; exact flow_call hφ (hcmp.out _))))
  refine wpQuiet_nil ?_
  intro w2 hw2
  replace hb := below_next hb hb.size hw2
  replace hg := hg.up hw2
  replace kx := kx.up hw2
  clear hw2
  go_wp2
  try rw [rounds_succ]
  go_wp2
  refine wp_region_flow0 (by kernel_rfl) (by kernel_rfl) ?_
  intro ι _ φ hφ
  repeat (first
    | (refine quiet_load_mid _ _ _ 0 _ _ rfl rfl rfl (mid_family hφ hg) Try.underlying32 rfl (by rw [scells_length hx]; kernel_rfl) ?_; simp only [Act.put, List.setIfInBounds_toArray, List.set_cons_succ, List.set_cons_zero])
    | (refine quiet_load_mid _ _ _ 0 _ _ rfl rfl rfl (mid_family hφ kx) Try.underlying29 rfl (by rw [List.length_map, hx]; kernel_rfl) ?_; simp only [Act.put, List.setIfInBounds_toArray, List.set_cons_succ, List.set_cons_zero])
    | go_big_quiet_step ((go_at_call 38; exact flow_call hφ (hcmp.out _))))
  refine wpQuiet_nil ?_
  intro w2 hw2
  replace hb := below_next hb hb.size hw2
  replace hg := hg.up hw2
  replace kx := kx.up hw2
  clear hw2
  go_wp2
  refine bodyPost_ret (v := .tuple #[.int .i64 0, .bool true]) (by simp [results, Try.results37, go_sem]) rfl ⟨rfl, hb⟩
set_option maxHeartbeats 1000000 in
theorem find_nil (p : Nat) (lim : Int) (ys : List Int) (hy : ys.length = 16) (w : World) (hp : w.heap[p]? = some (.cells #[.slice none 0 0, .int .i64 lim] 60 (0, 0))) : Calls Try.prog 28 #[.pointer (some ⟨p, 0, none⟩), idv ys] w fun e w' => e = .returned (.tuple #[.int .i64 0, .bool false]) ∧ Below w.heap.size w w' := by
  have hs := Lib.hid (search_nil ys hy)
  unfold idv at *
  go_enter Try.func28, Try.ntmps28
  go_upto_region 1 with (fail)
  refine name_wp (fun w1 => Below w.heap.size w w1 ∧ w1.heap[p]? = some (.cells #[.slice none 0 0, .int .i64 lim] 60 (0, 0)) ∧ At0 w1 w.heap.size (ys.map (Value.int .u8))) ⟨(Below.refl _ _).alloc (Nat.le_refl _) _, alloc_keeps hp, At0.of_block (alloc_at rfl)⟩ ?_
  clear hp
  rintro w1 ⟨hb, hp, kx⟩
  refine wp_region_flow0 (by kernel_rfl) (by kernel_rfl) ?_
  intro ι _ φ hφ
  obtain ⟨c0, c1⟩ := hφ.two hp
  repeat (first
    | (refine quiet_load_mid _ _ _ 0 _ _ rfl rfl rfl (mid_family hφ kx) Try.underlying29 rfl (by rw [List.length_map, hy]; kernel_rfl) ?_; simp only [Act.put, List.setIfInBounds_toArray, List.set_cons_succ, List.set_cons_zero])
    | go_big_quiet_step ((go_at_call 37; exact flow_call hφ (hs.out _))))
  refine wpQuiet_nil ?_
  intro w2 hw2
  replace hb := below_next hb hb.size hw2
  clear hw2
  go_wp2
  exact bodyPost_ret (v := .tuple #[.int .i64 0, .bool false]) (by simp [results, Try.results28, go_sem]) rfl ⟨rfl, hb⟩
set_option maxHeartbeats 1000000 in
theorem find_hit (p g cap : Nat) (lim : Int) (xs : List Int) (t c : Int) (hx : xs.length = 16) (bx : ByteList xs) (w : World) (hp : w.heap[p]? = some (.cells #[.slice (some ⟨g, 0, none⟩) 1 cap, .int .i64 lim] 60 (0, 0))) (hg : At0 w g (scells xs t c)) : Calls Try.prog 28 #[.pointer (some ⟨p, 0, none⟩), idv xs] w fun e w' => e = .returned (.tuple #[.int .i64 0, .bool true]) ∧ Below w.heap.size w w' := by
  have hs := Lib.hid (fun w => search_hit xs t c g cap hx bx w)
  clear bx
  unfold idv at *
  go_enter Try.func28, Try.ntmps28
  go_upto_region 1 with (fail)
  refine name_wp (fun w1 => Below w.heap.size w w1 ∧ w1.heap[p]? = some (.cells #[.slice (some ⟨g, 0, none⟩) 1 cap, .int .i64 lim] 60 (0, 0)) ∧ At0 w1 w.heap.size (xs.map (Value.int .u8)) ∧ At0 w1 g (scells xs t c)) ⟨(Below.refl _ _).alloc (Nat.le_refl _) _, alloc_keeps hp, At0.of_block (alloc_at rfl), hg.up ((Below.refl _ _).alloc (Nat.le_refl _) _)⟩ ?_
  clear hp hg
  rintro w1 ⟨hb, hp, kx, hg⟩
  refine wp_region_flow0 (by kernel_rfl) (by kernel_rfl) ?_
  intro ι _ φ hφ
  obtain ⟨c0, c1⟩ := hφ.two hp
  have hs' := Lib.hid (fun i => hs.out (φ i) (hg.up (hφ.old i)))
  repeat (first
    | (refine quiet_load_mid _ _ _ 0 _ _ rfl rfl rfl (mid_family hφ kx) Try.underlying29 rfl (by rw [List.length_map, hx]; kernel_rfl) ?_; simp only [Act.put, List.setIfInBounds_toArray, List.set_cons_succ, List.set_cons_zero])
    | go_big_quiet_step ((go_at_call 37; exact flow_call hφ (hs'.out _))))
  refine wpQuiet_nil ?_
  intro w2 hw2
  replace hb := below_next hb hb.size hw2
  clear hw2
  go_wp2
  exact bodyPost_ret (v := .tuple #[.int .i64 0, .bool true]) (by simp [results, Try.results28, go_sem]) rfl ⟨rfl, hb⟩
theorem room_any (p : Nat) (v : Option Addr) (n cap : Nat) (lim : Int) (h0 : 0 ≤ lim) (h1 : lim ≤ 256) (hn : n ≤ 300) (w : World) (hp : w.heap[p]? = some (.cells #[.slice v n cap, .int .i64 lim] 60 (0, 0))) : Calls Try.prog 20 #[.pointer (some ⟨p, 0, none⟩)] w fun e w' => e = .returned (.int .i64 (lim - n)) ∧ Below w.heap.size w w' := by
  go_enter Try.func20, Try.ntmps20
  obtain ⟨c0, c1, _, _⟩ := blk2 hp
  go_wp2
  refine wp_region_flow0 (by kernel_rfl) (by kernel_rfl) ?_
  intro ι _ φ hφ
  obtain ⟨c0, c1⟩ := hφ.two hp
  repeat (go_big_quiet_step (fail))
  refine wpQuiet_nil ?_
  intro w2 hw2
  go_wp2
  go_ret
  exact ⟨rfl, hw2⟩
theorem len_any (p : Nat) (v : Option Addr) (n cap : Nat) (lim : Int) (w : World) (hp : w.heap[p]? = some (.cells #[.slice v n cap, .int .i64 lim] 60 (0, 0))) : Calls Try.prog 19 #[.pointer (some ⟨p, 0, none⟩)] w fun e w' => e = .returned (.int .i64 n) ∧ Below w.heap.size w w' := by
  go_enter Try.func19, Try.ntmps19
  obtain ⟨c0, c1, _, _⟩ := blk2 hp
  go_wp2
  go_ret
  exact ⟨rfl, Below.refl _ _⟩
end Go.Proofs.Ytkngcffgoimjkaa
