/-
  A client: a report of any bytes.
-/
import Derived.Test.YtehjfilnfpkjkaaUpC
namespace Go.Proofs.Ytehjfilnfpkjkaa
open Go.RowKit Flow
set_option linter.unusedVariables false
set_option linter.unusedSimpArgs false

theorem build_atU (pre cs old : List Value) (post : List Value) (h : old.length = cs.length) : List.foldl (fun (cs : Array Value) (x : Value × Nat) => cs.setIfInBounds x.2 x.1) (pre ++ old ++ post).toArray (cs.zipIdx pre.length) = (pre ++ cs ++ post).toArray := by
  obtain ⟨h1, h2⟩ := build_get cs pre.length (pre ++ old ++ post).toArray
  refine Array.ext_getElem? fun i => ?_
  by_cases hi : i < (pre ++ old ++ post).toArray.size
  · rw [h2 i hi]
    simp only [List.getElem?_toArray]
    by_cases hp : i < pre.length
    · rw [if_neg (by omega), List.append_assoc, List.append_assoc, List.getElem?_append_left hp, List.getElem?_append_left hp]
    · by_cases hc : i - pre.length < cs.length
      · rw [if_pos ⟨by omega, hc⟩, List.append_assoc, List.getElem?_append_right (by omega), List.getElem?_append_left hc]
      · rw [if_neg (by omega), List.append_assoc, List.append_assoc, List.getElem?_append_right (by omega), List.getElem?_append_right (by omega), List.getElem?_append_right (by omega), List.getElem?_append_right (by omega), h]
  · rw [Array.getElem?_eq_none (by omega), Array.getElem?_eq_none (by simp at hi ⊢; omega)]
theorem list_store_atU {P : Program} {ops : Array Oper} {rest : List Oper} {op : Oper} {a : Act} {w : World} {Q : Exit → Act → World → Prop} (ty : TypeId) (x y : Operand) (b o : Nat) (pre cs old post : List Value) (t' : TypeId)
    (hw : Region.wanted op (yielded ops a.tmps) = true) (ho : op.op = .store ty x y) (hx : a.eval x = .pointer (some ⟨b, o, none⟩)) (hy : a.eval y = .agg cs.toArray)
    (hb : w.heap[b]? = some (.cells (pre ++ old ++ post).toArray t' (0, 0))) (hp : pre.length = o) (hl : old.length = cs.length) (hi : (P.info? ty).map (·.size) = some cs.length) (h1 : ∀ u ∈ cs, u.oneCell' = true)
    (h : ∀ w', But b w w' → w'.heap[b]? = some (.cells (pre ++ cs ++ post).toArray t' (0, 0)) → wpList P ops Q rest (a.put op.dst undef) w') : wpList P ops Q (op :: rest) a w :=
  wpList_step fun _ hK => by
    rw [if_pos hw]
    refine wp_store_mid ty x y ho b o cs.toArray hx hy (fun j hj => ?_) (by simpa using hi) (by simpa using h1) (hK _ _ (h _ ((But.refl b w).setCells cs o w) ?_))
    · have hj' : j < old.length := by rw [hl]; simpa using hj
      have hj2 : o + j < (pre ++ old ++ post).length := by simp only [List.length_append]; omega
      simp [World.cell?, World.frozen?, hb]
      simp only [List.length_append] at hj2
      omega
    · rw [heap_setCells _ _ _ _ _ _ _ hb, ← hp, build_atU _ _ _ _ hl]
/-- A client's cells: two messages, and what became of them. -/
def clTail (a0 a1 : Bool) (k0 k1 f wt nx sent : Int) : List Value := [.bool a0, .bool a1, .int .i64 k0, .int .i64 k1, .int .u64 f, .int .u64 wt, .int .u64 nx, .int .i64 sent]
def ids (a0 a1 a2 a3 a4 a5 a6 a7 a8 a9 a10 a11 a12 a13 a14 a15 : Int) : List Int := [a0, a1, a2, a3, a4, a5, a6, a7, a8, a9, a10, a11, a12, a13, a14, a15]
theorem id_lit {id : List Int} (h : id.length = 16) : ∃ a0 a1 a2 a3 a4 a5 a6 a7 a8 a9 a10 a11 a12 a13 a14 a15, id = [a0, a1, a2, a3, a4, a5, a6, a7, a8, a9, a10, a11, a12, a13, a14, a15] := by
  match id, h with
  | [a0, a1, a2, a3, a4, a5, a6, a7, a8, a9, a10, a11, a12, a13, a14, a15], _ => exact ⟨a0, a1, a2, a3, a4, a5, a6, a7, a8, a9, a10, a11, a12, a13, a14, a15, rfl⟩
theorem idx_zero (a b : Option Addr) (n c m d : Nat) (w : World) : (Instr.index 60 (.agg #[.slice a n c, .slice b m d]) (.int .i64 0)).run Try.prog w = .ok (.slice a n c) w := by kernel_rfl
theorem idx_one (a b : Option Addr) (n c m d : Nat) (w : World) : (Instr.index 60 (.agg #[.slice a n c, .slice b m d]) (.int .i64 1)).run Try.prog w = .ok (.slice b m d) w := by kernel_rfl
def RawBad (c : Int) (w : World) (e : Ending) (w' : World) : Prop := e = .returned (.tuple #[.pointer none, .int .i64 c]) ∧ Below w.heap.size w w'
set_option maxRecDepth 20000 in
set_option maxHeartbeats 8000000 in
theorem raw_bad (id : List Int) (h16 : id.length = 16) (t : Int) (PA SA : Option Addr) (pn pc sn sc : Nat) (H : Value) (hH : ∃ a n c, H = .slice a n c) (w : World) (hc : ucode t pn sn ≠ 0) :
    Calls Try.prog 8 #[.agg (id.map (Value.int .u8)).toArray, .int .u64 t, .slice PA pn pc, .slice SA sn sc, H] w (RawBad (ucode t pn sn) w) := by
  obtain ⟨Ha, Hn, Hc, rfl⟩ := hH
  have hck := Lib.hid (fun g w hr => check_up id h16 t PA SA pn pc sn sc g 1 w hr)
  obtain ⟨T, hT⟩ : ∃ T, ucode t pn sn = T := ⟨_, rfl⟩
  rw [hT] at hc hck ⊢
  have hc' : (T != 0) = true := by simpa using hc
  clear hT hc
  obtain ⟨a0, a1, a2, a3, a4, a5, a6, a7, a8, a9, a10, a11, a12, a13, a14, a15, rfl⟩ := id_lit h16
  unfold RawBad
  have hix := fun w => idx_zero SA Ha sn sc Hn Hc w
  go_enter Try.func8, Try.ntmps8
  obtain ⟨id, hid⟩ : ∃ id : List Value, id = [.int .u8 a0, .int .u8 a1, .int .u8 a2, .int .u8 a3, .int .u8 a4, .int .u8 a5, .int .u8 a6, .int .u8 a7, .int .u8 a8, .int .u8 a9, .int .u8 a10, .int .u8 a11, .int .u8 a12, .int .u8 a13, .int .u8 a14, .int .u8 a15] := ⟨_, rfl⟩
  go_upto_region 3 with (fail)
  refine name_wp (fun w1 => Below w.heap.size w w1 ∧ w1.heap[w.heap.size]? = some (.cells #[.int .u8 a0, .int .u8 a1, .int .u8 a2, .int .u8 a3, .int .u8 a4, .int .u8 a5, .int .u8 a6, .int .u8 a7, .int .u8 a8, .int .u8 a9, .int .u8 a10, .int .u8 a11, .int .u8 a12, .int .u8 a13, .int .u8 a14, .int .u8 a15] 34 (0, 0)) ∧ w1.heap[w.heap.size + 1]? = some (.cells (zup ++ zup ++ clTail false false 0 0 0 0 0 0).toArray 59 (0, 0)))
    ⟨((Below.refl _ _).alloc (Nat.le_refl _) _).alloc (by simp) _, alloc_keeps (alloc_at rfl), (alloc_at (by simp)).trans rfl⟩ ?_
  clear hid
  rintro w1 ⟨hb, k0, k1⟩
  obtain ⟨q0, hq0⟩ : ∃ q0, w.heap.size = q0 := ⟨_, rfl⟩
  rw [hq0] at hb k0 k1 ⊢
  replace hq0 := Lib.hid hq0
  go_wp2
  go_loopw [22] (fun i wr => i = .int .i64 0 ∧ Below q0 w wr ∧ wr.heap[q0]? = some (.cells #[.int .u8 a0, .int .u8 a1, .int .u8 a2, .int .u8 a3, .int .u8 a4, .int .u8 a5, .int .u8 a6, .int .u8 a7, .int .u8 a8, .int .u8 a9, .int .u8 a10, .int .u8 a11, .int .u8 a12, .int .u8 a13, .int .u8 a14, .int .u8 a15] 34 (0, 0)) ∧ wr.heap[q0 + 1]? = some (.cells (zup ++ zup ++ clTail false false 0 0 0 0 0 0).toArray 59 (0, 0))) (fun _ _ => 0)
  case atStart => exact ⟨rfl, hb, k0, k1⟩
  case round =>
    clear hb k0 k1
    obtain ⟨rfl, hb, k0, k1⟩ := hrel
    have hid := At0.of_block (cs := [.int .u8 a0, .int .u8 a1, .int .u8 a2, .int .u8 a3, .int .u8 a4, .int .u8 a5, .int .u8 a6, .int .u8 a7, .int .u8 a8, .int .u8 a9, .int .u8 a10, .int .u8 a11, .int .u8 a12, .int .u8 a13, .int .u8 a14, .int .u8 a15]) k0
    have hone := Lib.hid (@up22_one (some ⟨wr.heap.size, 0, none⟩) 1 1)
    go_upto_region 6 with (first
      | (refine list_load_mid _ _ _ 0 _ _ rfl rfl rfl hid Try.underlying34 rfl (by kernel_rfl) ?_)
      | (refine list_store_whole _ _ _ _ (up22 (.slice (some ⟨wr.heap.size, 0, none⟩) 1 1)) zup 27 rfl rfl rfl rfl (alloc_at (by simp)) rfl (by kernel_rfl) hone.out ?_; intro w5 hbut ks))
    have hvv : Below wr.heap.size wr w5 := hbut.below (((Below.refl wr.heap.size wr).alloc (Nat.le_refl _) _).alloc (by simp) _) (Nat.le_succ _) (by simp; omega)
    have ke : w5.heap[wr.heap.size]? = some (.cells (ent20 [a0, a1, a2, a3, a4, a5, a6, a7, a8, a9, a10, a11, a12, a13, a14, a15] t (.slice PA pn pc) (.slice SA sn sc)).toArray 44 (0, 0)) := (hbut.block _ (by simp; omega) (by omega)).trans ((alloc_keeps (alloc_at rfl)).trans rfl)
    clear hbut hid hone
    have hqg : q0 + 2 ≤ wr.heap.size := by have := lt_of_get k1; omega
    replace hb := below_next hb (by omega) hvv
    replace k0 := keeps hvv k0
    replace k1 := keeps hvv k1
    try replace hk0 := hk0.up hvv
    have hgw : wr.heap.size + 1 < w5.heap.size := lt_of_get ks
    generalize wr.heap.size = ge at *
    clear hvv
    have hme := At0.of_block ks
    have hre := At0.of_block ke
    go_wp2_with (first | (refine list_load_mid _ _ _ 0 _ _ rfl rfl rfl hme Try.underlying27 rfl (by kernel_rfl) ?_))
    refine call_then (hck.out _ _ hre) ?_
    intro w3 hv
    replace hb := below_next hb (by have := hb.size; have := hq0.out; omega) hv
    clear hv hme hre
    go_wp2
    refine bodyPost_ret (v := .tuple #[.pointer none, .int .i64 T]) (by simp [results, Try.results8, go_sem]) rfl ⟨rfl, by rw [hq0.out]; exact hb⟩
end Go.Proofs.Ytehjfilnfpkjkaa
