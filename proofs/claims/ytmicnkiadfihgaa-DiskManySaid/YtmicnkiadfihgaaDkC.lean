/-
  A disk of one file: what is appended, synced, cut; a crash; what is read.
-/
import Derived.Test.YtmicnkiadfihgaaDkB
import Derived.Laws.Cover3
namespace Go.Proofs.Ytmicnkiadfihgaa
open Go.RowKit Flow Go.Maps
set_option linter.unusedVariables false
set_option linter.unusedSimpArgs false

theorem type_neK {w : World} {a b : Nat} {x y : Array Value} {t u : TypeId} {r r' : Nat × Nat} (h1 : w.heap[a]? = some (.cells x t r)) (h2 : w.heap[b]? = some (.cells y u r')) (h : t ≠ u) : a ≠ b := fun e => by
  subst e
  rw [h1] at h2
  exact h (Obj.cells.inj (Option.some.inj h2)).2.1
theorem map_neK {w : World} {a m n : Nat} {D : DataW Value} {x : Array Value} {t : TypeId} {r : Nat × Nat} (h1 : w.heap[a]? = some (.cells x t r)) (hm : w.ownsMap Try.prog 9 RvK m n D) : a ≠ m := fun e => by
  subst e
  obtain ⟨es, clock, hb, rest⟩ := hm
  rw [h1] at hb
  cases hb
/-- The file's own cells were changed. -/
theorem Ds1.file {B d m n f : Nat} {lim : Int} {D : DataW Value} {V : Value} {X : List Int} {S : Nat} {w w' : World} (h : Ds1 B d m n f lim D V X S w) (hb : But f w w') {V' : Value} {X' : List Int} {S' : Nat} (hk : w'.heap[f]? = some (.cells #[V', .int .i64 (S' : Int)] 56 (0, 0))) (hr : w'.ownsRow B 5 1 V' X'.length (X'.map (Value.int .u8))) : Ds1 B d m n f lim D V' X' S' w' :=
  ⟨(hb.block d (lt_of_get h.kd) (type_neK h.kd h.kf (by decide))).trans h.kd, map_keepK h.hm (hb.block m (map_ltK h.hm) (fun e => map_neK h.kf h.hm e.symm)), h.has, h.only, h.sz, h.atk, hk, hr, h.lows⟩
theorem row_butK {w w' : World} {B f n size : Nat} {e : TypeId} {v : Value} {xs : List Value} (h : w.ownsRow B e size v n xs) (hb : But f w w') (hne : v.ownBlock ≠ some f) : w'.ownsRow B e size v n xs :=
  h.kept (row := some f) ⟨hb.os, hb.tape, hb.output, hb.size, fun b hlt hne => hb.block b hlt (fun e => hne (by rw [e]))⟩ (.inr hne)
theorem row_neK {w : World} {B f n : Nat} {V : Value} {xs : List Value} {x : Array Value} (h : w.ownsRow B 5 1 V n xs) (hk : w.heap[f]? = some (.cells x 56 (0, 0))) : V.ownBlock ≠ some f := fun e => by
  rcases h.2 with ⟨e2, _⟩ | ⟨g, cap, cur, e2, _, hg, _⟩
  · rw [e2] at e; cases e
  · rw [e2] at e
    cases e
    exact type_neK hg hk (by decide) rfl
theorem info_u8K : (Try.prog.info? 5).map (fun i => (i.zero.map (fun z => z.cells.size), i.size, i.bytes)) = some (some 1, 1, 1) := by kernel_rfl
theorem sclone_news (B : Option Addr) (n cap : Nat) (xs : List Value) (h1 : ∀ u ∈ xs, u.oneCell' = true) (hn : n ≤ 1048576) (w : World) (h : News w B n cap 1 xs) :
    Calls Try.prog 23 #[.slice B n cap] w (CloneOut 5 1 n xs w) := by
  cases B with
  | none =>
    obtain ⟨rfl, rfl⟩ := h.none rfl
    obtain rfl : xs = [] := List.eq_nil_of_length_eq_zero (by rw [h.len, Nat.zero_mul])
    have heq : ∀ w : World, (binOp .eql 22 (.slice none 0 0) (.slice none 0 0)).run Try.prog w = .ok (.bool true) w := fun w => by
      simp only [binOp]
      simp [run_equal_slice_nil w 22 5 none 0 0 Try.underlying22]
    unfold CloneOut
    clear h
    go_enter Try.func23, Try.ntmps23
    go_wp2
    go_ret
    exact ⟨none, 0, rfl, Below.refl _ _, World.ownsRow_nil _ _ _ _⟩
  | some ad =>
    obtain ⟨i0, z0, hinf, hz0, hz1, hz2, hz3⟩ := info_partsU info_u8K
    have hown : (w.alloc (.cells #[] 5 (0, 0))).ownsRow w.heap.size 5 1 (.slice (some ⟨w.heap.size, 0, none⟩) 0 0) 0 [] := World.ownsRow_lit w #[] 0 (Nat.le_refl _) (by unfold maxLen; omega) rfl
    have hn2 := (h.up ((Below.refl w.heap.size w).alloc (Nat.le_refl _) (.cells #[] 5 (0, 0)))).lies ad rfl
    have hx := h.len
    replace hn2 := Lib.hid hn2
    replace hown := Lib.hid hown
    unfold CloneOut
    have heq : ∀ w : World, (binOp .eql 22 (.slice (some ad) n cap) (.slice none 0 0)).run Try.prog w = .ok (.bool false) w := fun w => by
      simp only [binOp]
      simp [run_equal_slice_nil w 22 5 (some ad) n cap Try.underlying22]
    have t1 : 0 + n ≤ maxLen := by unfold maxLen; omega
    have t2 : (0 + n) * 1 ≤ 140737488355328 := by omega
    clear h
    go_enter Try.func23, Try.ntmps23
    go_wp2_with (at_builtin; refine wpList_append_own _ rfl _ _ 22 rfl w.heap.size 5 i0 z0 1 1 Try.underlying22 hinf hz0 hz1 hz2 hz3 (by decide) _ _ _ rfl hown.out ad n cap xs rfl hx hn2.out h1 t1 t2 (by simp) ?_; intro v1 w6 hown6 hg6 hnn6; have hb6 := ((Below.refl w.heap.size w).alloc (Nat.le_refl _) (.cells #[] 5 (0, 0))).grown hg6 (by simp) (fun k hk => by cases hk; exact Nat.le_refl _); clear hg6)
    rw [List.nil_append, Nat.zero_add] at hown6
    obtain ⟨A2, c2, rfl⟩ := owns_slice hown6
    go_ret
    exact ⟨A2, c2, rfl, hb6, hown6⟩
set_option maxRecDepth 20000 in
set_option maxHeartbeats 4000000 in
theorem create_0 (B d m n : Nat) (lim : Int) (D : DataW Value) (hn : n < maxLen) (hB : B ≤ d ∧ B ≤ m) (w0 w : World) (hb : Below B w0 w) (hs : B ≤ w.heap.size) (h : Ds0 d m n lim D w) :
    Calls Try.prog 25 #[.pointer (some ⟨d, 0, none⟩), .string nmA] w fun e w' => ∃ f D', e = .returned (.pointer (some ⟨f, 0, none⟩)) ∧ Below B w0 w' ∧ Ds1 B d m (n + 1) f lim D' (.slice none 0 0) [] 0 w' ∧ (∀ k, k < w.heap.size → k ≠ m → w'.heap[k]? = w.heap[k]?) ∧ w.heap.size ≤ w'.heap.size := by
  have heq : ∀ w : World, (binOp .eql 51 (.map (some m)) (.map none)).run Try.prog w = .ok (.bool false) w := fun w => by
    simp only [binOp]
    simp [run_equal_map_nil w 51 9 54 (some m) Try.underlying51]
  obtain ⟨c0, c1⟩ := disk_cells h.kd
  have hkd := h.kd
  have hkey := Lib.hid (Go.WideMaps.keyOf_string_mk (P := Try.prog) (s := nmA) Try.underlying9 (by decide))
  have hm1 := Lib.hid (h.hm.alloc (.cells #[.slice none 0 0, .int .i64 0] 56 (0, 0)))
  have hD : ∀ x : DataW Value, Maps.has (D.put (klitK nmA) x) (klitK nmA) = true ∧ (∀ kl, Maps.has (D.put (klitK nmA) x) kl = true → kl.sameKey (klitK nmA) = true) ∧ Maps.size (D.put (klitK nmA) x) = 1 ∧ ∀ zd, (D.put (klitK nmA) x).atKey (klitK nmA) zd = x := fun x => by
    have hi := h.hm.isMap
    refine ⟨Maps.has_put_same hi (klit_keyK nmA) x, fun kl hk => ?_, ?_, fun zd => Maps.atKey_put_same hi (klit_keyK nmA) x zd⟩
    · by_cases e : kl = klitK nmA
      · rw [e]; exact same_selfK
      · rw [Maps.has_put_other e, h.none] at hk
        cases hk
    · rw [Maps.size_put (h.hm.tidy keyed_strK) x, h.none, h.sz]
      rfl
  replace hD := Lib.hid hD
  replace hn := Lib.hid hn
  replace hb := Lib.hid hb
  have hltm := map_ltK h.hm
  have hdm : d ≠ m := map_neK h.kd h.hm
  have hltd := lt_of_get h.kd
  clear h
  obtain ⟨s, hsn⟩ : ∃ s, nmA = s := ⟨_, rfl⟩
  rw [hsn] at hkey ⊢
  go_enter Try.func25, Try.ntmps25
  go_wp2_with (first
    | (at_mapUpdate; refine wpList_mapUpdate_own _ rfl _ _ _ 51 rfl 9 54 keyed_strK Try.underlying51 RvK m n D rfl hm1.out hn.out _ _ _ rfl rfl hkey.out (.held (.pointer (some ⟨w.heap.size, 0, none⟩))) [] rfl ?_; intro w1 hm2 hg2)
    | go_in)
  go_ret
  have hbA := hb.out.alloc hs (.cells #[.slice none 0 0, .int .i64 0] 56 (0, 0))
  have hkeep : ∀ k, k < w.heap.size + 1 → k ≠ m → w1.heap[k]? = (w.alloc (.cells #[.slice none 0 0, .int .i64 0] 56 (0, 0))).heap[k]? := fun k hk hne => hg2.block k (by simpa using hk) (fun e => hne (Option.some.inj e))
  have hkf : w1.heap[w.heap.size]? = some (.cells #[.slice none 0 0, .int .i64 0] 56 (0, 0)) := (hkeep _ (Nat.lt_succ_self _) (by omega)).trans (alloc_at rfl)
  have hkd1 := (hkeep d (by omega) hdm).trans (alloc_keeps hkd)
  obtain ⟨p1, p2, p3, p4⟩ := hD.out (.held (.pointer (some ⟨w.heap.size, 0, none⟩)))
  subst hsn
  refine ⟨w.heap.size, _, rfl, hbA.grown hg2 (by simp; omega) (fun j hj => by cases hj; exact hB.2), ⟨hkd1, hm2, p1, p2, p3, p4, hkf, World.ownsRow_nil _ _ _ _, hB.1, hB.2, hs⟩, fun k hk hne => (hkeep k (by omega) hne).trans (Below.heap_alloc w _ k hk), by have := hg2.size; simp at this; omega⟩
end Go.Proofs.Ytmicnkiadfihgaa
