/-
  Totals: a law's variables as the walk goes on; two totals of nothing are the same.
-/
import Derived.Test.YtpojhomccmfffaaDoorTtK
namespace Go.Proofs.YtpojhomccmfffaaDoor
open Go.RowKit Flow F
set_option linter.unusedVariables false
set_option linter.unusedSimpArgs false
attribute [local go_sem] eqlIn_chkC

/-- The law's five arguments, boxed one behind the other, and nothing else changed. -/
structure TE (w : World) (T S X Y I : List Value) (wr : World) : Prop where
  hb : Below w.heap.size w wr
  kt : wr.heap[w.heap.size]? = some (.cells T.toArray 33 (0, 0))
  ks : wr.heap[w.heap.size + 1]? = some (.cells S.toArray 25 (0, 0))
  kx : wr.heap[w.heap.size + 2]? = some (.cells X.toArray 39 (0, 0))
  ky : wr.heap[w.heap.size + 3]? = some (.cells Y.toArray 39 (0, 0))
  ki : wr.heap[w.heap.size + 4]? = some (.cells I.toArray 51 (0, 0))
section
variable {w w1 w2 : World} {T S X Y I : List Value}
theorem TE.up (h : TE w T S X Y I w1) (hv : Below w1.heap.size w1 w2) : TE w T S X Y I w2 :=
  ⟨below_next h.hb h.hb.size hv, keeps hv h.kt, keeps hv h.ks, keeps hv h.kx, keeps hv h.ky, keeps hv h.ki⟩
theorem TE.lt (h : TE w T S X Y I w1) : w.heap.size + 4 < w1.heap.size := lt_of_get h.ki
/-- A new variable was written whole. -/
theorem new_keeps {o o' : Obj} {k : Nat} (hk : w1.heap[k]? = some o') (hbut : But w1.heap.size (w1.alloc o) w2) : w2.heap[k]? = some o' := by
  have := lt_of_get hk
  exact (hbut.block _ (by simp; omega) (by omega)).trans (alloc_keeps hk)
theorem TE.new {o : Obj} (h : TE w T S X Y I w1) (hbut : But w1.heap.size (w1.alloc o) w2) : TE w T S X Y I w2 :=
  ⟨hbut.below (h.hb.alloc h.hb.size _) h.hb.size (h.hb.alloc h.hb.size _).size, new_keeps h.kt hbut, new_keeps h.ks hbut, new_keeps h.kx hbut, new_keeps h.ky hbut, new_keeps h.ki hbut⟩
theorem TE.farT {g : Nat} (h : TE w T S X Y I w1) (hbut : But g w1 w2) (hg : w.heap.size + 4 < g) : TE w T S X Y I w2 := by
  have := h.lt
  exact ⟨hbut.below h.hb (by omega) h.hb.size, (hbut.block _ (by omega) (by omega)).trans h.kt, (hbut.block _ (by omega) (by omega)).trans h.ks, (hbut.block _ (by omega) (by omega)).trans h.kx, (hbut.block _ (by omega) (by omega)).trans h.ky, (hbut.block _ (by omega) (by omega)).trans h.ki⟩
theorem TE.setX (h : TE w T S X Y I w1) {X' : List Value} (hbut : But (w.heap.size + 2) w1 w2) (hx : w2.heap[w.heap.size + 2]? = some (.cells X'.toArray 39 (0, 0))) : TE w T S X' Y I w2 := by
  have := h.lt
  exact ⟨hbut.below h.hb (by omega) h.hb.size, (hbut.block _ (by omega) (by omega)).trans h.kt, (hbut.block _ (by omega) (by omega)).trans h.ks, hx, (hbut.block _ (by omega) (by omega)).trans h.ky, (hbut.block _ (by omega) (by omega)).trans h.ki⟩
theorem TE.setY (h : TE w T S X Y I w1) {Y' : List Value} (hbut : But (w.heap.size + 3) w1 w2) (hy : w2.heap[w.heap.size + 3]? = some (.cells Y'.toArray 39 (0, 0))) : TE w T S X Y' I w2 := by
  have := h.lt
  exact ⟨hbut.below h.hb (by omega) h.hb.size, (hbut.block _ (by omega) (by omega)).trans h.kt, (hbut.block _ (by omega) (by omega)).trans h.ks, (hbut.block _ (by omega) (by omega)).trans h.kx, hy, (hbut.block _ (by omega) (by omega)).trans h.ki⟩
end
/-- What adding, or merging, answers: a total, an error's number. -/
def TotBy (E : Int) (w : World) (e : Ending) (w' : World) : Prop := ∃ V : List Value, e = .returned (.tuple #[.agg V.toArray, .int .i64 E]) ∧ Below w.heap.size w w' ∧ V.length = 18 ∧ ∀ u ∈ V, u.oneCell' = true
def fewE (m1 m2 : Int) : Int := if few m1 m2 = true then 0 else 18
theorem tadd_two (x : Ci) (p : Int) (s : ByteArray) (h : TGood x p s) (xs ys : List Int) (A B : Option Addr) (n cA cB : Nat) (m1 : Int) (c1 : Nat → Nat) (ns : List Nat) (hns : IdOK ns) (h1 : n = x.outN) (hx : ElemsOK xs) (hy : ElemsOK ys) (hxl : xs.length = n) (hyl : ys.length = n)
    (l1 : Lim8 c1) (w : World) (hT : Tabs w) (hA : ElemsAt w A xs) (hB : ElemsAt w B ys) :
    Calls Tryd.prog 25 #[.agg (tot (.slice A n cA) m1 c1).toArray, .agg (tcl x p s).toArray, .agg (idc ns).toArray, .slice B n cB] w (TotBy (fewE m1 1) w) := by
  cases hf : few m1 1 with
  | true =>
    refine (tadd_ok x p s h xs ys A B n n cA cB m1 c1 ns hns hf h1 rfl hx hy hxl hyl l1 (chk_lim _) w hT hA hB).mono fun e w' ⟨g, he, hb, _, _⟩ => ⟨tot (.slice (some ⟨g, 0, none⟩) n n) (m1 + 1) (xorF c1 (chk ns)), (by rw [he]; unfold fewE; rw [if_pos hf]; rfl), hb, tot_len _ _ _, one_tot _ _⟩
  | false =>
    refine (tadd_bad x p s A B n n cA cB m1 c1 ns hns 18 (fun w => merge_full x p s h A B n n cA cB m1 1 c1 (chk ns) hf w) w hT).mono fun e w' ⟨he, hb⟩ => ⟨noTot, (by rw [he]; unfold fewE; rw [if_neg (by rw [hf]; decide)]), hb, tot_len _ _ _, one_tot (A := none) (n := 0) (cp := 0) 0 (fun _ => 0)⟩
theorem merge_two (x : Ci) (p : Int) (s : ByteArray) (h : TGood x p s) (xs ys : List Int) (A B : Option Addr) (n cA cB : Nat) (m1 m2 : Int) (c1 c2 : Nat → Nat) (h1 : n = x.outN) (hx : ElemsOK xs) (hy : ElemsOK ys) (hxl : xs.length = n) (hyl : ys.length = n)
    (l1 : Lim8 c1) (l2 : Lim8 c2) (w : World) (hA : ElemsAt w A xs) (hB : ElemsAt w B ys) :
    Calls Tryd.prog 15 #[.agg (tot (.slice A n cA) m1 c1).toArray, .agg (tcl x p s).toArray, .agg (tot (.slice B n cB) m2 c2).toArray] w (TotBy (fewE m1 m2) w) := by
  cases hf : few m1 m2 with
  | true =>
    refine (merge_ok x p s h xs ys A B n n cA cB m1 m2 c1 c2 hf h1 rfl hx hy hxl hyl l1 l2 w hA hB).mono fun e w' ⟨g, he, hb, _, _⟩ => ⟨tot (.slice (some ⟨g, 0, none⟩) n n) (m1 + m2) (xorF c1 c2), (by rw [he]; unfold fewE; rw [if_pos hf]; rfl), hb, tot_len _ _ _, one_tot _ _⟩
  | false =>
    refine (merge_full x p s h A B n n cA cB m1 m2 c1 c2 hf w).mono fun e w' ⟨he, hb⟩ => ⟨noTot, (by rw [he]; unfold fewE; rw [if_neg (by rw [hf]; decide)]), hb, tot_len _ _ _, one_tot (A := none) (n := 0) (cp := 0) 0 (fun _ => 0)⟩
theorem tot_by {E : Int} {w : World} {e : Ending} {w' : World} {V : List Value} (he : e = .returned (.tuple #[.agg V.toArray, .int .i64 E])) (hb : Below w.heap.size w w') (hl : V.length = 18) (h1 : ∀ u ∈ V, u.oneCell' = true) : TotBy E w e w' := ⟨V, he, hb, hl, h1⟩
theorem tot_by9 {f : FuncId} {args : Array Value} {w : World} {E : Int} (h : Calls Tryd.prog f args w fun e w' => e = .returned (.tuple #[.agg noTot.toArray, .int .i64 E]) ∧ Below w.heap.size w w') : Calls Tryd.prog f args w (TotBy E w) :=
  h.mono fun e w' ⟨he, hb⟩ => ⟨noTot, he, hb, tot_len _ _ _, one_tot (A := none) (n := 0) (cp := 0) 0 (fun _ => 0)⟩
theorem set_chk16 (S : Value) (m : Int) (l l' : List Value) (hl : l.length = 16) (hl' : l'.length = 16) :
    List.foldl (fun (cs : Array Value) (x : Value × Nat) => cs.setIfInBounds x.2 x.1) (S :: Value.int .i64 m :: l).toArray (l'.zipIdx 2) = (S :: Value.int .i64 m :: l').toArray := by
  match l, hl with
  | [a0, a1, a2, a3, a4, a5, a6, a7, a8, a9, a10, a11, a12, a13, a14, a15], _ =>
    match l', hl' with
    | [b0, b1, b2, b3, b4, b5, b6, b7, b8, b9, b10, b11, b12, b13, b14, b15], _ => simp
theorem set_chk (S : Value) (m : Int) (c c' : Nat → Nat) : List.foldl (fun (cs : Array Value) (x : Value × Nat) => cs.setIfInBounds x.2 x.1) (tot S m c).toArray ((arr8 c' 16).zipIdx 2) = (tot S m c').toArray :=
  set_chk16 S m _ _ (arr8_len c 16) (arr8_len c' 16)
theorem list_store_midT {P : Program} {ops : Array Oper} {rest : List Oper} {op : Oper} {a : Act} {w : World} {Q : Exit → Act → World → Prop} (ty : TypeId) (x y : Operand) (b o : Nat) (cs old new : List Value) (t' : TypeId)
    (hw : Region.wanted op (yielded ops a.tmps) = true) (ho : op.op = .store ty x y) (hx : a.eval x = .pointer (some ⟨b, o, none⟩)) (hy : a.eval y = .agg cs.toArray)
    (hb : w.heap[b]? = some (.cells old.toArray t' (0, 0))) (hl : o + cs.length ≤ old.length) (hi : (P.info? ty).map (·.size) = some cs.length) (h1 : ∀ u ∈ cs, u.oneCell' = true)
    (hn : List.foldl (fun (cs : Array Value) (x : Value × Nat) => cs.setIfInBounds x.2 x.1) old.toArray (cs.zipIdx o) = new.toArray)
    (h : ∀ w', But b w w' → w'.heap[b]? = some (.cells new.toArray t' (0, 0)) → wpList P ops Q rest (a.put op.dst undef) w') : wpList P ops Q (op :: rest) a w :=
  wpList_step fun _ hK => by
    rw [if_pos hw]
    refine wp_store_mid ty x y ho b o cs.toArray hx hy (fun j hj => ?_) (by simpa using hi) (by simpa using h1) (hK _ _ (h _ ((But.refl b w).setCells cs o w) ?_))
    · have hj' : o + j < old.length := by
        have : j < cs.length := by simpa using hj
        omega
      simp [World.cell?, World.frozen?, hb, hj']
    · rw [heap_setCells _ _ _ _ _ _ _ hb, hn]
theorem tot_S (S S' : Value) (m : Int) (c : Nat → Nat) : (tot S m c).toArray.setIfInBounds 0 S' = (tot S' m c).toArray := by simp [tot]
theorem tot_M (S : Value) (m m' : Int) (c : Nat → Nat) : (tot S m c).toArray.setIfInBounds 1 (.int .i64 m') = (tot S m' c).toArray := by simp [tot]
set_option maxRecDepth 20000 in
set_option maxHeartbeats 2000000 in
theorem rsame_nil (w : World) : Calls Tryd.prog 50 #[.slice none 0 0, .slice none 0 0] w fun e w' => e = .returned (.bool true) ∧ Below w.heap.size w w' :=
  rsame_eq [] none none 0 0 (by decide) w (fun k hk => by cases hk) (fun k hk => by cases hk)
set_option maxRecDepth 20000 in
set_option maxHeartbeats 4000000 in
theorem same_nil (w : World) : Calls Tryd.prog 18 #[.agg noTot.toArray, .agg noTot.toArray] w fun e w' => e = .returned (.bool true) ∧ Below w.heap.size w w' := by
  have hR := Lib.hid (fun w => rsame_nil w)
  have hsc := sameC_refl (fun _ => 0)
  go_enter Tryd.func18, Tryd.ntmps18
  go_upto_region 1 with (fail)
  refine name_wp (fun w1 => Below w.heap.size w w1 ∧ w1.heap[w.heap.size]? = some (.cells noTot.toArray 39 (0, 0)) ∧ w1.heap[w.heap.size + 1]? = some (.cells noTot.toArray 39 (0, 0)))
    ⟨((Below.refl _ _).alloc (Nat.le_refl _) _).alloc (by simp) _, alloc_keeps (alloc_at rfl), alloc_at (by simp)⟩ ?_
  rintro w1 ⟨hb, k0, k1⟩
  have q0 := At0.of_block k0 0 (.slice none 0 0) rfl
  have q1 := At0.of_block k1 0 (.slice none 0 0) rfl
  have m0 := At0.of_block k0 1 (.int .i64 0) rfl
  have m1 := At0.of_block k1 1 (.int .i64 0) rfl
  simp only [Nat.zero_add] at q0 q1 m0 m1
  have r1 := sub_range (At0.of_block k0) 2 (arr8 (fun _ => 0) 16) (tot_chk _ _ _)
  have r2 := sub_range (At0.of_block k1) 2 (arr8 (fun _ => 0) 16) (tot_chk _ _ _)
  go_wp2_with (first
    | (refine list_load_mid _ _ _ 2 _ _ rfl rfl rfl r1 Tryd.underlying37 rfl (by rw [arr8_len]; kernel_rfl) ?_)
    | (refine list_load_mid _ _ _ 2 _ _ rfl rfl rfl r2 Tryd.underlying37 rfl (by rw [arr8_len]; kernel_rfl) ?_))
  refine call_then (hR.out _) ?_
  intro w4 hv
  replace hb := below_next hb hb.size hv
  go_wp2
  go_ret
  exact ⟨rfl, hb⟩
end Go.Proofs.YtpojhomccmfffaaDoor
