import Derived.Test.YtebgfelbffgnbaaGreatDoorBD
import Derived.Test.YtebgfelbffgnbaaGreatDoorElems
import Derived.Laws.MakeOwn
import Derived.Laws.Entries
/-
  Contracts of package field at what is no field.
-/
namespace Go.Proofs.YtebgfelbffgnbaaGreatDoor
open Go.RowKit F Flow
set_option linter.unusedVariables false
attribute [local go_sem] eql_elem

/-- What is no field. -/
structure NoField (n : Int) : Prop where
  one : ((n : Int) == 1) = false
  two : ((n : Int) == 2) = false
end Go.Proofs.YtebgfelbffgnbaaGreatDoor

/-
  Contracts of package field: the sum of a slice, whatever the sum of two is.
-/
namespace Go.Proofs.YtebgfelbffgnbaaGreatDoor
open Go.RowKit F Flow
set_option linter.unusedVariables false
attribute [local go_sem] eql_elem

/-- A variable that holds an element. -/
def Holds (w : World) (b : Nat) (x : Int) : Prop := w.heap[b]? = some (.cells #[.int .u64 (lo x), .int .u64 (hi x)] 28 (0, 0))
theorem Holds.up {w w' : World} {b : Nat} {x : Int} (h : Holds w b x) (hb : Below w.heap.size w w') : Holds w' b x := keeps hb h
theorem Holds.new {w : World} {x : Int} : Holds (w.alloc (.cells #[.int .u64 (lo x), .int .u64 (hi x)] 28)) w.heap.size x := alloc_at rfl
theorem Holds.alloc {w : World} {b : Nat} {x : Int} (h : Holds w b x) (o : Obj) : Holds (w.alloc o) b x := alloc_keeps h
theorem Holds.set {w : World} {b : Nat} {x : Int} (h : Holds w b x) (z : Int) : Holds ((w.setCell ⟨b, 0, none⟩ (.int .u64 (lo z))).setCell ⟨b, 1, none⟩ (.int .u64 (hi z))) b z := store2 h
theorem Holds.far {w : World} {b c : Nat} {x : Int} {u v : Value} (h : Holds w b x) (hbc : b ≠ c) : Holds ((w.setCell ⟨c, 0, none⟩ u).setCell ⟨c, 1, none⟩ v) b x := store2_far h hbc
theorem ElemsAt.far {w : World} {A : Option Addr} {xs : List Int} {c B : Nat} {u v : Value} (h : ElemsAt w A xs) (hB : ∀ b o, A = some ⟨b, o, none⟩ → xs.length ≠ 0 → b < B) (hc : B ≤ c) : ElemsAt ((w.setCell ⟨c, 0, none⟩ u).setCell ⟨c, 1, none⟩ v) A xs := fun k hk => by
  obtain ⟨b, o, e, h1, h2⟩ := h k hk
  have hlt := hB b o e (by omega)
  refine ⟨b, o, e, ?_, ?_⟩
  · rw [World.cell?_setCell_other _ _ _ _ (by simp <;> omega), World.cell?_setCell_other _ _ _ _ (by simp <;> omega)]; exact h1
  · rw [World.cell?_setCell_other _ _ _ _ (by simp <;> omega), World.cell?_setCell_other _ _ _ _ (by simp <;> omega)]; exact h2
/-- Both lie in old memory, so anything that leaves old memory as it is keeps them. -/
theorem ElemsAt.old {w w' : World} {A : Option Addr} {xs : List Int} (h : ElemsAt w A xs) (hb : Below w.heap.size w w') : ElemsAt w' A xs := h.up hb

theorem foldl_take {α : Type} (f : Int → α → Int) (xs : List α) (d : α) (k : Nat) (hk : k < xs.length) : (xs.take (k + 1)).foldl f 0 = f ((xs.take k).foldl f 0) (xs.getD k d) := by
  rw [List.take_succ_eq_append_getElem hk, List.foldl_append]
  simp [hk]
set_option maxHeartbeats 2000000 in
theorem fsum_gen (n : Int) (op : Int → Int → Int) (xs : List Int) (A : Option Addr) (c : Nat) (hx : ElemsOK xs) (hm : xs.length ≤ maxLen)
    (hop : ∀ a b, 0 ≤ a → a < 340282366920938463463374607431768211456 → 0 ≤ b → b < 340282366920938463463374607431768211456 → (0 ≤ op a b ∧ op a b < 340282366920938463463374607431768211456) ∧
      ∀ w, Calls Tryz.prog 82 #[.int .u8 n, .agg #[.int .u64 (lo a), .int .u64 (hi a)], .agg #[.int .u64 (lo b), .int .u64 (hi b)]] w fun e w' => e = .returned (.agg #[.int .u64 (lo (op a b)), .int .u64 (hi (op a b))]) ∧ Below w.heap.size w w')
    (w : World) (hA : ElemsAt w A xs) :
    Calls Tryz.prog 65 #[.int .u8 n, .slice A xs.length c] w fun e w' => e = .returned (.agg #[.int .u64 (lo (xs.foldl op 0)), .int .u64 (hi (xs.foldl op 0))]) ∧ Below w.heap.size w w' := by
  unfold maxLen at hm
  go_enter Tryz.func65, Tryz.ntmps65
  go_wp2
  refine name_wp (fun w1 => Below w.heap.size w w1 ∧ Holds w1 w.heap.size 0 ∧ Holds w1 (w.heap.size + 1) 0)
    ⟨((Below.refl _ _).alloc (Nat.le_refl _) _).alloc (by simp) _, alloc_keeps (alloc_at rfl), alloc_at (by simp)⟩ ?_
  rintro w1 ⟨hb, hr, hs⟩
  go_loopw [10] (fun i wr => ∃ k : Nat, k ≤ xs.length ∧ i = .int .i64 k ∧ Below w.heap.size w wr ∧ Holds wr w.heap.size 0 ∧ Holds wr (w.heap.size + 1) ((xs.take k).foldl op 0) ∧ (0 ≤ (xs.take k).foldl op 0 ∧ (xs.take k).foldl op 0 < 340282366920938463463374607431768211456)) (fun i _ => xs.length - (intOf i).toNat)
  case atStart => exact ⟨0, Nat.zero_le _, rfl, hb, hr, hs, by simp⟩
  case round =>
    obtain ⟨k, hk, rfl, hb, hr, hs, hS⟩ := hrel
    by_cases hlt : k < xs.length
    · obtain ⟨b, o, rfl, c0, c1⟩ := (hA.up hb) k hlt
      have hxk := hx.at_ hlt
      have hf := foldl_take op xs 0 k hlt
      obtain ⟨hR, hc⟩ := hop _ _ hS.1 hS.2 hxk.1 hxk.2
      generalize (xs.take k).foldl op 0 = S at *
      generalize xs.getD k 0 = x at *
      clear hA
      replace hc := Lib.hid hc
      replace hf := Lib.hid hf
      obtain ⟨s0, s1, s2, s3⟩ := blk2 hs
      have l1 := lt_of_get hs
      have l2 : w.heap.size + 1 ≠ wr.heap.size := Nat.ne_of_lt l1
      go_wp2_with fail
      refine name_calls (fun w2 => Below w.heap.size w w2 ∧ Holds w2 w.heap.size 0 ∧ Holds w2 (w.heap.size + 1) S) ⟨hb.alloc hb.size _, hr.alloc _, hs.alloc _⟩ ?_
      clear s0 s1 s2 s3 c0 c1 l1 l2 hb hr hs
      rintro w2 ⟨hb, hr, hs⟩
      refine call_then (hc.out _) ?_
      intro w3 hw3
      replace hb := below_next hb hb.size hw3
      replace hr := hr.up hw3
      replace hs := hs.up hw3
      clear hw3
      obtain ⟨s0, s1, s2, s3⟩ := blk2 hs
      go_wp2
      clear s0 s1 s2 s3
      go_roundw
      case rel => exact ⟨k + 1, hlt, by go_num, below_store2 hb (Nat.le_succ _), hr.far (Nat.ne_of_lt (Nat.lt_succ_self _)), by rw [hf.out]; exact hs.set _, by rw [hf.out]; exact hR⟩
      case measure => simp [intOf]; omega
    · have hkl : k = xs.length := by omega
      subst hkl
      rw [List.take_length] at hs hS
      clear hA hop
      obtain ⟨s0, s1, s2, s3⟩ := blk2 hs
      obtain ⟨r0, r1, r2, r3⟩ := blk2 hr
      go_wp2
      obtain ⟨p2, q2, _, _⟩ := blk2 (hr.set (xs.foldl op 0))
      exact bodyPost_ret (v := .agg #[.int .u64 (lo (xs.foldl op 0)), .int .u64 (hi (xs.foldl op 0))]) (by simp [results, Tryz.results65, go_sem, p2, q2]) rfl ⟨rfl, below_store2 hb (Nat.le_refl _)⟩
end Go.Proofs.YtebgfelbffgnbaaGreatDoor

/-
  A block of elements that a call made: its cells, a store into it, a new one.
-/
namespace Go.Proofs.YtebgfelbffgnbaaGreatDoor
open Go.RowKit F Flow

/-- Elements as cells. -/
def ecells : List Int → List Value
  | [] => []
  | x :: xs => .int .u64 (lo x) :: .int .u64 (hi x) :: ecells xs
theorem ecells_length : ∀ xs, (ecells xs).length = xs.length * 2
  | [] => rfl
  | x :: xs => by simp [ecells, ecells_length xs]; omega
theorem ecells_lo : ∀ (xs : List Int) (k : Nat), k < xs.length → (ecells xs)[k * 2]? = some (.int .u64 (lo (xs.getD k 0)))
  | x :: xs, 0, _ => rfl
  | x :: xs, k + 1, h => by
    have := ecells_lo xs k (by simpa using h)
    rw [show (k + 1) * 2 = k * 2 + 1 + 1 by omega]
    simpa [ecells] using this
theorem ecells_hi : ∀ (xs : List Int) (k : Nat), k < xs.length → (ecells xs)[k * 2 + 1]? = some (.int .u64 (hi (xs.getD k 0)))
  | x :: xs, 0, _ => rfl
  | x :: xs, k + 1, h => by
    have := ecells_hi xs k (by simpa using h)
    rw [show (k + 1) * 2 + 1 = k * 2 + 1 + 1 + 1 by omega]
    simpa [ecells] using this
theorem ecells_set : ∀ (xs : List Int) (k : Nat) (z : Int), k < xs.length → ((ecells xs).set (k * 2) (.int .u64 (lo z))).set (k * 2 + 1) (.int .u64 (hi z)) = ecells (xs.set k z)
  | x :: xs, 0, z, _ => rfl
  | x :: xs, k + 1, z, h => by
    have := ecells_set xs k z (by simpa using h)
    rw [show (k + 1) * 2 = k * 2 + 1 + 1 by omega, show k * 2 + 1 + 1 + 1 = (k * 2 + 1) + 1 + 1 by omega]
    simpa [ecells] using this
theorem ecells_zero : ∀ n, ecells (List.replicate n 0) = List.replicate (n * 2) (Value.int .u64 0)
  | 0 => rfl
  | n + 1 => by rw [List.replicate_succ, ecells, ecells_zero n, show (n + 1) * 2 = n * 2 + 1 + 1 by omega, List.replicate_succ, List.replicate_succ]; rfl
theorem made_zero (n : Nat) : madeCells (Value.agg #[Value.int .u64 0, Value.int .u64 0]).cells (n * 2) = (ecells (List.replicate n 0)).toArray := by
  rw [ecells_zero]
  refine Array.ext (by simp [madeCells]) (fun i h1 h2 => ?_)
  rcases Nat.mod_two_eq_zero_or_one i with h | h <;> simp [madeCells, Value.cells, h]

/-- A block that holds just these elements. -/
def Row (w : World) (g : Nat) (xs : List Int) : Prop := w.heap[g]? = some (.cells (ecells xs).toArray 28 (0, 0))
theorem Row.up {w w' : World} {g : Nat} {xs : List Int} (h : Row w g xs) (hb : Below w.heap.size w w') : Row w' g xs := keeps hb h
theorem Row.alloc {w : World} {g : Nat} {xs : List Int} (h : Row w g xs) (o : Obj) : Row (w.alloc o) g xs := alloc_keeps h
theorem Row.lo {w : World} {g k : Nat} {xs : List Int} (h : Row w g xs) (hk : k < xs.length) : w.cell? ⟨g, k * 2, none⟩ = some (.int .u64 (F.lo (xs.getD k 0))) := by
  unfold Row at h
  simp only [World.cell?, h]
  simpa using ecells_lo xs k hk
theorem Row.hi {w : World} {g k : Nat} {xs : List Int} (h : Row w g xs) (hk : k < xs.length) : w.cell? ⟨g, k * 2 + 1, none⟩ = some (.int .u64 (F.hi (xs.getD k 0))) := by
  unfold Row at h
  simp only [World.cell?, h]
  simpa using ecells_hi xs k hk
theorem Row.free {w : World} {g : Nat} {xs : List Int} (h : Row w g xs) (k : Nat) : w.frozen? ⟨g, k, none⟩ = false := by
  unfold Row at h
  simp [World.frozen?, h]
theorem Row.far {w : World} {g c : Nat} {xs : List Int} {u v : Value} {i j : Nat} (h : Row w g xs) (hgc : g ≠ c) : Row ((w.setCell ⟨c, i, none⟩ u).setCell ⟨c, j, none⟩ v) g xs := store_far (store_far h hgc) hgc
theorem Row.set {w : World} {g k : Nat} {xs : List Int} (h : Row w g xs) (hk : k < xs.length) (z : Int) : Row ((w.setCell ⟨g, k * 2, none⟩ (.int .u64 (F.lo z))).setCell ⟨g, k * 2 + 1, none⟩ (.int .u64 (F.hi z))) g (xs.set k z) := by
  have := store1 (store1 h (o := k * 2) (v := .int .u64 (F.lo z))) (o := k * 2 + 1) (v := .int .u64 (F.hi z))
  unfold Row
  rw [this, ← ecells_set xs k z hk]
  simp
theorem Row.elems {w : World} {g : Nat} {xs : List Int} (h : Row w g xs) : ElemsAt w (some ⟨g, 0, none⟩) xs := fun k hk =>
  ⟨g, 0, rfl, by rw [Nat.zero_add]; exact h.lo hk, by rw [Nat.zero_add]; exact h.hi hk⟩
theorem Holds.far' {w : World} {b c : Nat} {x : Int} {u v : Value} {i j : Nat} (h : Holds w b x) (hbc : b ≠ c) : Holds ((w.setCell ⟨c, i, none⟩ u).setCell ⟨c, j, none⟩ v) b x := store_far (store_far h hbc) hbc

theorem info_elem : (Tryz.prog.info? 28).map (fun i => (i.zero, i.size, i.bytes)) = some (some (.agg #[.int .u64 0, .int .u64 0]), 2, 16) := by kernel_rfl
theorem make_elems (n : Nat) (hn : n ≤ 65536) (w : World) : (Instr.makeSlice 25 (.int .i64 (n : Int)) (.int .i64 (n : Int))).run Tryz.prog w = .ok (.slice (some ⟨w.heap.size, 0, none⟩) n n) (w.alloc (.cells (ecells (List.replicate n 0)).toArray 28)) := by
  obtain ⟨i0, h0, h1, h2, h3⟩ := info_parts info_elem
  have hb : (i0.bytes : Int) * (n : Int) ≤ 281474976710656 := by rw [h3]; omega
  have hr := run_make (P := Tryz.prog) w 25 28 i0 _ Tryz.underlying25 h0 h1 .i64 .i64 n n (by omega) (by omega) hb (by omega)
  simp only [Int.toNat_natCast] at hr
  rw [hr, h2]
  rw [made_zero]
theorem set_take {xs : List Int} {n k : Nat} {z : Int} (hk : k < n) (hx : xs.length = n) (hz : xs.getD k 0 = z) : (xs.take k ++ List.replicate (n - k) 0).set k z = xs.take (k + 1) ++ List.replicate (n - (k + 1)) 0 := by
  subst hx
  rw [List.set_append_right _ _ (by simp; omega)]
  have e : k - (xs.take k).length = 0 := by simp; omega
  rw [e, show xs.length - k = (xs.length - (k + 1)) + 1 by omega, List.replicate_succ, List.set_cons_zero, List.take_succ_eq_append_getElem hk, List.append_assoc]
  have : xs[k] = z := by rw [← hz]; simp [hk]
  rw [this]
  rfl
end Go.Proofs.YtebgfelbffgnbaaGreatDoor
