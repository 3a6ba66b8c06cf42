/-
  Reports' ids: which of two comes first.
-/
import Derived.Test.YtkngcffgoimjkaaFlow
import Derived.Test.YtkngcffgoimjkaaPost
import Derived.Test.YtkngcffgoimjkaaChecked
import Derived.WalkKit
import Derived.ProofKit
import Derived.Outline
import Derived.Deep.RegionHeld3
import Derived.Lib.Hide
import Derived.Deep.QuietTactic
import Derived.BigQuiet
import Derived.Lib.BytesEntry
import Derived.Laws.Externs
import Derived.Laws.StructEq
import Derived.Deep.WholeRow
import Derived.Deep.MidRow
namespace Go.Proofs.Ytkngcffgoimjkaa
open Go.RowKit Flow
set_option linter.unusedVariables false

/-- An id as a value: its bytes. -/
def idv (xs : List Int) : Value := .agg (xs.map (Value.int .u8)).toArray
/-- Is one id ahead of another one? -/
def idLess : List Int → List Int → Bool
  | a :: xs, b :: ys => if a = b then idLess xs ys else decide (a < b)
  | _, _ => false
theorem idLess_step {xs ys : List Int} (hx : xs.length = 16) (hy : ys.length = 16) (k : Nat) (h : k < 16) : idLess (xs.drop k) (ys.drop k) = if xs.getD k 0 = ys.getD k 0 then idLess (xs.drop (k + 1)) (ys.drop (k + 1)) else decide (xs.getD k 0 < ys.getD k 0) := by
  rw [List.drop_eq_getElem_cons (by omega : k < xs.length), List.drop_eq_getElem_cons (by omega : k < ys.length), idLess]
  simp [hx, hy, h]
theorem below_drewN' {B : Nat} {a w : World} (h : Below B a w) (n : Nat) : Below B a (w.drewN n) := ⟨h.os, h.tape, h.output, h.size, h.block⟩
theorem byte_at {w : World} {b k : Nat} {xs : List Int} {t : TypeId} (h : w.heap[b]? = some (.cells (xs.map (Value.int .u8)).toArray t (0, 0))) (hk : k < xs.length) : w.cell? ⟨b, k, none⟩ = some (.int .u8 (xs.getD k 0)) := by
  simp [World.cell?, h, hk]
set_option maxHeartbeats 2000000 in
theorem less_any (xs ys : List Int) (hx : xs.length = 16) (hy : ys.length = 16) (w : World) : Calls Try.prog 11 #[idv xs, idv ys] w fun e w' => e = .returned (.bool (idLess xs ys)) ∧ Below w.heap.size w w' := by
  unfold idv
  have hstep := Lib.hid (idLess_step hx hy)
  go_enter Try.func11, Try.ntmps11
  go_wp2
  refine name_wp (fun w1 => Below w.heap.size w w1 ∧ w1.heap[w.heap.size]? = some (.cells (xs.map (Value.int .u8)).toArray 29 (0, 0)) ∧ w1.heap[w.heap.size + 1]? = some (.cells (ys.map (Value.int .u8)).toArray 29 (0, 0)))
    ⟨((Below.refl _ _).alloc (Nat.le_refl _) _).alloc (by simp) _, alloc_keeps (alloc_at rfl), alloc_at (by simp)⟩ ?_
  rintro w1 ⟨hb, kx, ky⟩
  go_loopw [6] (fun i wr => Below w.heap.size w wr ∧ wr.heap[w.heap.size]? = some (.cells (xs.map (Value.int .u8)).toArray 29 (0, 0)) ∧ wr.heap[w.heap.size + 1]? = some (.cells (ys.map (Value.int .u8)).toArray 29 (0, 0)) ∧ ∃ k : Nat, k ≤ 16 ∧ i = .int .i64 (k : Int) ∧ idLess (xs.drop k) (ys.drop k) = idLess xs ys) (fun i _ => 16 - (intOf i).toNat)
  case atStart => exact ⟨hb, kx, ky, 0, by omega, rfl, by simp⟩
  case round =>
    clear hb kx ky
    obtain ⟨hb, kx, ky, k, hk, rfl, hd⟩ := hrel
    by_cases hlt : k < 16
    · have c0 : wr.cell? ⟨w.heap.size, k, none⟩ = some (.int .u8 (xs.getD k 0)) := byte_at kx (by omega)
      have c1 : wr.cell? ⟨w.heap.size + 1, k, none⟩ = some (.int .u8 (ys.getD k 0)) := byte_at ky (by omega)
      have i0 : (0 : Int) ≤ (k : Int) := by omega
      have i1 : (k : Int) < 16 := by omega
      have hs := hstep.out k hlt
      rw [hs] at hd
      generalize xs.getD k 0 = a at *
      generalize ys.getD k 0 = b at *
      by_cases hab : a = b
      · subst hab
        rw [if_pos rfl] at hd
        go_wp2
        go_quiet (fail)
        go_wp2
        exact ⟨⟨below_drewN' hb _, kx, ky, k + 1, by omega, by go_num, hd⟩, by simp [intOf]; omega⟩
      · rw [if_neg hab] at hd
        go_wp2
        go_quiet (fail)
        go_wp2
        go_quiet (fail)
        go_wp2
        go_ret
        exact ⟨rfl, by first | exact below_drewN' hb _ | exact below_drewN' (below_drewN' hb _) _⟩
    · obtain rfl : k = 16 := by omega
      go_wp2
      go_ret
      refine ⟨?_, hb⟩
      rw [← hd, List.drop_of_length_le (by omega), List.drop_of_length_le (by omega)]
      rfl

/-- Which of two ids comes first. -/
def idCmp : List Int → List Int → Int
  | a :: xs, b :: ys => if a < b then -1 else if b < a then 1 else idCmp xs ys
  | _, _ => 0
theorem u8_lt {a b : Int} (ha : 0 ≤ a ∧ a < 256) (hb : 0 ≤ b ∧ b < 256) : (a.toNat.toUInt8 < b.toNat.toUInt8) ↔ a < b := by
  rw [UInt8.lt_iff_toNat_lt]
  simp only [Nat.toUInt8, UInt8.toNat_ofNat']
  rw [Nat.mod_eq_of_lt (by omega : a.toNat < 2 ^ 8), Nat.mod_eq_of_lt (by omega : b.toNat < 2 ^ 8)]
  omega
def ByteList (xs : List Int) : Prop := ∀ x, x ∈ xs → 0 ≤ x ∧ x < 256
theorem compare_ids : ∀ (xs ys : List Int), xs.length = ys.length → ByteList xs → ByteList ys → Lib.compareBytes (Lib.bytesOf xs) (Lib.bytesOf ys) = idCmp xs ys
  | [], [], _, _, _ => rfl
  | a :: xs, b :: ys, h, hx, hy => by
    have ih := compare_ids xs ys (by simpa using h) (fun x hx' => hx x (List.mem_cons_of_mem _ hx')) (fun x hy' => hy x (List.mem_cons_of_mem _ hy'))
    have ha := hx a List.mem_cons_self
    have hb := hy b List.mem_cons_self
    simp only [Lib.bytesOf, List.map_cons, Lib.compareBytes, idCmp, u8_lt ha hb, u8_lt hb ha] at ih ⊢
    rw [ih]
theorem idCmp_neg : ∀ (xs ys : List Int), xs.length = ys.length → decide (idCmp xs ys < 0) = idLess xs ys
  | [], [], _ => rfl
  | a :: xs, b :: ys, h => by
    rw [idCmp, idLess]
    by_cases h1 : a < b
    · rw [if_pos h1, if_neg (by omega)]; simp [h1]
    · by_cases h2 : b < a
      · rw [if_neg h1, if_pos h2, if_neg (by omega)]; simp [h1]
      · rw [if_neg h1, if_neg h2, if_pos (by omega)]
        exact idCmp_neg xs ys (by simpa using h)
theorem idCmp_pos : ∀ (xs ys : List Int), xs.length = ys.length → decide (0 < idCmp xs ys) = idLess ys xs
  | [], [], _ => rfl
  | a :: xs, b :: ys, h => by
    rw [idCmp, idLess]
    by_cases h1 : a < b
    · rw [if_pos h1, if_neg (by omega)]; simp; omega
    · by_cases h2 : b < a
      · rw [if_neg h1, if_pos h2, if_neg (by omega)]; simp [h2]
      · rw [if_neg h1, if_neg h2, if_pos (by omega)]
        exact idCmp_pos xs ys (by simpa using h)
theorem idCmp_zero : ∀ (xs ys : List Int), xs.length = ys.length → (idCmp xs ys == 0) = (xs == ys)
  | [], [], _ => rfl
  | a :: xs, b :: ys, h => by
    rw [idCmp]
    by_cases h1 : a < b
    · rw [if_pos h1]
      have : (a == b) = false := by simp; omega
      simp [this]
    · by_cases h2 : b < a
      · rw [if_neg h1, if_pos h2]
        have : (a == b) = false := by simp; omega
        simp [this]
      · rw [if_neg h1, if_neg h2]
        have : a = b := by omega
        subst this
        simpa using idCmp_zero xs ys (by simpa using h)
theorem idCmp_range : ∀ (xs ys : List Int), idCmp xs ys = -1 ∨ idCmp xs ys = 0 ∨ idCmp xs ys = 1
  | [], _ => by simp [idCmp]
  | _ :: _, [] => by simp [idCmp]
  | a :: xs, b :: ys => by
    rw [idCmp]
    have := idCmp_range xs ys
    split
    · simp
    · split
      · simp
      · exact this
theorem run_compareSlice {P : Program} (w : World) (a b : Addr) (xs ys : List Int) (c d : Nat) (hx : ∀ j x, xs[j]? = some x → w.cell? (a.add j) = some (.int .u8 x)) (hy : ∀ j x, ys[j]? = some x → w.cell? (b.add j) = some (.int .u8 x)) :
    (Extern.BytealgCompare.compare #[.slice (some a) xs.length c, .slice (some b) ys.length d]).run P w = .ok (.int .i64 (Lib.compareBytes (Lib.bytesOf xs) (Lib.bytesOf ys))) w := by
  have h1 := Lib.run_loadBytesX (P := P) w xs a .empty hx
  have h2 := Lib.run_loadBytesX (P := P) w ys b .empty hy
  change Sem.run P (do pure (goInt (Extern.BytealgCompare.cmp (← Extern.Bytes.bytesOf (.slice (some a) xs.length c)) (← Extern.Bytes.bytesOf (.slice (some b) ys.length d))))) w = _
  simp only [Extern.Bytes.bytesOf, Sem.run_bind, h1, h2, Result.andThen, Sem.run_pure]
  rw [Lib.cmp_eq]
  simp [goInt]
set_option maxHeartbeats 1000000 in
theorem bcompare_any (a b : Nat) (xs ys : List Int) (c d : Nat) (w : World) (hx : ∀ j x, xs[j]? = some x → w.cell? ⟨a, j, none⟩ = some (.int .u8 x)) (hy : ∀ j x, ys[j]? = some x → w.cell? ⟨b, j, none⟩ = some (.int .u8 x)) :
    Calls Try.prog 36 #[.slice (some ⟨a, 0, none⟩) xs.length c, .slice (some ⟨b, 0, none⟩) ys.length d] w fun e w' => e = .returned (.int .i64 (Lib.compareBytes (Lib.bytesOf xs) (Lib.bytesOf ys))) ∧ Below w.heap.size w w' := by
  have hr := run_compareSlice (P := Try.prog) w ⟨a, 0, none⟩ ⟨b, 0, none⟩ xs ys c d (fun j x h => by have := hx j x h; rw [show (⟨a, 0, none⟩ : Addr).add j = ⟨a, j, none⟩ by rw [Addr.add_mid, Nat.zero_add]]; exact this) (fun j x h => by have := hy j x h; rw [show (⟨b, 0, none⟩ : Addr).add j = ⟨b, j, none⟩ by rw [Addr.add_mid, Nat.zero_add]]; exact this)
  generalize Lib.compareBytes (Lib.bytesOf xs) (Lib.bytesOf ys) = r at *
  go_enter Try.func36, Try.ntmps36
  go_wp2
  rw [run_callFunc_extern Try.func44 (by kernel_rfl) (by kernel_rfl) (by kernel_rfl) (e := Extern.BytealgCompare.compare) (by kernel_rfl), hr]
  simp only [Result.andThen]
  rw [Oper.upon_value]
  go_wp2
  go_ret
  exact ⟨rfl, Below.refl _ _⟩
theorem slice_id (b : Nat) (w : World) : (Instr.sliceAt 29 (.pointer (some ⟨b, 0, none⟩)) none none none).run Try.prog w = .ok (.slice (some ⟨b, 0, none⟩) 16 16) w := by
  rw [run_sliceAt_array_all w 29 ⟨b, 0, none⟩ (by kernel_rfl), show (Try.prog).elem 29 = 5 by kernel_rfl, Try.sizeOf5]
  rfl
set_option maxHeartbeats 1000000 in
theorem compare_any (xs ys : List Int) (hx : xs.length = 16) (hy : ys.length = 16) (bx : ByteList xs) (by_ : ByteList ys) (w : World) : Calls Try.prog 23 #[idv xs, idv ys] w fun e w' => e = .returned (.int .i64 (idCmp xs ys)) ∧ Below w.heap.size w w' := by
  have hcmp := Lib.hid (compare_ids xs ys (hx.trans hy.symm) bx by_)
  clear bx by_
  unfold idv
  go_enter Try.func23, Try.ntmps23
  go_wp2
  refine name_wp (fun w1 => Below w.heap.size w w1 ∧ w1.heap[w.heap.size]? = some (.cells (xs.map (Value.int .u8)).toArray 29 (0, 0)) ∧ w1.heap[w.heap.size + 1]? = some (.cells (ys.map (Value.int .u8)).toArray 29 (0, 0)))
    ⟨((Below.refl _ _).alloc (Nat.le_refl _) _).alloc (by simp) _, alloc_keeps (alloc_at rfl), alloc_at (by simp)⟩ ?_
  rintro w1 ⟨hb, kx, ky⟩
  refine wp_region_flow0 (by kernel_rfl) (by kernel_rfl) ?_
  intro ι _ φ hφ
  have h := Lib.hid (fun i c d => bcompare_any w.heap.size (w.heap.size + 1) xs ys c d (φ i) (fun j x h => by simp [World.cell?, keeps (hφ.old i) kx, h]) (fun j x h => by simp [World.cell?, keeps (hφ.old i) ky, h]))
  rw [hx, hy] at h
  rw [hcmp.out] at h
  repeat (go_big_quiet_step ((go_at_call 36; exact flow_call hφ (h.out _ _ _))))
  refine wpQuiet_nil ?_
  intro w2 hw2
  replace hb := below_next hb hb.size hw2
  clear hw2 kx ky
  go_wp2
  go_ret
  exact ⟨rfl, hb⟩
end Go.Proofs.Ytkngcffgoimjkaa
