/-
  DiskMany: its names.
-/
import Derived.Test.YtmicnkiadfihgaaDmF
import Derived.Test.YtmicnkiadfihgaaDkG
import Derived.Laws.Concat
namespace Go.Proofs.Ytmicnkiadfihgaa
open Go.RowKit Flow Go.Maps Go.Sort
set_option linter.unusedVariables false
set_option linter.unusedSimpArgs false

/-- A file's name: f and two letters. -/
def nmM (a b : Nat) : ByteArray := ⟨#[102, UInt8.ofNat (97 + a), UInt8.ofNat (97 + b)]⟩
theorem nmM_size (a b : Nat) : (nmM a b).size = 3 := rfl
theorem nmM_str (a b : Nat) (ha : a < 26) (hb : b < 26) : (⟨#[102]⟩ : ByteArray) ++ strOfNums [97 + (a : Int), 97 + (b : Int)] = nmM a b := by
  have e1 : (97 + (a : Int)).toNat = 97 + a := by omega
  have e2 : (97 + (b : Int)).toNat = 97 + b := by omega
  simp [strOfNums, e1, e2, nmM]
  rfl
theorem ix3_0 (x y z : UInt8) (w : World) : (Instr.index 9 (.string ⟨#[x, y, z]⟩) (.int .i64 0)).run Try.prog w = .ok (.int .u8 (x.toNat : Int)) w := by kernel_rfl
theorem ix3_1 (x y z : UInt8) (w : World) : (Instr.index 9 (.string ⟨#[x, y, z]⟩) (.int .i64 1)).run Try.prog w = .ok (.int .u8 (y.toNat : Int)) w := by kernel_rfl
theorem ix3_2 (x y z : UInt8) (w : World) : (Instr.index 9 (.string ⟨#[x, y, z]⟩) (.int .i64 2)).run Try.prog w = .ok (.int .u8 (z.toNat : Int)) w := by kernel_rfl
theorem nat_u8 (a : Nat) (ha : a < 26) : (UInt8.ofNat (97 + a)).toNat = 97 + a := by
  simp
  omega
theorem named_M (a b : Nat) (ha : a < 26) (hb : b < 26) (w : World) : Calls Try.prog 24 #[.string (nmM a b)] w fun e w' => e = .returned (.bool true) ∧ Below w.heap.size w w' := by
  refine named_3 (nmM a b) (fun j => if j = 0 then 102 else if j = 1 then ((97 + a : Nat) : Int) else ((97 + b : Nat) : Int)) rfl ?_ ?_ w
  · intro w j hj
    obtain rfl | rfl | rfl : j = 0 ∨ j = 1 ∨ j = 2 := by omega
    · exact ix3_0 _ _ _ w
    · have := ix3_1 102 (UInt8.ofNat (97 + a)) (UInt8.ofNat (97 + b)) w
      rw [nat_u8 a ha] at this
      exact this
    · have := ix3_2 102 (UInt8.ofNat (97 + a)) (UInt8.ofNat (97 + b)) w
      rw [nat_u8 b hb] at this
      exact this
  · intro j hj
    obtain rfl | rfl | rfl : j = 0 ∨ j = 1 ∨ j = 2 := by omega
    · simp
    · simp; omega
    · simp; omega
theorem nmM_inj {a b c d : Nat} (ha : a < 26) (hb : b < 26) (hc : c < 26) (hd : d < 26) (h : klitK (nmM a b) = klitK (nmM c d)) : a = c ∧ b = d := by
  have h2 : (nmM a b).data.toList = (nmM c d).data.toList := by
    have h3 : Lit.string (nmM a b).data.toList = Lit.string (nmM c d).data.toList := h
    injection h3
  have h4 : ([102, UInt8.ofNat (97 + a), UInt8.ofNat (97 + b)] : List UInt8) = [102, UInt8.ofNat (97 + c), UInt8.ofNat (97 + d)] := h2
  simp only [List.cons.injEq] at h4
  obtain ⟨-, e1, e2, -⟩ := h4
  have f1 := congrArg UInt8.toNat e1
  have f2 := congrArg UInt8.toNat e2
  rw [nat_u8 a ha, nat_u8 c hc] at f1
  rw [nat_u8 b hb, nat_u8 d hd] at f2
  omega
theorem new_1000 (w : World) : Calls Try.prog 18 #[.int .i64 1000] w fun e w' => ∃ d m, e = .returned (.pointer (some ⟨d, 0, none⟩)) ∧ Below w.heap.size w w' ∧ DsE w.heap.size d m 0 1000 (.map []) w' := by
  have hmm := @run_makeMap Try.prog
  have hM := Lib.hid (World.ownsMap_made (H := Value) w Try.prog 9 RvK)
  go_enter Try.func18, Try.ntmps18
  go_wp2
  go_ret
  refine ⟨w.heap.size + 1, w.heap.size, by simp, ((Below.refl _ _).alloc (Nat.le_refl _) _).alloc (by simp) _, ⟨alloc_at (by simp), hM.out.alloc _, fun kl hk => (by cases hk), ⟨Nat.le_succ _, Nat.le_refl _⟩⟩⟩
/-- The disk behind so many appends. -/
structure DsM (B d m n j : Nat) (D : DataW Value) (w : World) : Prop where
  ds : DsE B d m n 1000 D w
  sz : Maps.size D = min j 64
  keys : ∀ kl, Maps.has D kl = true → ∃ i, i < j ∧ i < 64 ∧ kl = klitK (nmM (i / 26) (i % 26))
  nn : n ≤ j
theorem DsM.new {B d m n j : Nat} {D : DataW Value} {w : World} (h : DsM B d m n j D w) (hj : j < 80) : Maps.has D (klitK (nmM (j / 26) (j % 26))) = false := by
  cases e : Maps.has D (klitK (nmM (j / 26) (j % 26))) with
  | false => rfl
  | true =>
    obtain ⟨i, h1, h2, h3⟩ := h.keys _ e
    have := nmM_inj (by omega) (by omega) (by omega) (by omega) h3
    omega
theorem many_step (B d m n j : Nat) (D : DataW Value) (hj : j < 80) (w0 w : World) (hb : Below B w0 w) (hs : B ≤ w.heap.size) (h : DsM B d m n j D w) :
    Calls Try.prog 10 #[.pointer (some ⟨d, 0, none⟩), .string (nmM (j / 26) (j % 26)), .slice none 0 0] w fun e w' => ∃ n2 D2, e = .returned (.int .i64 (if j < 64 then 0 else 5)) ∧ Below B w0 w' ∧ DsM B d m n2 (j + 1) D2 w' := by
  by_cases h64 : j < 64
  · refine (append_E B d m n (min j 64) D (nmM (j / 26) (j % 26)) (by rw [nmM_size]; decide) (fun w => named_M _ _ (by omega) (by omega) w) (h.new hj) h.sz (by omega) (by have := h.nn; unfold maxLen; omega) w0 w hb hs h.ds).mono ?_
    rintro e w' ⟨f, rfl, hb2, h2⟩
    refine ⟨n + 1, _, by rw [if_pos h64], hb2, h2, ?_, fun kl hk => ?_, by have := h.nn; omega⟩
    · rw [Maps.size_put (h.ds.hm.tidy keyed_strK), h.new hj, h.sz]
      simp
      omega
    · by_cases e : kl = klitK (nmM (j / 26) (j % 26))
      · exact ⟨j, by omega, h64, e⟩
      · rw [Maps.has_put_other e] at hk
        obtain ⟨i, h1, h3, h4⟩ := h.keys _ hk
        exact ⟨i, by omega, h3, h4⟩
  · refine (append_full B d m n (min j 64) D (nmM (j / 26) (j % 26)) (by rw [nmM_size]; decide) (fun w => named_M _ _ (by omega) (by omega) w) (h.new hj) h.sz (by omega) w h.ds).mono ?_
    rintro e w' ⟨rfl, hb2⟩
    refine ⟨n, D, by rw [if_neg h64], below_next hb hs hb2, h.ds.up hb2, by rw [h.sz]; omega, fun kl hk => ?_, by have := h.nn; omega⟩
    obtain ⟨i, h1, h3, h4⟩ := h.keys _ hk
    exact ⟨i, by omega, h3, h4⟩
end Go.Proofs.Ytmicnkiadfihgaa
