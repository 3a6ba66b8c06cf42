/-
  What the program sorts of four numbers: no number, two, nought under a minus, nought.
-/
import Derived.Test.YtnaakklfbegldaaStO
import Derived.Laws.AppendOwn
import Derived.Laws.MakeOwn
import Derived.OwnWalk
import Derived.Deep.MidRow
import Derived.Below
namespace Go.Proofs.Ytnaakklfbegldaa
open Go.RowKit Flow
set_option linter.unusedVariables false
set_option linter.unusedSimpArgs false
attribute [local go_sem] bits_run from_run

theorem news_one {W : World} {u : Value} {t : TypeId} : ∀ (j : Nat) (z : Value), [u][j]? = some z → (W.alloc (.cells #[u] t)).cell? (Addr.add ⟨W.heap.size, 0, none⟩ j) = some z := by
  intro j z h
  match j with
  | 0 => simp at h; subst h; simp [Addr.add]
  | j + 1 => simp at h
theorem owns_up {w w' : World} {base : Nat} {e : TypeId} {v : Value} {n : Nat} {xs : List Value} (h : w.ownsRow base e 1 v n xs) (hb : Below w.heap.size w w') : w'.ownsRow base e 1 v n xs := by
  refine ⟨h.1, ?_⟩
  rcases h.2 with hn | ⟨g, cap, cur, rfl, hbb, hgg, rest⟩
  · exact .inl hn
  · exact .inr ⟨g, cap, cur, rfl, hbb, keeps hb hgg, rest⟩
theorem grown_below {w wr w' : World} {v : Value} {n : Nat} {e : TypeId} {xs : List Value} (hb : Below w.heap.size w wr) (hown : wr.ownsRow w.heap.size e 1 v n xs) (hg : wr.grownBy w' v.ownBlock) : Below w.heap.size w w' :=
  hb.grown hg hb.size (fun k hk => (hown.lt k hk).1)
theorem info_f64 : (Try.prog.info? 35).map (fun i => (i.zero, i.size, i.bytes)) = some (some (.float .f64 0), 1, 8) := by kernel_rfl
theorem make_floats (w : World) : ∃ cur, (Instr.makeSlice 27 (.int .i64 0) (.int .i64 4)).run Try.prog w = .ok (.slice (some ⟨w.heap.size, 0, none⟩) 0 4) (w.alloc (.cells cur 35)) ∧ cur.size = 4 * 1 := ⟨#[.float .f64 0, .float .f64 0, .float .f64 0, .float .f64 0], by kernel_rfl, rfl⟩
theorem leftD {k : Nat} (h : k < 4) : 4 - (intOf (.int .i64 ((k : Int) + 1))).toNat < 4 - (intOf (.int .i64 (k : Int))).toNat := by
  show 4 - ((k : Int) + 1).toNat < 4 - ((k : Int)).toNat
  omega
theorem own3 {w : World} {base : Nat} {v a b c : Value} (h : w.ownsRow base 35 1 v 3 [a, b, c]) : ∃ g cap cur, v = .slice (some ⟨g, 0, none⟩) 3 cap ∧ base ≤ g ∧ w.heap[g]? = some (.cells cur 35) ∧ 3 ≤ cur.size ∧
    w.cell? ⟨g, 0, none⟩ = some a ∧ w.cell? ⟨g, 1, none⟩ = some b ∧ w.cell? ⟨g, 2, none⟩ = some c := by
  rcases h.2 with ⟨_, hn⟩ | ⟨g, cap, cur, rfl, hbb, hgg, hnc, hcm, hcs, htake⟩
  · simp at hn
  · have c0 := h.cells (g := g) rfl 0 a rfl
    have c1 := h.cells (g := g) rfl 1 b rfl
    have c2 := h.cells (g := g) rfl 2 c rfl
    rw [Addr.add_mid] at c0 c1 c2
    exact ⟨g, cap, cur, rfl, hbb, hgg, by omega, c0, c1, c2⟩
def SortSaid : Prop := ∀ (g cap : Nat) (cur : Array Value) (W3 : World), W3.heap[g]? = some (.cells cur 35) → 3 ≤ cur.size →
  (W3.cell? ⟨g, 0, none⟩ = some (.float .f64 4611686018427387904)) → (W3.cell? ⟨g, 1, none⟩ = some (.float .f64 9223372036854775808)) → (W3.cell? ⟨g, 2, none⟩ = some (.float .f64 0)) →
  Calls Try.prog 46 #[.slice (some ⟨g, 0, none⟩) 3 cap, .func (.func 47) #[] #[]] W3 fun e w' => e = .returned (.tuple #[]) ∧ Below g W3 w' ∧
    w'.cell? ⟨g, 0, none⟩ = some (.float .f64 9223372036854775808) ∧ w'.cell? ⟨g, 1, none⟩ = some (.float .f64 0) ∧ w'.cell? ⟨g, 2, none⟩ = some (.float .f64 4611686018427387904)
def four : List Nat := [9221120237041090561, 4611686018427387904, 9223372036854775808, 0]
def some4 (k : Nat) : List Nat := (four.take k).filter (fun x => !isNan x)
theorem some4_succ {k : Nat} (hk : k < 4) : some4 (k + 1) = some4 k ++ (if isNan (four.getD k 0) then [] else [four.getD k 0]) := by
  have : k = 0 ∨ k = 1 ∨ k = 2 ∨ k = 3 := by omega
  rcases this with rfl | rfl | rfl | rfl <;> decide +kernel
theorem some4_all : some4 4 = [4611686018427387904, 9223372036854775808, 0] := by decide +kernel
theorem some4_len (k : Nat) (hk : k ≤ 4) : (some4 k).length ≤ 3 := by
  have : k = 0 ∨ k = 1 ∨ k = 2 ∨ k = 3 ∨ k = 4 := by omega
  rcases this with rfl | rfl | rfl | rfl | rfl <;> decide +kernel
theorem four_len : four.length = 4 := rfl
set_option maxRecDepth 20000 in
set_option maxHeartbeats 8000000 in
theorem sorted_awake (hsort : SortSaid) (b : Nat) (w : World) (hc : ∀ k, k < 4 → w.cell? ⟨b, k, none⟩ = some (.float .f64 (four.getD k 0))) (hbw : b < w.heap.size) :
    Calls Try.prog 31 #[.slice (some ⟨b, 0, none⟩) 4 4] w fun e w' => ∃ g cap, e = .returned (.slice (some ⟨g, 0, none⟩) 3 cap) ∧ Below w.heap.size w w' ∧
      w'.cell? ⟨g, 0, none⟩ = some (.float .f64 9223372036854775808) ∧ w'.cell? ⟨g, 1, none⟩ = some (.float .f64 0) ∧ w'.cell? ⟨g, 2, none⟩ = some (.float .f64 4611686018427387904) := by
  replace hsort := Lib.hid hsort
  obtain ⟨i0, hinf, hz0, hz1, hz2⟩ := info_parts info_f64
  go_enter Try.func31, Try.ntmps31
  obtain ⟨cur, hmk, hcs⟩ := make_floats w
  have hown := World.ownsRow_made (base := w.heap.size) w cur 4 (Nat.le_refl _) (by unfold maxLen; omega) hcs (e := 35) (size := 1)
  have hb := (Below.refl w.heap.size w).alloc (Nat.le_refl _) (.cells cur 35)
  go_wp2
  go_loopw [11, 3] (fun i v wr => ∃ k : Nat, k ≤ 4 ∧ i = .int .i64 (k : Int) ∧ Below w.heap.size w wr ∧ wr.ownsRow w.heap.size 35 1 v (some4 k).length ((some4 k).map (Value.float .f64))) (fun i _ _ => 4 - (intOf i).toNat)
  case atStart => exact ⟨0, by omega, rfl, hb, hown⟩
  case round =>
    clear hb hown
    obtain ⟨k, hk, rfl, hb, hown⟩ := hrel
    by_cases hlt : k < 4
    · have cx : _ = some _ := (hb.cell (p := ⟨b, k, none⟩) hbw).trans (hc k hlt)
      have hs := some4_succ hlt
      have hl := some4_len k hk
      have hn := isnan_any (four.getD k 0)
      generalize four.getD k 0 = x at *
      have k0 : (0 : Int) ≤ (k : Int) := by omega
      have k1 : (k : Int) < 4 := by omega
      cases hx : isNan x with
      | true =>
        rw [hx] at hn hs
        replace hn := Lib.hid hn
        replace hs := Lib.hid hs
        go_wp2_with fail
        refine call_then (hn.out _) ?_
        intro w2 hb2
        replace hown := owns_up hown hb2
        replace hb := below_next hb hb.size hb2
        go_wp2
        refine ⟨⟨k + 1, by omega, by go_num, hb, ?_⟩, leftD (by assumption)⟩
        rw [hs.out]
        simpa using hown
      | false =>
        rw [hx] at hn hs
        replace hn := Lib.hid hn
        replace hs := Lib.hid hs
        go_wp2_with fail
        refine call_then (hn.out _) ?_
        intro w2 hb2
        replace hown := owns_up hown hb2
        replace hb := below_next hb hb.size hb2
        clear hb2 cx
        have hb6 := hb.alloc hb.size (.cells #[.float .f64 x] 35 (0, 0))
        go_wp2_with (at_builtin; refine wpList_append_own _ rfl _ _ 27 rfl w.heap.size 35 i0 (.float .f64 0) 1 8 Try.underlying27 hinf hz0 hz1 hz2 rfl (by decide) _ _ _ rfl (hown.alloc _) ⟨_, 0, none⟩ 1 1 [.float .f64 x] rfl rfl news_one (by simp [Value.oneCell']) (by unfold maxLen; omega) (by omega) hb6.size ?_; intro v1 w6 hown6 hg6 _; have hb7 := grown_below hb6 (hown.alloc _) hg6; clear hg6)
        refine ⟨⟨k + 1, by omega, by go_num, hb7, ?_⟩, leftD (by assumption)⟩
        rw [hs.out]
        simpa using hown6
    · obtain rfl : k = 4 := by omega
      rw [some4_all] at hown
      obtain ⟨g, cap, cur3, rfl, hbb, hgg, hc3, s0, s1, s2⟩ := own3 hown
      clear hown
      go_wp2_with fail
      refine (hsort.out g cap cur3 _ hgg hc3 s0 s1 s2).mono ?_
      rintro e w3 ⟨rfl, hb3, t0, t1, t2⟩
      replace hb := hb.trans (hb3.mono hbb)
      clear hgg hc3 s0 s1 s2 hb3
      go_wp2
      go_ret
      exact ⟨g, cap, rfl, hb, t0, t1, t2⟩
end Go.Proofs.Ytnaakklfbegldaa
