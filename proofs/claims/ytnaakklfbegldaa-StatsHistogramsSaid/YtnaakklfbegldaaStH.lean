/-
  What the program sorts, of any numbers.
-/
import Derived.Test.YtnaakklfbegldaaStG
import Derived.Laws.MakeOwn
namespace Go.Proofs.Ytnaakklfbegldaa
open Go.RowKit Flow
set_option linter.unusedVariables false
set_option linter.unusedSimpArgs false
attribute [local go_sem] bits_run from_run

/-- Numbers with a fraction lie at an address. -/
def FloatsAt (w : World) (A : Option Addr) (l : List Nat) : Prop := ∀ k, k < l.length → ∃ b o, A = some ⟨b, o, none⟩ ∧ w.cell? ⟨b, o + k, none⟩ = some (.float .f64 (l.getD k 0))
theorem FloatsAt.up {w w' : World} {A : Option Addr} {l : List Nat} (h : FloatsAt w A l) (hb : Below w.heap.size w w') : FloatsAt w' A l := fun k hk => by
  obtain ⟨b, o, e, h1⟩ := h k hk
  exact ⟨b, o, e, (hb.cell (World.block_lt_of_cell? _ _ h1)).trans h1⟩
def nums (l : List Nat) : List Num := l.filterMap (fun x => if h : isNan x = false then some ⟨x, h⟩ else none)
theorem nums_succ {l : List Nat} {k : Nat} (hk : k < l.length) : nums (l.take (k + 1)) = nums (l.take k) ++ (if h : isNan (l.getD k 0) = false then [⟨l.getD k 0, h⟩] else []) := by
  unfold nums
  rw [List.take_succ_eq_append_getElem hk, List.filterMap_append]
  have : l.getD k 0 = l[k] := by simp [hk]
  rw [this]
  congr 1
  simp only [List.filterMap_cons, List.filterMap_nil]
  split <;> split <;> simp_all
theorem nums_len (l : List Nat) (k : Nat) : (nums (l.take k)).length ≤ k := by
  unfold nums
  exact Nat.le_trans (List.length_filterMap_le _ _) (List.length_take_le _ _)
theorem make_fl (c : Nat) (hc : c ≤ 65536) (w : World) : ∃ cur, (Instr.makeSlice 27 (.int .i64 0) (.int .i64 c)).run Try.prog w = .ok (.slice (some ⟨w.heap.size, 0, none⟩) 0 c) (w.alloc (.cells cur 35)) ∧ cur.size = c * 1 := by
  obtain ⟨i0, h0, h1, h2, h3⟩ := info_parts info_f64
  have hb : (i0.bytes : Int) * (c : Int) ≤ 281474976710656 := by rw [h3]; omega
  have hr := run_make (P := Try.prog) w 27 35 i0 _ Try.underlying27 h0 h1 .i64 .i64 0 c (by omega) (by omega) hb (by omega)
  simp only [Int.toNat_natCast] at hr
  rw [h2] at hr
  exact ⟨_, hr, size_madeCells _ _⟩
theorem own_num {w : World} {base : Nat} {v : Value} {xs : List Num} (h : w.ownsRow base 35 1 v xs.length (xs.map encS)) (hv : v ≠ .slice none 0 0) : ∃ g cap cur, v = .slice (some ⟨g, 0, none⟩) xs.length cap ∧ base ≤ g ∧ w.heap[g]? = some (.cells cur 35) ∧
    ∀ j, j < xs.length → w.cell? ⟨g, j, none⟩ = some (.float .f64 (xs.getD j default).1) := by
  rcases h.2 with ⟨e, hn⟩ | ⟨g, cap, cur, rfl, hbb, hgg, hnc, hcm, hcs, htake⟩
  · exact absurd e hv
  · refine ⟨g, cap, cur, rfl, hbb, hgg, fun j hj => ?_⟩
    have c0 := h.cells (g := g) rfl j (encS (xs.getD j default)) (by simp [hj])
    rw [Addr.add_mid, Nat.zero_add] at c0
    exact c0
theorem leftn {k n : Nat} (h : k < n) : n - (intOf (.int .i64 ((k : Int) + 1))).toNat < n - (intOf (.int .i64 (k : Int))).toNat := by
  show n - ((k : Int) + 1).toNat < n - ((k : Int)).toNat
  omega
set_option maxRecDepth 20000 in
set_option maxHeartbeats 8000000 in
theorem sorted_any (A : Option Addr) (c : Nat) (l : List Nat) (hl : l.length ≤ 4096) (w : World) (hA : FloatsAt w A l) :
    Calls Try.prog 31 #[.slice A l.length c] w fun e w' => ∃ g cap, ∃ ys : List Num, e = .returned (.slice (some ⟨g, 0, none⟩) ys.length cap) ∧ Below w.heap.size w w' ∧ ys.Perm (nums l) ∧
      (∀ i j, i < j → j < ys.length → key2 (ys.getD i default).1 ≤ key2 (ys.getD j default).1) ∧ ∀ j, j < ys.length → w'.cell? ⟨g, j, none⟩ = some (.float .f64 (ys.getD j default).1) := by
  obtain ⟨i0, hinf, hz0, hz1, hz2⟩ := info_parts info_f64
  go_enter Try.func31, Try.ntmps31
  obtain ⟨cur, hmk, hcs⟩ := make_fl l.length (by omega) w
  have hown := World.ownsRow_made (base := w.heap.size) w cur l.length (Nat.le_refl _) (by unfold maxLen; omega) hcs (e := 35) (size := 1)
  have hb := (Below.refl w.heap.size w).alloc (Nat.le_refl _) (.cells cur 35)
  go_wp2
  go_loopw [11, 3] (fun i v wr => ∃ k : Nat, k ≤ l.length ∧ i = .int .i64 (k : Int) ∧ Below w.heap.size w wr ∧ wr.ownsRow w.heap.size 35 1 v (nums (l.take k)).length ((nums (l.take k)).map encS) ∧ v ≠ .slice none 0 0) (fun i _ _ => l.length - (intOf i).toNat)
  case atStart => exact ⟨0, by omega, rfl, hb, hown, fun e => by cases e⟩
  case round =>
    clear hb hown
    obtain ⟨k, hk, rfl, hb, hown, hnil⟩ := hrel
    by_cases hlt : k < l.length
    · obtain ⟨b, o, rfl, c0⟩ := (hA.up hb) k hlt
      have hs := nums_succ hlt
      have hlen := nums_len l k
      have hn := isnan_any (l.getD k 0)
      generalize l.getD k 0 = x at *
      have k0 : (0 : Int) ≤ (k : Int) := by omega
      have k1 : (k : Int) < (l.length : Int) := by omega
      have k2 : (k : Int) < 4096 := by omega
      cases hx : isNan x with
      | true =>
        rw [hx] at hn
        rw [dif_neg (by rw [hx]; simp), List.append_nil] at hs
        replace hn := Lib.hid hn
        replace hs := Lib.hid hs
        go_wp2_with fail
        refine call_then (hn.out _) ?_
        intro w2 hb2
        replace hown := owns_up hown hb2
        replace hb := below_next hb hb.size hb2
        go_wp2
        refine ⟨⟨k + 1, by omega, by go_num, hb, ?_, hnil⟩, leftn (by assumption)⟩
        rw [hs.out]
        exact hown
      | false =>
        rw [hx] at hn
        rw [dif_pos hx] at hs
        replace hn := Lib.hid hn
        replace hs := Lib.hid hs
        go_wp2_with fail
        refine call_then (hn.out _) ?_
        intro w2 hb2
        replace hown := owns_up hown hb2
        replace hb := below_next hb hb.size hb2
        clear hb2 c0
        have hb6 := hb.alloc hb.size (.cells #[.float .f64 x] 35 (0, 0))
        go_wp2_with (at_builtin; refine wpList_append_own _ rfl _ _ 27 rfl w.heap.size 35 i0 (.float .f64 0) 1 8 Try.underlying27 hinf hz0 hz1 hz2 rfl (by decide) _ _ _ rfl (hown.alloc _) ⟨_, 0, none⟩ 1 1 [.float .f64 x] rfl rfl news_one (by simp [Value.oneCell']) (by unfold maxLen; omega) (by omega) hb6.size ?_; intro v1 w6 hown6 hg6 hnil6; have hb7 := grown_below hb6 (hown.alloc _) hg6; clear hg6)
        refine ⟨⟨k + 1, by omega, by go_num, hb7, ?_, fun e => absurd (hnil6.1 e).2 (by decide)⟩, leftn (by assumption)⟩
        rw [hs.out]
        simpa [encS] using hown6
    · obtain rfl : k = l.length := by omega
      rw [List.take_length] at hown
      have hlen : (nums l).length ≤ 65536 := by
        have := nums_len l l.length
        rw [List.take_length] at this
        omega
      obtain ⟨g, cap, cur3, rfl, hbb, hgg, hcells⟩ := own_num hown hnil
      clear hown
      go_wp2_with fail
      refine (sort_any g cap cur3 (nums l) _ hgg hcells hlen).mono ?_
      rintro e w3 ⟨rfl, hb3, ys, hperm, hsorted, hys⟩
      replace hb := hb.trans (hb3.mono hbb)
      clear hgg hcells hb3 hnil
      have hle := hperm.length_eq
      go_wp2
      go_ret
      exact ⟨g, cap, ys, by rw [hle]; rfl, hb, hperm, hsorted, hys⟩
end Go.Proofs.Ytnaakklfbegldaa
