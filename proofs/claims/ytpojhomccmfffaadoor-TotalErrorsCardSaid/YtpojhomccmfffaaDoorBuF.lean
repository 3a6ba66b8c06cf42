/-
  Windows: one's copy; what a book of one answers.
-/
import Derived.Test.YtpojhomccmfffaaDoorBuE
import Derived.Test.YtpojhomccmfffaaDoorBQ
import Derived.Laws.Cover3
namespace Go.Proofs.YtpojhomccmfffaaDoor
open Go.RowKit Flow F
set_option linter.unusedVariables false
set_option linter.unusedSimpArgs false

theorem info_elemB : (Tryd.prog.info? 65).map (fun i => (i.zero.map (fun z => z.cells.size), i.size, i.bytes)) = some (some 2, 2, 16) := by kernel_rfl
theorem one_ecells : ∀ (xs : List Int), ∀ u ∈ ecells xs, u.oneCell' = true
  | [], u, hu => by cases hu
  | x :: xs, u, hu => by
    simp only [ecells, List.mem_cons] at hu
    rcases hu with rfl | rfl | hu
    · rfl
    · rfl
    · exact one_ecells xs u hu
set_option maxRecDepth 20000 in
set_option maxHeartbeats 2000000 in
theorem eclone_row (g n cap : Nat) (xs : List Int) (hxl : xs.length = n) (h0 : 0 < n) (hn : n ≤ 1048576) (w : World) (hr : Row w g xs) :
    Calls Tryd.prog 116 #[.slice (some ⟨g, 0, none⟩) n cap] w fun e w' => ∃ g2 c2, e = .returned (.slice (some ⟨g2, 0, none⟩) n c2) ∧ Below w.heap.size w w' ∧ w'.ownsRow w.heap.size 65 2 (.slice (some ⟨g2, 0, none⟩) n c2) n (ecells xs) := by
  obtain ⟨i0, z0, hinf, hz0, hz1, hz2, hz3⟩ := info_partsB info_elemB
  have hown : (w.alloc (.cells #[] 65 (0, 0))).ownsRow w.heap.size 65 2 (.slice (some ⟨w.heap.size, 0, none⟩) 0 0) 0 [] := World.ownsRow_lit w #[] 0 (Nat.le_refl _) (by unfold maxLen; omega) rfl
  have hr2 := hr.up ((Below.refl w.heap.size w).alloc (Nat.le_refl _) (.cells #[] 65 (0, 0)))
  have hn2 : ∀ j u, (ecells xs)[j]? = some u → (w.alloc (.cells #[] 65 (0, 0))).cell? ((⟨g, 0, none⟩ : Addr).add j) = some u := fun j u hj => by
    rw [Addr.add_mid, Nat.zero_add]
    unfold Row at hr2
    simp [World.cell?, hr2, hj]
  have hx : (ecells xs).length = n * 2 := by rw [ecells_length, hxl]
  replace hn2 := Lib.hid hn2
  replace hown := Lib.hid hown
  have heq : ∀ w : World, (binOp .eql 35 (.slice (some ⟨g, 0, none⟩) n cap) (.slice none 0 0)).run Tryd.prog w = .ok (.bool false) w := fun w => by
    simp only [binOp]
    simp [run_equal_slice_nil w 35 65 (some ⟨g, 0, none⟩) n cap Tryd.underlying35]
  have t1 : 0 + n ≤ maxLen := by unfold maxLen; omega
  have t2 : (0 + n) * 16 ≤ 140737488355328 := by omega
  have h1 := one_ecells xs
  generalize ecells xs = es at *
  replace hx := Lib.hid hx
  replace h1 := Lib.hid h1
  clear hr hr2
  go_enter Tryd.func116, Tryd.ntmps116
  go_wp2_with (at_builtin; refine wpList_append_own _ rfl _ _ 35 rfl w.heap.size 65 i0 z0 2 16 Tryd.underlying35 hinf hz0 hz1 hz2 hz3 (by decide) _ _ _ rfl hown.out ⟨g, 0, none⟩ n cap es rfl hx.out hn2.out h1.out t1 t2 (by simp) ?_; intro v1 w6 hown6 hg6 hnn6; have hb6 := ((Below.refl w.heap.size w).alloc (Nat.le_refl _) (.cells #[] 65 (0, 0))).grown hg6 (by simp) (fun k hk => by cases hk; exact Nat.le_refl _); clear hg6)
  rw [List.nil_append, Nat.zero_add] at hown6
  obtain ⟨g2, c2, rfl⟩ : ∃ g2 c2, v1 = .slice (some ⟨g2, 0, none⟩) n c2 := by
    rcases hown6.2 with ⟨_, h0'⟩ | ⟨g2, c2, cur, e, _⟩
    · omega
    · exact ⟨g2, c2, e⟩
  go_ret
  exact ⟨g2, c2, rfl, hb6, hown6⟩
theorem bks_sum (st : Int) (S S' : Value) (m : Int) (c : Nat → Nat) (cl : Bool) : (bks st S m c cl).toArray.setIfInBounds 1 S' = (bks st S' m c cl).toArray := by
  simp [bks]
set_option maxRecDepth 20000 in
set_option maxHeartbeats 4000000 in
theorem copied_ok (st : Int) (g n cap : Nat) (m : Int) (c : Nat → Nat) (cl : Bool) (xs : List Int) (hxl : xs.length = n) (h0 : 0 < n) (hn : n ≤ 4096) (w : World) (hr : Row w g xs) :
    Calls Tryd.prog 79 #[.agg (bks st (.slice (some ⟨g, 0, none⟩) n cap) m c cl).toArray] w fun e w' => ∃ g2 c2, e = .returned (.agg (bks st (.slice (some ⟨g2, 0, none⟩) n c2) m c cl).toArray) ∧ Below w.heap.size w w' ∧ w.heap.size ≤ g2 ∧ w'.ownsRow w.heap.size 65 2 (.slice (some ⟨g2, 0, none⟩) n c2) n (ecells xs) := by
  have hC := Lib.hid (fun w hr => eclone_row g n cap xs hxl h0 (by omega) w hr)
  clear hxl h0 hn
  go_enter Tryd.func79, Tryd.ntmps79
  go_upto_region 1 with (fail)
  refine name_wp (fun w1 => Below w.heap.size w w1 ∧ w1.heap.size = w.heap.size + 2 ∧ w1.heap[w.heap.size]? = some (.cells (bks st (.slice (some ⟨g, 0, none⟩) n cap) m c cl).toArray 95 (0, 0)) ∧ w1.heap[w.heap.size + 1]? = some (.cells noBk.toArray 95 (0, 0)) ∧ Row w1 g xs)
    ⟨((Below.refl _ _).alloc (Nat.le_refl _) _).alloc (by simp) _, by simp, alloc_keeps (alloc_at rfl), alloc_at (by simp), (hr.alloc _).alloc _⟩ ?_
  clear hr
  rintro w1 ⟨hb, hsz, k0, k1, hr⟩
  have a1 := At0.of_block k0 1 (.slice (some ⟨g, 0, none⟩) n cap) rfl
  simp only [Nat.zero_add] at a1
  go_wp2_with fail
  refine (hC.out _ hr).mono ?_
  rintro e w2 ⟨g2, c2, rfl, hv, hown⟩
  have hg2 : w1.heap.size ≤ g2 := by
    rcases hown.2 with ⟨e, h0'⟩ | ⟨g3, c3, cur, e, hbg, _⟩
    · cases e
    · cases e; exact hbg
  replace k0 := keeps hv k0
  replace k1 := keeps hv k1
  replace hb := below_next hb (by omega) hv
  clear hv hC a1
  have fr : w2.frozen? ⟨w.heap.size, 1, none⟩ = false := by simp [World.frozen?, k0]
  have a1 := At0.of_block k0 1 (.slice (some ⟨g, 0, none⟩) n cap) rfl
  simp only [Nat.zero_add] at a1
  have k02 : (w2.setCell ⟨w.heap.size, 1, none⟩ (.slice (some ⟨g2, 0, none⟩) n c2)).heap[w.heap.size]? = some (.cells (bks st (.slice (some ⟨g2, 0, none⟩) n c2) m c cl).toArray 95 (0, 0)) := by rw [store1 k0, bks_sum]
  have k12 : (w2.setCell ⟨w.heap.size, 1, none⟩ (.slice (some ⟨g2, 0, none⟩) n c2)).heap[w.heap.size + 1]? = some (.cells noBk.toArray 95 (0, 0)) := store_far k1 (show w.heap.size + 1 ≠ w.heap.size by omega)
  have hb2 := hb.setCell (p := ⟨w.heap.size, 1, none⟩) (Nat.le_refl _) (.slice (some ⟨g2, 0, none⟩) n c2)
  have hbut : But w.heap.size w2 (w2.setCell ⟨w.heap.size, 1, none⟩ (.slice (some ⟨g2, 0, none⟩) n c2)) := (But.refl _ _).set _
  have hown2 : (w2.setCell ⟨w.heap.size, 1, none⟩ (.slice (some ⟨g2, 0, none⟩) n c2)).ownsRow w1.heap.size 65 2 (.slice (some ⟨g2, 0, none⟩) n c2) n (ecells xs) := by
    rcases hown with ⟨h1, ⟨e, h0'⟩ | ⟨g3, c3, cur, e, hbg, hcur, hr⟩⟩
    · cases e
    · cases e
      exact ⟨h1, .inr ⟨g2, c2, cur, rfl, hbg, store_far hcur (show g2 ≠ w.heap.size by omega), hr⟩⟩
  replace k02 := Lib.hid k02
  replace k12 := Lib.hid k12
  replace hb2 := Lib.hid hb2
  replace hown2 := Lib.hid hown2
  go_upto_region 2 with (fail)
  clear k0 k1 hb hown a1 fr hbut hr
  generalize w2.setCell ⟨w.heap.size, 1, none⟩ (.slice (some ⟨g2, 0, none⟩) n c2) = w3 at *
  have k03 := k02.out
  have k13 := k12.out
  have hone := Lib.hid (one_bks (A := some ⟨g2, 0, none⟩) (n := n) (cp := c2) st m c cl)
  go_wp2_with (first
    | (refine list_load_mid _ _ _ 0 _ _ rfl rfl rfl (At0.of_block k03) Tryd.underlying95 rfl (by rw [bks_len]; kernel_rfl) ?_)
    | (refine list_store_whole _ _ _ _ (bks st (.slice (some ⟨g2, 0, none⟩) n c2) m c cl) noBk 95 rfl rfl rfl rfl k13 (by rw [bks_len]; rfl) (by rw [bks_len]; kernel_rfl) hone.out ?_; intro w7 hbut kr))
  have hbe := hbut.below hb2.out (by omega) hb2.out.size
  have hlv := loadVar_whole (P := Tryd.prog) (ty := 95) _ (At0.of_block kr) Tryd.underlying95 rfl (by rw [bks_len]; kernel_rfl)
  have hown7 : w7.ownsRow w.heap.size 65 2 (.slice (some ⟨g2, 0, none⟩) n c2) n (ecells xs) := by
    rcases hown2.out with ⟨h1, ⟨e, h0'⟩ | ⟨g3, c3, cur, e, hbg, hcur, hr⟩⟩
    · cases e
    · cases e
      exact ⟨h1, .inr ⟨g2, c2, cur, rfl, by omega, (hbut.block _ (lt_of_get hcur) (by omega)).trans hcur, hr⟩⟩
  exact bodyPost_ret (v := .agg (bks st (.slice (some ⟨g2, 0, none⟩) n c2) m c cl).toArray) (results_cellT Tryd.results79 rfl hlv) rfl ⟨_, _, rfl, hbe, by omega, hown7⟩
end Go.Proofs.YtpojhomccmfffaaDoor
