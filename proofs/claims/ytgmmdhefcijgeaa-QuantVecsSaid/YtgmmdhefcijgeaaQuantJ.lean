/-
  Any scale: any numbers' steps: the program's.
-/
import Derived.Test.YtgmmdhefcijgeaaQuantI
import Derived.Deep.MidRow
namespace Go.Proofs.Ytgmmdhefcijgeaa
open Go.RowKit Go.WideShapes Go.ChangeShapes Flow
set_option linter.unusedVariables false
set_option linter.unusedSimpArgs false
attribute [local go_sem] bits_run from_run

/-- Numbers with a fraction lie at an address. -/
def FloatsAt (w : World) (A : Option Addr) (l : List Nat) : Prop := ∀ k, k < l.length → ∃ b o, A = some ⟨b, o, none⟩ ∧ w.cell? ⟨b, o + k, none⟩ = some (.float .f64 (l.getD k 0))
theorem FloatsAt.up {w w' : World} {A : Option Addr} {l : List Nat} (h : FloatsAt w A l) (hb : Below w.heap.size w w') : FloatsAt w' A l := fun k hk => by
  obtain ⟨b, o, e, h1⟩ := h k hk
  exact ⟨b, o, e, (hb.cell (World.block_lt_of_cell? _ _ h1)).trans h1⟩
def cur (V : Nat → Int) (l : List Nat) (m : Nat) : List Int := (l.take m).map V ++ List.replicate (l.length - m) 0
theorem cur_len (V : Nat → Int) (l : List Nat) {m : Nat} (hm : m ≤ l.length) : (cur V l m).length = l.length := by
  unfold cur; simp; omega
theorem cur_succ (V : Nat → Int) (l : List Nat) {m : Nat} (hm : m < l.length) : cur V l (m + 1) = (cur V l m).set m (V (l.getD m 0)) := by
  unfold cur
  have h1 : ((l.take m).map V).length = m := by simp; omega
  have h2 : l.getD m 0 = l[m] := by simp [hm]
  rw [List.set_append_right _ _ (by omega), h1, Nat.sub_self, List.take_succ_eq_append_getElem hm, List.map_append, h2]
  obtain ⟨d, hd⟩ : ∃ d, l.length - m = d + 1 := ⟨l.length - m - 1, by omega⟩
  rw [hd, show l.length - (m + 1) = d by omega, List.replicate_succ, List.set_cons_zero, List.append_assoc]
  rfl
theorem cur_all (V : Nat → Int) (l : List Nat) : cur V l l.length = l.map V := by
  unfold cur; simp
def URow (w : World) (g : Nat) (c : List Int) : Prop := w.heap[g]? = some (.cells (c.map (Value.int .u32)).toArray 25 (0, 0))
theorem URow.up {w w' : World} {g : Nat} {c : List Int} (h : URow w g c) (hb : Below w.heap.size w w') : URow w' g c := keeps hb h
theorem URow.cell {w : World} {g k : Nat} {c : List Int} (h : URow w g c) (hk : k < c.length) : w.cell? ⟨g, k, none⟩ = some (.int .u32 (c.getD k 0)) ∧ w.frozen? ⟨g, k, none⟩ = false := by
  unfold URow at h
  constructor
  · simp [World.cell?, h, hk]
  · simp [World.frozen?, h]
theorem URow.set {w : World} {g k : Nat} {c : List Int} (h : URow w g c) (z : Int) : URow (w.setCell ⟨g, k, none⟩ (.int .u32 z)) g (c.set k z) := by
  unfold URow at *
  rw [store1 h]
  simp [List.map_set]
theorem info_u32 : (Try.prog.info? 25).map (fun i => (i.zero, i.size, i.bytes)) = some (some (.int .u32 0), 1, 4) := by kernel_rfl
theorem make_u32 (k : Nat) (hk : k ≤ 64) (w : World) : (Instr.makeSlice 43 (.int .i64 (k : Int)) (.int .i64 (k : Int))).run Try.prog w = .ok (.slice (some ⟨w.heap.size, 0, none⟩) k k) (w.alloc (.cells (Array.replicate k (Value.int .u32 0)) 25)) := by
  obtain ⟨i0, h0, h1, h2, h3⟩ := info_parts info_u32
  have hr := run_make (P := Try.prog) w 43 25 i0 _ Try.underlying43 h0 h1 .i64 .i64 k k (by omega) (by omega) (by rw [h3]; omega) (by omega)
  simp only [Int.toNat_natCast] at hr
  rw [h2] at hr
  have e : madeCells (Value.int .u32 0).cells (k * 1) = Array.replicate k (Value.int .u32 0) := by
    have := toList_madeCells_one (.int .u32 0) (k * 1)
    apply Array.toList_inj.1
    rw [show (Value.int .u32 0).cells = #[.int .u32 0] from rfl, this, Nat.mul_one]
    simp
  rw [e] at hr
  exact hr
theorem urow_made (w : World) (V : Nat → Int) (l : List Nat) : URow (w.alloc (.cells (Array.replicate l.length (Value.int .u32 0)) 25)) w.heap.size (cur V l 0) := by
  have h := alloc_at (w := w) (k := w.heap.size) (o := .cells (Array.replicate l.length (Value.int .u32 0)) 25) rfl
  unfold URow
  rw [h]
  simp [cur]
theorem left_l {n L : Nat} (h : n < L) : L - (intOf (.int .i64 ((n : Int) + 1))).toNat < L - (intOf (.int .i64 (n : Int))).toNat := by
  show L - ((n : Int) + 1).toNat < L - ((n : Int)).toNat
  omega
theorem vec_many {L S : Nat} {n : Int} (A : Option Addr) (k c : Nat) (h : 64 < k) (w : World) : Calls Try.prog 14 #[scv L S n, .slice A k c] w fun e w' => e = .returned (.tuple #[.slice none 0 0, .int .i64 5]) ∧ Below w.heap.size w w' := by
  have h' : (64 : Int) < (k : Int) := by omega
  go_enter Try.func14, Try.ntmps14
  go_wp2
  exact bodyPost_ret (v := .tuple #[.slice none 0 0, .int .i64 5]) (by simp [results, Try.results14, go_sem]) rfl ⟨rfl, (Below.refl _ _).alloc (Nat.le_refl _) _⟩
set_option maxHeartbeats 40000000 in
theorem vec_all {L S : Nat} {n : Int} {V E : Nat → Int} (A : Option Addr) (c : Nat) (l : List Nat) (hl : l.length ≤ 64) (hP : ∀ x, StepIs L S n x (V x) (E x)) (hall : ∀ i, i < l.length → E (l.getD i 0) = 0) (w : World) (hA : FloatsAt w A l) :
    Calls Try.prog 14 #[scv L S n, .slice A l.length c] w fun e w' => ∃ g, e = .returned (.tuple #[.slice (some ⟨g, 0, none⟩) l.length l.length, .int .i64 0]) ∧ URow w' g (l.map V) ∧ w.heap.size ≤ g ∧ Below w.heap.size w w' := by
  replace hall := Lib.hid hall
  have l0 : ¬ (64 : Int) < (l.length : Int) := by omega
  have hmk := make_u32 l.length hl
  replace hP := Lib.hid hP
  replace hA := Lib.hid hA
  go_enter Try.func14, Try.ntmps14
  have hb := (Below.refl w.heap.size w).alloc (Nat.le_refl _) (.cells #[.float .f64 L, .float .f64 S, .int .u32 n] 29 (0, 0))
  have kx := alloc_at (w := w) (k := w.heap.size) (o := .cells #[.float .f64 L, .float .f64 S, .int .u32 n] 29 (0, 0)) rfl
  have kg := urow_made (w.alloc (.cells #[.float .f64 L, .float .f64 S, .int .u32 n] 29 (0, 0))) V l
  have hb2 := (Below.refl (w.alloc (.cells #[.float .f64 L, .float .f64 S, .int .u32 n] 29 (0, 0))).heap.size (w.alloc (.cells #[.float .f64 L, .float .f64 S, .int .u32 n] 29 (0, 0)))).alloc (Nat.le_refl _) (.cells (Array.replicate l.length (Value.int .u32 0)) 25)
  have hz : (w.alloc (.cells #[.float .f64 L, .float .f64 S, .int .u32 n] 29 (0, 0))).heap.size = w.heap.size + 1 := by simp
  rw [hz] at kg
  go_upto_block 0 with (fail)
  refine name_wp (fun w5 => Below w.heap.size w w5 ∧ w5.heap[w.heap.size]? = some (.cells #[.float .f64 L, .float .f64 S, .int .u32 n] 29 (0, 0)) ∧ URow w5 (w.heap.size + 1) (cur V l 0)) ⟨below_next hb hb.size hb2, keeps hb2 kx, kg⟩ ?_
  clear hb kx kg hb2 hz hmk
  rintro w5 ⟨hb, kx, kg⟩
  go_wp2_with fail
  go_loopw [19] (fun i wr => ∃ m : Nat, m ≤ l.length ∧ i = .int .i64 (m : Int) ∧ Below w.heap.size w wr ∧ wr.heap[w.heap.size]? = some (.cells #[.float .f64 L, .float .f64 S, .int .u32 n] 29 (0, 0)) ∧ URow wr (w.heap.size + 1) (cur V l m)) (fun i _ => l.length - (intOf i).toNat)
  case atStart => exact ⟨0, by omega, rfl, hb, kx, kg⟩
  case round =>
    clear hb kx kg
    obtain ⟨m, hm, rfl, hb, kx, kg⟩ := hrel
    by_cases hml : m < l.length
    · have hE := hall.out m hml
      obtain ⟨b, o, rfl, cx⟩ := (hA.out.up hb) m hml
      have hs := cur_succ V l hml
      have hlen := cur_len V l (Nat.le_of_lt hml)
      generalize l.getD m 0 = x at *
      have i0 : (0 : Int) ≤ (m : Int) := by omega
      have i1 : (m : Int) < (l.length : Int) := by omega
      have i2 : (l.length : Int) ≤ 64 := by omega
      have hW := (hP.out x).prog
      unfold stepR at hW
      rw [hE] at hW
      replace hW := Lib.hid hW
      replace hs := Lib.hid hs
      clear hE
      generalize cur V l m = C at *
      generalize V x = v at *
      obtain ⟨c0, c1, c2⟩ := blkS kx
      go_wp2_with fail
      refine call_then (hW.out _) ?_
      intro w6 hb6
      replace kg := kg.up hb6
      replace kx := keeps hb6 kx
      replace hb := below_next hb hb.size hb6
      clear hb6 cx c0 c1 c2
      obtain ⟨cz, fz⟩ := kg.cell (k := m) (by omega)
      go_wp2
      exact ⟨⟨m + 1, by omega, by go_num, hb.setCell (by simp) _, store_far kx (by simp), by rw [hs.out]; exact kg.set _⟩, left_l (by assumption)⟩
    · obtain rfl : m = l.length := by omega
      rw [cur_all] at kg
      go_wp2
      exact bodyPost_ret (v := .tuple #[.slice (some ⟨w.heap.size + 1, 0, none⟩) l.length l.length, .int .i64 0]) (by simp [results, Try.results14, go_sem]) rfl ⟨w.heap.size + 1, rfl, kg, by omega, hb⟩
set_option maxHeartbeats 40000000 in
theorem vec_first {L S : Nat} {n : Int} {V E : Nat → Int} (A : Option Addr) (c : Nat) (l : List Nat) (hl : l.length ≤ 64) (hP : ∀ x, StepIs L S n x (V x) (E x)) (m0 : Nat) (hm0 : m0 < l.length) (hall : ∀ i, i < m0 → E (l.getD i 0) = 0) (e0 : Int) (he : E (l.getD m0 0) = e0) (hne : e0 ≠ 0) (w : World) (hA : FloatsAt w A l) :
    Calls Try.prog 14 #[scv L S n, .slice A l.length c] w fun e w' => e = .returned (.tuple #[.slice none 0 0, .int .i64 e0]) ∧ Below w.heap.size w w' := by
  rcases (hP (l.getD m0 0)).err with h | h | h
  · exact absurd (he.symm.trans h) hne
  · obtain rfl : e0 = 6 := he.symm.trans h
    clear h hne
    replace hall := Lib.hid hall
    replace he := Lib.hid he
    have l0 : ¬ (64 : Int) < (l.length : Int) := by omega
    have hmk := make_u32 l.length hl
    replace hP := Lib.hid hP
    replace hA := Lib.hid hA
    go_enter Try.func14, Try.ntmps14
    have hb := (Below.refl w.heap.size w).alloc (Nat.le_refl _) (.cells #[.float .f64 L, .float .f64 S, .int .u32 n] 29 (0, 0))
    have kx := alloc_at (w := w) (k := w.heap.size) (o := .cells #[.float .f64 L, .float .f64 S, .int .u32 n] 29 (0, 0)) rfl
    have kg := urow_made (w.alloc (.cells #[.float .f64 L, .float .f64 S, .int .u32 n] 29 (0, 0))) V l
    have hb2 := (Below.refl (w.alloc (.cells #[.float .f64 L, .float .f64 S, .int .u32 n] 29 (0, 0))).heap.size (w.alloc (.cells #[.float .f64 L, .float .f64 S, .int .u32 n] 29 (0, 0)))).alloc (Nat.le_refl _) (.cells (Array.replicate l.length (Value.int .u32 0)) 25)
    have hz : (w.alloc (.cells #[.float .f64 L, .float .f64 S, .int .u32 n] 29 (0, 0))).heap.size = w.heap.size + 1 := by simp
    rw [hz] at kg
    go_upto_block 0 with (fail)
    refine name_wp (fun w5 => Below w.heap.size w w5 ∧ w5.heap[w.heap.size]? = some (.cells #[.float .f64 L, .float .f64 S, .int .u32 n] 29 (0, 0)) ∧ URow w5 (w.heap.size + 1) (cur V l 0)) ⟨below_next hb hb.size hb2, keeps hb2 kx, kg⟩ ?_
    clear hb kx kg hb2 hz hmk
    rintro w5 ⟨hb, kx, kg⟩
    go_wp2_with fail
    go_loopw [19] (fun i wr => ∃ m : Nat, m ≤ m0 ∧ i = .int .i64 (m : Int) ∧ Below w.heap.size w wr ∧ wr.heap[w.heap.size]? = some (.cells #[.float .f64 L, .float .f64 S, .int .u32 n] 29 (0, 0)) ∧ URow wr (w.heap.size + 1) (cur V l m)) (fun i _ => l.length - (intOf i).toNat)
    case atStart => exact ⟨0, by omega, rfl, hb, kx, kg⟩
    case round =>
      clear hb kx kg
      obtain ⟨m, hm, rfl, hb, kx, kg⟩ := hrel
      have hml : m < l.length := by omega
      by_cases hmm : m < m0
      · have hE := hall.out m hmm
        obtain ⟨b, o, rfl, cx⟩ := (hA.out.up hb) m hml
        have hs := cur_succ V l hml
        have hlen := cur_len V l (Nat.le_of_lt hml)
        generalize l.getD m 0 = x at *
        have i0 : (0 : Int) ≤ (m : Int) := by omega
        have i1 : (m : Int) < (l.length : Int) := by omega
        have i2 : (l.length : Int) ≤ 64 := by omega
        have hW := (hP.out x).prog
        unfold stepR at hW
        rw [hE] at hW
        replace hW := Lib.hid hW
        replace hs := Lib.hid hs
        clear hE
        generalize cur V l m = C at *
        generalize V x = v at *
        obtain ⟨c0, c1, c2⟩ := blkS kx
        go_wp2_with fail
        refine call_then (hW.out _) ?_
        intro w6 hb6
        replace kg := kg.up hb6
        replace kx := keeps hb6 kx
        replace hb := below_next hb hb.size hb6
        clear hb6 cx c0 c1 c2
        obtain ⟨cz, fz⟩ := kg.cell (k := m) (by omega)
        go_wp2
        exact ⟨⟨m + 1, by omega, by go_num, hb.setCell (by simp) _, store_far kx (by simp), by rw [hs.out]; exact kg.set _⟩, left_l (by assumption)⟩
      · obtain rfl : m = m0 := by omega
        have he2 := he.out
        obtain ⟨b, o, rfl, cx⟩ := (hA.out.up hb) m hml
        have hs := cur_succ V l hml
        have hlen := cur_len V l (Nat.le_of_lt hml)
        generalize l.getD m 0 = x at *
        have i0 : (0 : Int) ≤ (m : Int) := by omega
        have i1 : (m : Int) < (l.length : Int) := by omega
        have i2 : (l.length : Int) ≤ 64 := by omega
        have hW := (hP.out x).prog
        unfold stepR at hW
        rw [he2] at hW
        clear hs he he2
        generalize V x = v at *
        replace hW := Lib.hid hW
        obtain ⟨c0, c1, c2⟩ := blkS kx
        go_wp2_with fail
        refine call_then (hW.out _) ?_
        intro w6 hb6
        replace hb := below_next hb hb.size hb6
        clear hb6 cx c0 c1 c2
        go_wp2
        exact bodyPost_ret (v := .tuple #[.slice none 0 0, .int .i64 6]) (by simp [results, Try.results14, go_sem]) rfl ⟨rfl, hb⟩
  · obtain rfl : e0 = 28 := he.symm.trans h
    clear h hne
    replace hall := Lib.hid hall
    replace he := Lib.hid he
    have l0 : ¬ (64 : Int) < (l.length : Int) := by omega
    have hmk := make_u32 l.length hl
    replace hP := Lib.hid hP
    replace hA := Lib.hid hA
    go_enter Try.func14, Try.ntmps14
    have hb := (Below.refl w.heap.size w).alloc (Nat.le_refl _) (.cells #[.float .f64 L, .float .f64 S, .int .u32 n] 29 (0, 0))
    have kx := alloc_at (w := w) (k := w.heap.size) (o := .cells #[.float .f64 L, .float .f64 S, .int .u32 n] 29 (0, 0)) rfl
    have kg := urow_made (w.alloc (.cells #[.float .f64 L, .float .f64 S, .int .u32 n] 29 (0, 0))) V l
    have hb2 := (Below.refl (w.alloc (.cells #[.float .f64 L, .float .f64 S, .int .u32 n] 29 (0, 0))).heap.size (w.alloc (.cells #[.float .f64 L, .float .f64 S, .int .u32 n] 29 (0, 0)))).alloc (Nat.le_refl _) (.cells (Array.replicate l.length (Value.int .u32 0)) 25)
    have hz : (w.alloc (.cells #[.float .f64 L, .float .f64 S, .int .u32 n] 29 (0, 0))).heap.size = w.heap.size + 1 := by simp
    rw [hz] at kg
    go_upto_block 0 with (fail)
    refine name_wp (fun w5 => Below w.heap.size w w5 ∧ w5.heap[w.heap.size]? = some (.cells #[.float .f64 L, .float .f64 S, .int .u32 n] 29 (0, 0)) ∧ URow w5 (w.heap.size + 1) (cur V l 0)) ⟨below_next hb hb.size hb2, keeps hb2 kx, kg⟩ ?_
    clear hb kx kg hb2 hz hmk
    rintro w5 ⟨hb, kx, kg⟩
    go_wp2_with fail
    go_loopw [19] (fun i wr => ∃ m : Nat, m ≤ m0 ∧ i = .int .i64 (m : Int) ∧ Below w.heap.size w wr ∧ wr.heap[w.heap.size]? = some (.cells #[.float .f64 L, .float .f64 S, .int .u32 n] 29 (0, 0)) ∧ URow wr (w.heap.size + 1) (cur V l m)) (fun i _ => l.length - (intOf i).toNat)
    case atStart => exact ⟨0, by omega, rfl, hb, kx, kg⟩
    case round =>
      clear hb kx kg
      obtain ⟨m, hm, rfl, hb, kx, kg⟩ := hrel
      have hml : m < l.length := by omega
      by_cases hmm : m < m0
      · have hE := hall.out m hmm
        obtain ⟨b, o, rfl, cx⟩ := (hA.out.up hb) m hml
        have hs := cur_succ V l hml
        have hlen := cur_len V l (Nat.le_of_lt hml)
        generalize l.getD m 0 = x at *
        have i0 : (0 : Int) ≤ (m : Int) := by omega
        have i1 : (m : Int) < (l.length : Int) := by omega
        have i2 : (l.length : Int) ≤ 64 := by omega
        have hW := (hP.out x).prog
        unfold stepR at hW
        rw [hE] at hW
        replace hW := Lib.hid hW
        replace hs := Lib.hid hs
        clear hE
        generalize cur V l m = C at *
        generalize V x = v at *
        obtain ⟨c0, c1, c2⟩ := blkS kx
        go_wp2_with fail
        refine call_then (hW.out _) ?_
        intro w6 hb6
        replace kg := kg.up hb6
        replace kx := keeps hb6 kx
        replace hb := below_next hb hb.size hb6
        clear hb6 cx c0 c1 c2
        obtain ⟨cz, fz⟩ := kg.cell (k := m) (by omega)
        go_wp2
        exact ⟨⟨m + 1, by omega, by go_num, hb.setCell (by simp) _, store_far kx (by simp), by rw [hs.out]; exact kg.set _⟩, left_l (by assumption)⟩
      · obtain rfl : m = m0 := by omega
        have he2 := he.out
        obtain ⟨b, o, rfl, cx⟩ := (hA.out.up hb) m hml
        have hs := cur_succ V l hml
        have hlen := cur_len V l (Nat.le_of_lt hml)
        generalize l.getD m 0 = x at *
        have i0 : (0 : Int) ≤ (m : Int) := by omega
        have i1 : (m : Int) < (l.length : Int) := by omega
        have i2 : (l.length : Int) ≤ 64 := by omega
        have hW := (hP.out x).prog
        unfold stepR at hW
        rw [he2] at hW
        clear hs he he2
        generalize V x = v at *
        replace hW := Lib.hid hW
        obtain ⟨c0, c1, c2⟩ := blkS kx
        go_wp2_with fail
        refine call_then (hW.out _) ?_
        intro w6 hb6
        replace hb := below_next hb hb.size hb6
        clear hb6 cx c0 c1 c2
        go_wp2
        exact bodyPost_ret (v := .tuple #[.slice none 0 0, .int .i64 28]) (by simp [results, Try.results14, go_sem]) rfl ⟨rfl, hb⟩
end Go.Proofs.Ytgmmdhefcijgeaa
