/-
  Bytes as a text.
-/
import Derived.Test.YtmnnfecipkdgfaaDoorVwA
import Derived.Test.YtmnnfecipkdgfaaDoorOwn
import Derived.Test.YtmnnfecipkdgfaaDoorMid
import Derived.Laws.MakeOwn
import Derived.Deep.Cut
import Derived.Deep.DeepCutAuto
import Derived.Deep.CutBlock
import Derived.Deep.QuietTactic
import Derived.BigQuiet
namespace Go.Proofs.YtmnnfecipkdgfaaDoor
open Go.RowKit Flow Go.Sort
set_option linter.unusedVariables false
set_option linter.unusedSimpArgs false

def dgt (i : Int) : Int := if i < 10 then 48 + i else 87 + i
/-- Bytes' signs. -/
def hxl : List Int → List Int
  | [] => []
  | x :: xs => dgt (x / 16) :: dgt (x % 16) :: hxl xs
theorem hxl_snoc (x : Int) : ∀ xs, hxl (xs ++ [x]) = hxl xs ++ [dgt (x / 16), dgt (x % 16)]
  | [] => rfl
  | y :: xs => by rw [List.cons_append, hxl, hxl_snoc x xs]; rfl
theorem hxl_length : ∀ xs, (hxl xs).length = 2 * xs.length
  | [] => rfl
  | x :: xs => by rw [hxl, List.length_cons, List.length_cons, hxl_length xs, List.length_cons]; omega
def hexs (xs : List Int) : ByteArray := if xs = [] then ⟨#[45]⟩ else strOfNums (hxl xs)
/-- Bytes that lie so. -/
def BytesIn (w : World) (A : Option Addr) (xs : List Int) : Prop := ∀ k, k < xs.length → ∃ b o, A = some ⟨b, o, none⟩ ∧ w.cell? ⟨b, o + k, none⟩ = some (.int .u8 (xs.getD k 0))
theorem BytesIn.up {w w' : World} {A : Option Addr} {xs : List Int} (h : BytesIn w A xs) (hb : Below w.heap.size w w') : BytesIn w' A xs := fun k hk => by
  obtain ⟨b, o, e, h0⟩ := h k hk
  exact ⟨b, o, e, (hb.cell (World.block_lt_of_cell? _ _ h0)).trans h0⟩
theorem and15_fin : ∀ m : Fin 256, bits .and .u8 ((m.val : Nat) : Int) 15 = ((m.val % 16 : Nat) : Int) := by decide +kernel
theorem and15 {z : Int} (h0 : 0 ≤ z) (h1 : z < 256) : bits .and .u8 z 15 = z % 16 := by
  obtain ⟨m, rfl⟩ := Int.eq_ofNat_of_zero_le h0
  have := and15_fin ⟨m, by omega⟩
  simp only at this
  rw [this]
  omega
def digitsS : ByteArray := ⟨#[48, 49, 50, 51, 52, 53, 54, 55, 56, 57, 97, 98, 99, 100, 101, 102]⟩
theorem digit_nat (w : World) : ∀ m : Nat, m < 16 → (Instr.index 9 (.string digitsS) (.int .u8 (m : Int))).run Tryd.prog w = .ok (.int .u8 (dgt (m : Int))) w
  | 0, _ => by kernel_rfl
  | 1, _ => by kernel_rfl
  | 2, _ => by kernel_rfl
  | 3, _ => by kernel_rfl
  | 4, _ => by kernel_rfl
  | 5, _ => by kernel_rfl
  | 6, _ => by kernel_rfl
  | 7, _ => by kernel_rfl
  | 8, _ => by kernel_rfl
  | 9, _ => by kernel_rfl
  | 10, _ => by kernel_rfl
  | 11, _ => by kernel_rfl
  | 12, _ => by kernel_rfl
  | 13, _ => by kernel_rfl
  | 14, _ => by kernel_rfl
  | 15, _ => by kernel_rfl
  | m + 16, h => absurd h (by omega)
theorem digit_at (w : World) {z : Int} (h0 : 0 ≤ z) (h1 : z < 16) : (Instr.index 9 (.string ⟨#[48, 49, 50, 51, 52, 53, 54, 55, 56, 57, 97, 98, 99, 100, 101, 102]⟩) (.int .u8 z)).run Tryd.prog w = .ok (.int .u8 (dgt z)) w := by
  obtain ⟨m, rfl⟩ := Int.eq_ofNat_of_zero_le h0
  exact digit_nat w m (by omega)
theorem ownsn_up' {w w' : World} {base size : Nat} {e : TypeId} {v : Value} {n : Nat} {xs : List Value} (h : w.ownsRow base e size v n xs) (hb : Below w.heap.size w w') : w'.ownsRow base e size v n xs := by
  refine ⟨h.1, ?_⟩
  rcases h.2 with hn | ⟨g, cap, cur, rfl, hbb, hgg, rest⟩
  · exact .inl hn
  · exact .inr ⟨g, cap, cur, rfl, hbb, keeps hb hgg, rest⟩
theorem news_two {W : World} {u v : Value} {t : TypeId} {p : Nat} (hp : p = W.heap.size) : ∀ (j : Nat) (z : Value), [u, v][j]? = some z → (W.alloc (.cells #[u, v] t)).cell? (Addr.add ⟨p, 0, none⟩ j) = some z := by
  subst hp
  intro j z h
  match j with
  | 0 => simp at h; subst h; simp [Addr.add]
  | 1 => simp at h; subst h; simp [Addr.add]
  | j + 2 => simp at h
theorem info_u8 : (Tryd.prog.info? 5).map (fun i => (i.zero, i.size, i.bytes)) = some (some (.int .u8 0), 1, 1) := by kernel_rfl
theorem make_capb (c : Nat) (hc : c ≤ 65536) (w : World) : ∃ cur, (Instr.makeSlice 40 (.int .i64 0) (.int .i64 (c : Int))).run Tryd.prog w = .ok (.slice (some ⟨w.heap.size, 0, none⟩) 0 c) (w.alloc (.cells cur 5)) ∧ cur.size = c * 1 := by
  obtain ⟨i0, h0, h1, h2, h3⟩ := info_parts info_u8
  have hb : (i0.bytes : Int) * (c : Int) ≤ 281474976710656 := by rw [h3]; omega
  have hr := run_make (P := Tryd.prog) w 40 5 i0 _ Tryd.underlying40 h0 h1 .i64 .i64 0 c (by omega) (by omega) hb (by omega)
  simp only [Int.toNat_natCast] at hr
  rw [h2] at hr
  exact ⟨_, hr, size_madeCells _ _⟩
set_option maxRecDepth 20000 in
set_option maxHeartbeats 4000000 in
theorem hex_any (xs : List Int) (A : Option Addr) (n c : Nat) (hl : xs.length = n) (hn : n ≤ 1000) (hx : ∀ x, x ∈ xs → 0 ≤ x ∧ x < 256) (w : World) (hA : BytesIn w A xs) :
    Calls Tryd.prog 6 #[.slice A n c] w fun e w' => e = .returned (.string (hexs xs)) ∧ Below w.heap.size w w' := by
  by_cases hn0 : n = 0
  · subst hn0
    obtain rfl : xs = [] := List.length_eq_zero_iff.1 hl
    unfold hexs
    rw [if_pos rfl]
    go_enter Tryd.func6, Tryd.ntmps6
    go_wp2
    go_ret
    exact ⟨rfl, Below.refl _ _⟩
  · have b1 : ((n : Int) == 0) = false := by simp; omega
    have n1 : (n : Int) ≤ 1000 := by omega
    have n0 : (0 : Int) ≤ (n : Int) := by omega
    have hmk := make_capb (2 * n) (by omega) w
    obtain ⟨cur, hmk, hcur⟩ := hmk
    have e2 : ((2 * n : Nat) : Int) = 2 * (n : Int) := by omega
    rw [e2] at hmk
    have h2n : IntKind.i64.wrap (2 * (n : Int)) = 2 * (n : Int) := by rw [IntKind.wrap_i64]; omega
    replace hcur := Lib.hid hcur
    clear e2
    have hll := Lib.hid hl
    have hxx := Lib.hid hx
    have hAA := Lib.hid hA
    clear hl hx hA
    obtain ⟨i0, hinf, hz0, hz1, hz2⟩ := info_parts info_u8
    replace hinf := Lib.hid hinf
    go_enter Tryd.func6, Tryd.ntmps6
    go_upto_region 4 with (fail)
    refine name_wp (fun w1 => Below w.heap.size w w1 ∧ w1.ownsRow w.heap.size 5 1 (.slice (some ⟨w.heap.size, 0, none⟩) 0 (2 * n)) 0 []) ⟨(Below.refl _ _).alloc (Nat.le_refl _) _, by simp, .inr ⟨w.heap.size, 2 * n, cur, rfl, Nat.le_refl _, alloc_at rfl, Nat.zero_le _, by unfold maxLen; omega, hcur.out, by simp⟩⟩ ?_
    rintro w1 ⟨hb, hown⟩
    clear hmk
    go_wp2
    go_loopw [3, 15] (fun v i wr => ∃ k : Nat, k ≤ n ∧ i = .int .i64 (k : Int) ∧ Below w.heap.size w wr ∧ wr.ownsRow w.heap.size 5 1 v (2 * k) ((hxl (xs.take k)).map (Value.int .u8))) (fun _ i _ => n - (intOf i).toNat)
    case atStart => exact ⟨0, Nat.zero_le _, rfl, hb, by simpa [hxl] using hown⟩
    case round =>
      clear hb hown
      obtain ⟨k, hk, rfl, hb, hown⟩ := hrel
      by_cases hlt : k < n
      · have k1 : (k : Int) < (n : Int) := by omega
        have k0 : (0 : Int) ≤ (k : Int) := by omega
        obtain ⟨b, o, rfl, hc⟩ := (hAA.out.up hb) k (by rw [hll.out]; exact hlt)
        have hxk : xs.take (k + 1) = xs.take k ++ [xs.getD k 0] := by
          rw [List.take_succ_eq_append_getElem (by rw [hll.out]; exact hlt)]
          simp [hll.out, hlt]
        have hz : 0 ≤ xs.getD k 0 ∧ xs.getD k 0 < 256 := hxx.out _ (by
          have : k < xs.length := by rw [hll.out]; exact hlt
          simp [this])
        generalize xs.getD k 0 = z at *
        have z0 := hz.1
        have z1 := hz.2
        have q0 : 0 ≤ z / 16 := by omega
        have q1 : z / 16 < 16 := by omega
        have r0 : 0 ≤ z % 16 := by omega
        have r1 : z % 16 < 16 := by omega
        have ha15 := and15 z0 z1
        have hi1 := fun w => digit_at w q0 q1
        have hi2 := fun w => digit_at w r0 r1
        go_upto_region 7 with (fail)
        refine seg_start 8 (by kernel_rfl) (by decide) ?_
        intro v0 hv
        replace hb := below_next hb hb.size hv
        replace hown := ownsn_up' hown hv
        clear hv
        refine seg_batch 1 [0, 1, 2, 3, 4, 5, 6] (by kernel_rfl) rfl (by kernel_rfl) (by kernel_rfl) (by kernel_rfl) ?_
        apply Exists.intro
        refine ⟨fun ι _ φ hφ => ?_, fun v1 hv => ?_⟩
        · repeat (refine pick_step rfl ?_; go_big_quiet_step (fail))
          exact pick_end
        replace hb := below_next hb hb.size hv
        replace hown := ownsn_up' hown hv
        clear hv
        have hsn := Lib.hid (show (hxl (xs.take (k + 1))).map (Value.int .u8) = (hxl (xs.take k)).map (Value.int .u8) ++ [.int .u8 (dgt (z / 16)), .int .u8 (dgt (z % 16))] by rw [hxk, hxl_snoc]; simp)
        clear hxk ha15 hi1 hi2
        generalize dgt (z / 16) = d1 at *
        generalize dgt (z % 16) = d2 at *
        refine seg_one 7 _ (by decide) rfl (by kernel_rfl) ?_
        intro v2 K hv hK
        replace hb := below_next hb hb.size hv
        replace hown := ownsn_up' hown hv
        clear hv
        replace hK := Lib.hid hK
        go_simp
        refine hK.out _ _ ((Below.refl _ _).alloc (Nat.le_refl _) _) ?_
        clear hK
        have hnews := Lib.hid (news_two (W := v2) (u := .int .u8 d1) (v := .int .u8 d2) (t := 5) rfl)
        have hv := (Below.refl v2.heap.size v2).alloc (Nat.le_refl _) (.cells #[.int .u8 d1, .int .u8 d2] 5)
        replace hb := below_next hb hb.size hv
        replace hown := ownsn_up' hown hv
        clear hv
        generalize v2.alloc (.cells #[.int .u8 d1, .int .u8 d2] 5) = v3 at *
        generalize v2.heap.size = gz at *
        refine seg_tail (by kernel_rfl) ?_
        intro v4 hv
        have hnews4 := Lib.hid (fun j u h => (hv.cell (World.block_lt_of_cell? _ _ (hnews.out j u h))).trans (hnews.out j u h))
        replace hb := below_next hb hb.size hv
        replace hown := ownsn_up' hown hv
        clear hv hnews
        have t1 : 2 * k + 2 ≤ maxLen := by unfold maxLen; omega
        have t2 : (2 * k + 2) * 1 ≤ 140737488355328 := by omega
        have t4 : ∀ u ∈ [Value.int .u8 d1, Value.int .u8 d2], u.oneCell' = true := by simp [Value.oneCell']
        have hBs := hb.size
        replace hown := Lib.hid hown
        replace hb := Lib.hid hb
        simp only [List.drop_succ_cons, List.drop_zero]
        go_wp2_with (at_builtin; refine wpList_append_own _ rfl _ _ 40 rfl w.heap.size 5 i0 (.int .u8 0) 1 1 Tryd.underlying40 hinf.out hz0 hz1 hz2 rfl (by decide) _ _ _ rfl hown.out ⟨gz, 0, none⟩ 2 2 [.int .u8 d1, .int .u8 d2] rfl rfl hnews4.out t4 t1 t2 hBs ?_; intro v5 w7 hown7 hg7 _; have hb7 := hb.out.grown hg7 hBs (fun k hk => (hown.out.lt k hk).1); clear hg7)
        refine calm_normal ?_
        go_wp2
        refine ⟨⟨k + 1, by omega, by go_num, hb7, ?_⟩, by simp [intOf]; omega⟩
        rw [hsn.out]
        exact hown7
      · obtain rfl : n = k := by omega
        have k1 : ¬ (n : Int) < (n : Int) := by omega
        rw [List.take_of_length_le (Nat.le_of_eq hll.out)] at hown
        have hcv := ownsRow_string (P := Tryd.prog) hown 40 5 9 Tryd.underlying40 Tryd.underlying5 Tryd.underlying9
        have hne : xs ≠ [] := fun e => by have := hll.out; rw [e] at this; exact hn0 this.symm
        have hh := Lib.hid (show hexs xs = strOfNums (hxl xs) by unfold hexs; rw [if_neg hne])
        generalize strOfNums (hxl xs) = S at *
        clear hown
        go_wp2
        go_ret
        exact ⟨by rw [hh.out]; rfl, hb⟩
end Go.Proofs.YtmnnfecipkdgfaaDoor
