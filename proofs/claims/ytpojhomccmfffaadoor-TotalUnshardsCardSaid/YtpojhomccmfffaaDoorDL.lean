import Derived.Test.YtpojhomccmfffaaDoorCjU
import Derived.Test.YtpojhomccmfffaaDoorDG
import Derived.Test.YtpojhomccmfffaaDoorDI
/-
  Mathematics of what is measured: a vector of it is right, and what of it is summed is what was measured.
-/
namespace Go.Proofs.YtpojhomccmfffaaDoor
open Go.RowKit F
set_option linter.unusedVariables false

theorem bitsB_bitsL (n m : Nat) : bitsB (bitsL n m) = true := by
  unfold bitsB bitsL
  rw [List.all_eq_true]
  intro x hx
  obtain ⟨i, _, rfl⟩ := List.mem_map.1 hx
  have := bitN_lt n i
  simp
  omega
theorem said_bitsL : ∀ (m n : Nat), said (bitsL n m) = n % 2 ^ m
  | 0, n => by simp [bitsL, said, Nat.mod_one]
  | m + 1, n => by
    have h : bitsL n (m + 1) = (bitN n 0 : Int) :: bitsL (n / 2) m := by
      unfold bitsL
      rw [List.range_succ_eq_map, List.map_cons, List.map_map]
      congr 1
      refine List.map_congr_left fun i _ => ?_
      show ((n / 2 ^ (i + 1) % 2 : Nat) : Int) = ((n / 2 / 2 ^ i % 2 : Nat) : Int)
      rw [Nat.pow_succ, Nat.mul_comm, Nat.div_div_eq_div_mul]
    rw [h, said, said_bitsL m (n / 2), Int.toNat_natCast]
    show n / 2 ^ 0 % 2 + 2 * (n / 2 % 2 ^ m) = n % 2 ^ (m + 1)
    rw [Nat.pow_zero, Nat.div_one, Nat.pow_succ, Nat.mul_comm (2 ^ m) 2, Nat.mod_mul]
theorem ones_wsum : ∀ {zs : List Int}, (∀ z, z ∈ zs → 0 ≤ z ∧ z ≤ 1) → zs.length ≤ 100000 → wsum zs = (ones zs : Int) := by
  intro zs
  obtain ⟨n, hn⟩ : ∃ n, zs.length = n := ⟨_, rfl⟩
  induction n generalizing zs with
  | zero =>
    intro _ _
    obtain rfl : zs = [] := List.length_eq_zero_iff.1 hn
    rfl
  | succ n ih =>
    intro h hl
    obtain ⟨ys, x, rfl⟩ : ∃ ys x, zs = ys ++ [x] := by
      rcases zs.eq_nil_or_concat with rfl | ⟨ys, x, rfl⟩
      · simp at hn
      · exact ⟨ys, x, List.concat_eq_append⟩
    rw [List.length_append] at hn hl
    simp only [List.length_cons, List.length_nil] at hn hl
    have hx := h x (by simp)
    have hi := ih (zs := ys) (by omega) (fun z hz => h z (by simp [hz])) (by omega)
    have hb : bitsB ys = true := by
      unfold bitsB
      rw [List.all_eq_true]
      intro z hz
      have := h z (by simp [hz])
      simp
      omega
    have hle := ones_le hb
    rw [wsum_snoc, hi, ones_append]
    have e : ones [x] = x.toNat := by simp [ones]
    rw [e]
    omega
theorem bitsB_of {zs : List Int} (h : ∀ z, z ∈ zs → 0 ≤ z ∧ z ≤ 1) : bitsB zs = true := by
  unfold bitsB
  rw [List.all_eq_true]
  intro z hz
  have := h z hz
  simp
  omega
theorem bitsB_flat (b : Nat) : ∀ zs : List Int, bitsB (zs.flatMap (fun z => bitsL z.toNat b)) = true
  | [] => rfl
  | z :: zs => by rw [List.flatMap_cons, bitsB_append, bitsB_bitsL, bitsB_flat b zs]; rfl
def unit (l z : Nat) : List Int := (List.replicate l (0 : Int)).set z 1
theorem unit_at {l z i : Nat} (hz : z < l) (hi : i < l) : (unit l z).getD i 0 = if i = z then 1 else 0 := by
  unfold unit
  rw [List.getD_eq_getElem?_getD, List.getElem?_set]
  by_cases h : z = i
  · subst h
    simp [hz]
  · rw [if_neg h, if_neg (fun e => h e.symm)]
    simp [hi]
theorem bitsB_unit {l z : Nat} : bitsB (unit l z) = true := by
  unfold bitsB unit
  rw [List.all_eq_true]
  intro x hx
  rcases List.mem_or_eq_of_mem_set hx with h | h
  · rw [(List.mem_replicate.1 h).2]; rfl
  · rw [h]; rfl
theorem ones_unit : ∀ {l z : Nat}, z < l → ones (unit l z) = 1
  | 0, _, h => absurd h (Nat.not_lt_zero _)
  | l + 1, 0, _ => by
    have : ones (List.replicate l (0 : Int)) = 0 := by
      unfold ones
      rw [List.map_replicate]
      simp
    unfold ones at this
    simp [unit, ones, List.replicate_succ]
  | l + 1, z + 1, h => by
    have hi := ones_unit (l := l) (z := z) (by omega)
    unfold unit ones at *
    rw [List.replicate_succ, List.set_cons_succ, List.map_cons, List.sum_cons, hi]
    simp
/-- Where numbers may be measured. -/
theorem fits_all {x : Ci} {zs : List Int} (h4 : x.k ≠ 4) (hf : fitsB x zs = true) : ∀ z, z ∈ zs → z ≤ (x.mostN : Int) := by
  unfold fitsB at hf
  rw [if_neg h4] at hf
  simp only [Bool.and_eq_true, List.all_eq_true, decide_eq_true_eq] at hf
  exact hf.1
theorem enc_len {x : Ci} (h : x.Good) {zs : List Int} (hN : zs.length = x.measuredN) : (encL x zs).length = x.inN := by
  have hk := h.fits.k1
  have hk5 := h.fits.k5
  unfold encL
  unfold Ci.measuredN Ci.outN at hN
  unfold Ci.inN
  by_cases h1 : x.k = 1
  · rw [if_neg (by omega), if_neg (by omega), if_neg (by omega), if_pos h1]
    rw [if_neg (by omega), if_pos (.inl h1)] at hN
    exact hN
  · by_cases h23 : x.k = 2 ∨ x.k = 3
    · rw [if_pos h23, flat_len, if_neg h1]
      by_cases h2 : x.k = 2
      · rw [if_neg (by omega), if_pos (.inr h2)] at hN
        rw [if_pos h2, hN, Nat.one_mul]
      · rw [if_neg (by omega), if_neg (by omega)] at hN
        rw [if_neg h2, if_pos (by omega), hN, Nat.mul_comm]
    · rw [if_neg h23, if_neg h1, if_neg (show ¬ x.k = 2 by omega), if_neg (show ¬ x.k = 3 by omega)]
      by_cases h4 : x.k = 4
      · rw [if_pos h4, if_pos h4]; simp
      · rw [if_neg h4, if_pos (show x.k = 5 by omega), if_neg h4, List.length_append, bitsL_length]
        rw [if_neg h4, if_neg (by omega)] at hN
        rw [hN]
theorem enc_bitsB {x : Ci} (h : x.Good) {zs : List Int} (hz : WordsOK zs) (hf : fitsB x zs = true) : bitsB (encL x zs) = true := by
  have hk := h.fits.k1
  have hk5 := h.fits.k5
  unfold encL
  by_cases h23 : x.k = 2 ∨ x.k = 3
  · rw [if_pos h23]; exact bitsB_flat _ _
  · rw [if_neg h23]
    by_cases h4 : x.k = 4
    · rw [if_pos h4]; exact bitsB_unit
    · rw [if_neg h4]
      have hle := fits_le h4 h23 hf
      have hb : bitsB zs = true := bitsB_of fun z hz' => ⟨(hz z hz').1, hle z hz'⟩
      by_cases h5 : x.k = 5
      · rw [if_pos h5, bitsB_append, hb, bitsB_bitsL]; rfl
      · rw [if_neg h5]; exact hb
theorem enc_valid {x : Ci} (h : x.Good) {zs : List Int} (hz : WordsOK zs) (hN : zs.length = x.measuredN) (hf : fitsB x zs = true) : validB x (encL x zs) = true := by
  have hk := h.fits.k1
  have hk5 := h.fits.k5
  unfold validB
  rw [enc_bitsB h hz hf, Bool.true_and]
  unfold Ci.measuredN at hN
  by_cases h4 : x.k = 4
  · rw [if_pos h4]
    rw [if_pos h4] at hN
    unfold encL
    rw [if_neg (by omega), if_pos h4]
    have hlt : zs.getD 0 0 < x.l := by unfold fitsB at hf; rw [if_pos h4] at hf; simpa using hf
    have h0 := hz.at_ (k := 0) (by omega)
    rw [decide_eq_true_eq]
    exact ones_unit (by omega)
  · rw [if_neg h4]
    by_cases h5 : x.k = 5
    · rw [if_pos h5]
      rw [if_neg h4] at hN
      unfold Ci.outN at hN
      rw [if_neg (by omega)] at hN
      unfold encL
      rw [if_neg (by omega), if_neg h4, if_pos h5]
      rw [List.take_left' hN, List.drop_left' hN, said_bitsL]
      have hle := fits_le h4 (by omega) hf
      have hW := h.fits.w h5
      have hL := h.fits.l (by omega)
      have hs := fits_sum h5 hf
      have ho := ones_wsum (zs := zs) (fun z hz' => ⟨(hz z hz').1, hle z hz'⟩) (by omega)
      rw [ho, Int.toNat_natCast]
      have hbl := bl_lt (W := x.w.toNat) (by omega)
      unfold offN
      rw [decide_eq_true_eq, Nat.mod_eq_of_lt (by omega)]
    · rw [if_neg h5]
theorem flat_piece (b : Nat) : ∀ (zs : List Int) (i : Nat), i < zs.length → piece (zs.flatMap (fun z => bitsL z.toNat b)) b i = bitsL (zs.getD i 0).toNat b
  | [], i, h => absurd h (Nat.not_lt_zero _)
  | z :: zs, 0, _ => by
    unfold piece
    rw [Nat.zero_mul, List.drop_zero, List.flatMap_cons, List.take_left' (by rw [bitsL_length])]
    rfl
  | z :: zs, i + 1, h => by
    have hi := flat_piece b zs i (by simpa using h)
    unfold piece at *
    rw [List.flatMap_cons, Nat.succ_mul, Nat.add_comm (i * b) b, ← List.drop_drop, List.drop_left' (by rw [bitsL_length]), hi]
    rfl
/-- What is summed of what is measured. -/
def sumN (x : Ci) (zs : List Int) (i : Nat) : Int := if x.k = 4 then (if (i : Int) = zs.getD 0 0 then 1 else 0) else zs.getD i 0
theorem enc_trunc {x : Ci} (h : x.Good) {zs : List Int} (hz : WordsOK zs) (hN : zs.length = x.measuredN) (hf : fitsB x zs = true) {i : Nat} (hi : i < x.outN) : truncF x (encL x zs) i = sumN x zs i := by
  have hk := h.fits.k1
  have hk5 := h.fits.k5
  have hM := M_big x.f
  unfold Ci.measuredN at hN
  unfold truncF sumN
  by_cases h23 : x.k = 2 ∨ x.k = 3
  · rw [if_pos h23, if_neg (by omega)]
    rw [if_neg (by omega)] at hN
    have hb := h.fits.b h23
    unfold encL
    rw [if_pos h23, flat_piece _ _ _ (by omega), numF_bits _ (bitsB_bitsL _ _) (by rw [bitsL_length]; omega), said_bitsL]
    have hz0 := hz.at_ (k := i) (by omega)
    have hle := fits_all (by omega) hf (zs.getD i 0) (by rw [List.getD_eq_getElem?_getD, List.getElem?_eq_getElem (by omega)]; exact List.getElem_mem _)
    unfold Ci.mostN at hle
    rw [if_pos h23] at hle
    have hp := Nat.one_le_two_pow (n := x.b.toNat)
    rw [Nat.mod_eq_of_lt (by omega)]
    omega
  · rw [if_neg h23]
    by_cases h4 : x.k = 4
    · rw [if_pos h4]
      rw [if_pos h4] at hN
      have hlt : zs.getD 0 0 < x.l := by unfold fitsB at hf; rw [if_pos h4] at hf; simpa using hf
      have h0 := hz.at_ (k := 0) (by omega)
      unfold Ci.outN at hi
      rw [if_neg (by omega)] at hi
      have e : encL x zs = unit x.l.toNat (zs.getD 0 0).toNat := by unfold encL unit; rw [if_neg h23, if_pos h4]
      rw [e, unit_at (by omega) hi]
      by_cases hc : (i : Int) = zs.getD 0 0
      · rw [if_pos hc, if_pos (by omega), add_zero_in (by omega) (by omega)]
      · rw [if_neg hc, if_neg (by omega), add_zero_in (by omega) (by omega)]
    · rw [if_neg h4]
      rw [if_neg h4] at hN
      have hle := fits_le h4 h23 hf (zs.getD i 0) (by rw [List.getD_eq_getElem?_getD, List.getElem?_eq_getElem (by omega)]; exact List.getElem_mem _)
      have hz0 := hz.at_ (k := i) (by omega)
      have e : (encL x zs).getD i 0 = zs.getD i 0 := by
        unfold encL
        rw [if_neg h23, if_neg h4]
        split
        · rw [List.getD_eq_getElem?_getD, List.getD_eq_getElem?_getD, List.getElem?_append_left (by omega)]
        · rfl
      rw [e, add_zero_in (by omega) (by omega)]
end Go.Proofs.YtpojhomccmfffaaDoor

/-
  What is measured as a vector, as the document says.
-/
namespace Go.Proofs.YtpojhomccmfffaaDoor
open Go.RowKit Flow F
set_option linter.unusedVariables false
set_option linter.unusedSimpArgs false

def REncOut (L : List Int) (w : World) (e : Ending) (w' : World) : Prop := ∃ A c, e = .returned (.tuple #[.slice A L.length c, .int .i64 0]) ∧ Below w.heap.size w w' ∧ WordsAt w' A L
def REncBad (C : Int) (w : World) (e : Ending) (w' : World) : Prop := e = .returned (.tuple #[.slice none 0 0, .int .i64 C]) ∧ Below w.heap.size w w'
def wcells (zs : List Int) : List Value := zs.map (Value.int .u64)
theorem wcells_append (a b : List Int) : wcells (a ++ b) = wcells a ++ wcells b := by unfold wcells; rw [List.map_append]
theorem owns_words {w : World} {base : Nat} {v : Value} {n : Nat} {L : List Int} (h : w.ownsRow base 63 1 v n (wcells L)) : ∃ a c, v = .slice a L.length c ∧ WordsAt w a L := by
  have h1 : L.length = n := by have := h.1; unfold wcells at this; rw [List.length_map] at this; omega
  subst h1
  rcases h.2 with ⟨rfl, h0⟩ | ⟨g, cap, cur, rfl, _, _, _, _, _, _⟩
  · exact ⟨none, 0, by rw [h0], fun k hk => by omega⟩
  · refine ⟨_, cap, rfl, fun k hk => ⟨g, 0, rfl, ?_⟩⟩
    have := h.cells (g := g) rfl k (.int .u64 (L.getD k 0)) (by unfold wcells; simp [hk])
    rw [add_two rfl] at this
    exact this
theorem news_word {W : World} {u : Value} {t : TypeId} {p : Nat} (hp : p = W.heap.size) : ∀ (j : Nat) (z : Value), [u][j]? = some z → (W.alloc (.cells #[u] t)).cell? (Addr.add ⟨p, 0, none⟩ j) = some z := by
  intro j z hj
  subst hp
  have h0 : j = 0 := by have := (List.getElem?_eq_some_iff.1 hj).1; simp at this; omega
  subst h0
  rw [add_two rfl]
  have hz : u = z := by simpa using hj
  subst hz
  have h := alloc_at (w := W) (o := .cells #[u] t) rfl
  simp only [World.cell?, h]
  rfl
end Go.Proofs.YtpojhomccmfffaaDoor

/-
  What is measured as a vector, as the document says: kind by kind.
-/
namespace Go.Proofs.YtpojhomccmfffaaDoor
open Go.RowKit Flow F
set_option linter.unusedVariables false
set_option linter.unusedSimpArgs false

/-- What the document's Encode answers. -/
def RencR (B : Bool) (L : List Int) (w : World) (e : Ending) (w' : World) : Prop := (B = true ∧ REncOut L w e w') ∨ (B = false ∧ REncBad 6 w e w')
theorem RencR.good {B : Bool} {L : List Int} {w : World} {e : Ending} {w' : World} (hB : B = true) (h : REncOut L w e w') : RencR B L w e w' := .inl ⟨hB, h⟩
theorem RencR.bad {B : Bool} {L : List Int} {w : World} {e : Ending} {w' : World} (hB : B = false) (h : REncBad 6 w e w') : RencR B L w e w' := .inr ⟨hB, h⟩
theorem info_word : (Tryd.prog.info? 63).map (fun i => (i.zero, i.size, i.bytes)) = some (some (.int .u64 0), 1, 8) := by kernel_rfl
theorem fits_three {x : Ci} {zs : List Int} (h23 : x.k = 2 ∨ x.k = 3) : fitsB x zs = allLe (x.mostN : Int) zs := by
  unfold fitsB allLe
  rw [if_neg (by omega)]
  have : x.k ≠ 5 := by omega
  simp [this]
theorem flatw_snoc (b : Nat) {l : List Int} {k : Nat} (h : k < l.length) : (l.take (k + 1)).flatMap (fun z => bitsL z.toNat b) = (l.take k).flatMap (fun z => bitsL z.toNat b) ++ bitsL (l.getD k 0).toNat b := by
  rw [take_snocD h, List.flatMap_append]
  simp
end Go.Proofs.YtpojhomccmfffaaDoor
