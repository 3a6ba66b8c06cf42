/-
  CircuitEncodes: what both Encodes answer, of any circuit and any numbers; three circuits with numbers in a row.
-/
import Derived.Test.YtgdokfchfgnbbaaCkA
import Derived.Test.YtgdokfchfgnbbaaCjL
namespace Go.Proofs.Ytgdokfchfgnbbaa
open Go.RowKit Flow F
set_option linter.unusedVariables false
set_option linter.unusedSimpArgs false
attribute [local go_sem] eql_elem

theorem encE_good {x : Ci} {N : Nat} {zs : List Int} (h : encE x N zs = 0) : x.Good ∧ N = x.measuredN ∧ fitsB x zs = true := by
  unfold encE at h
  by_cases h0 : x.code = 0
  · rw [if_pos h0] at h
    by_cases hN : N = x.measuredN
    · rw [if_pos hN] at h
      by_cases hf : fitsB x zs = true
      · exact ⟨Ci.good h0, hN, hf⟩
      · rw [if_neg hf] at h; omega
    · rw [if_neg hN] at h; omega
  · rw [if_neg h0] at h; exact absurd h h0
theorem measured_pos {x : Ci} (h : x.Good) : 1 ≤ x.measuredN := by
  unfold Ci.measuredN Ci.outN
  have := h.fits.l
  have := h.fits.k1
  split
  · omega
  · split <;> omega
/-- Both Encodes, where numbers may not be measured. -/
theorem enc_bad (x : Ci) (zs : List Int) (A : Option Addr) (N cp : Nat) (hl : zs.length = N) (hm : N ≤ maxLen) (hz : WordsOK zs) (E : Int) (hE : encE x N zs = E) (hE0 : E ≠ 0) (w : World) (hA : WordsAt w A zs) :
    Calls Try.prog 33 #[cvl x, .slice A N cp] w (fun e w' => e = .returned (.tuple #[.slice none 0 0, .int .i64 E]) ∧ Below w.heap.size w w') := by
  subst hE
  unfold encE at *
  by_cases h0 : x.code = 0
  · rw [if_pos h0] at *
    have h := Ci.good h0
    by_cases hN : N = x.measuredN
    · rw [if_pos hN] at *
      by_cases hf : fitsB x zs = true
      · rw [if_pos hf] at hE0; exact absurd rfl hE0
      · rw [if_neg hf] at *
        exact enc_fits x zs A N cp h hN hl hm hz (by rw [hN]; exact measured_pos h) (by simpa using hf) w hA
    · rw [if_neg hN] at *
      exact enc_size x A N cp h hN w
  · rw [if_neg h0] at *
    exact enc_code x A N cp h0 w
theorem renc_bad (x : Ci) (zs : List Int) (A : Option Addr) (N cp : Nat) (hl : zs.length = N) (hz : WordsOK zs) (E : Int) (hE : encE x N zs = E) (hE0 : E ≠ 0) (w : World) (hA : WordsAt w A zs) :
    Calls Try.prog 34 #[rvl x, .slice A N cp] w (fun e w' => e = .returned (.tuple #[.slice none 0 0, .int .i64 E]) ∧ Below w.heap.size w w') := by
  subst hE
  unfold encE at *
  by_cases h0 : x.code = 0
  · rw [if_pos h0] at *
    have h := Ci.good h0
    by_cases hN : N = x.measuredN
    · rw [if_pos hN] at *
      by_cases hf : fitsB x zs = true
      · rw [if_pos hf] at hE0; exact absurd rfl hE0
      · rw [if_neg hf] at *
        refine (renc_ok x h zs A N cp hl hN hz w hA).mono fun e w' hr => ?_
        rcases hr with ⟨hB, _⟩ | ⟨_, hb⟩
        · exact absurd hB hf
        · exact hb
    · rw [if_neg hN] at *
      exact renc_size x A N cp h hN w
  · rw [if_neg h0] at *
    exact renc_code x A N cp h0 w
theorem renc_good (x : Ci) (zs : List Int) (A : Option Addr) (N cp : Nat) (hl : zs.length = N) (hz : WordsOK zs) (hE : encE x N zs = 0) (w : World) (hA : WordsAt w A zs) :
    Calls Try.prog 34 #[rvl x, .slice A N cp] w (REncOut (encL x zs) w) := by
  obtain ⟨h, hN, hf⟩ := encE_good hE
  refine (renc_ok x h zs A N cp hl hN hz w hA).mono fun e w' hr => ?_
  rcases hr with ⟨_, hb⟩ | ⟨hB, _⟩
  · exact hb
  · rw [hf] at hB; cases hB
/-- Three circuits with numbers in a row. -/
def tcells (y : Ci) (A : Option Addr) (N cp : Nat) : List Value := ccells y ++ [.slice A N cp]
def Trip (w : World) (g : Nat) (c X : Ci) (A : Option Addr) (N cp : Nat) (A' : Option Addr) (N' cp' : Nat) : Prop := w.heap[g]? = some (.cells (tcells c A N cp ++ (tcells X A N cp ++ tcells X A' N' cp')).toArray 48 (0, 0))
theorem Trip.at_ {w : World} {g : Nat} {c X : Ci} {A A' : Option Addr} {N cp N' cp' : Nat} (h : Trip w g c X A N cp A' N' cp') (n : Nat) (hn : n < 3) :
    w.rangeAt g (n * 7) (tcells (if n = 0 then c else X) (if n = 2 then A' else A) (if n = 2 then N' else N) (if n = 2 then cp' else cp)) := fun j v hj => by
  have h' : w.heap[g]? = some (.cells (tcells c A N cp ++ (tcells X A N cp ++ tcells X A' N' cp')).toArray 48 (0, 0)) := h
  have hj7 : j < 7 := by have := (List.getElem?_eq_some_iff.1 hj).1; simpa [tcells, ccells] using this
  simp only [World.cell?, h']
  have hn2 : n = 0 ∨ n = 1 ∨ n = 2 := by omega
  rcases hn2 with rfl | rfl | rfl
  · rw [← hj, List.getElem?_toArray, List.getElem?_append_left (by simp [tcells, ccells]; omega)]
    simp
  · rw [← hj, List.getElem?_toArray, List.getElem?_append_right (by simp [tcells, ccells]), List.getElem?_append_left (by simp [tcells, ccells]; omega)]
    simp [tcells, ccells]
  · rw [← hj, List.getElem?_toArray, List.getElem?_append_right (by simp [tcells, ccells]; omega), List.getElem?_append_right (by simp [tcells, ccells]; omega)]
    simp only [tcells, ccells, List.length_append, List.length_cons, List.length_nil, if_pos, if_neg]
    rw [show 2 * 7 + j - (0 + 1 + 1 + 1 + 1 + 1 + 1 + (0 + 1)) - (0 + 1 + 1 + 1 + 1 + 1 + 1 + (0 + 1)) = j by omega]
    simp
theorem tcells_one (y : Ci) (A : Option Addr) (N cp : Nat) : ∀ u ∈ tcells y A N cp, u.oneCell' = true := fun u hu => by
  unfold tcells at hu
  rcases List.mem_append.1 hu with h | h
  · exact ccells_one y u h
  · rw [List.mem_singleton.1 h]; rfl
theorem info_entry : ((Try.prog).info? 48).map (·.size) = some 7 := by kernel_rfl
def zero7 : List Value := [.int .u8 0, .int .u8 0, .int .i64 0, .int .i64 0, .int .i64 0, .int .i64 0, .slice none 0 0]
theorem blk7 {w : World} {p : Nat} {y : Ci} {A : Option Addr} {N cp : Nat} {t : TypeId} {z : Nat × Nat} (h : w.heap[p]? = some (.cells (tcells y A N cp).toArray t z)) :
    w.cell? ⟨p, 0, none⟩ = some (.int .u8 y.k) ∧ w.cell? ⟨p, 1, none⟩ = some (.int .u8 y.f) ∧ w.cell? ⟨p, 2, none⟩ = some (.int .i64 y.b) ∧ w.cell? ⟨p, 3, none⟩ = some (.int .i64 y.l) ∧ w.cell? ⟨p, 4, none⟩ = some (.int .i64 y.w) ∧ w.cell? ⟨p, 5, none⟩ = some (.int .i64 y.c) ∧ w.cell? ⟨p, 6, none⟩ = some (.slice A N cp) := by
  refine ⟨?_, ?_, ?_, ?_, ?_, ?_, ?_⟩ <;> simp [World.cell?, h, tcells, ccells]
end Go.Proofs.Ytgdokfchfgnbbaa
