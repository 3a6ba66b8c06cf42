/-
  ClientNone: what its walk wants.
-/
import Derived.Test.YtehjfilnfpkjkaaUpI
import Derived.Test.YtehjfilnfpkjkaaBytesArg
namespace Go.Proofs.Ytehjfilnfpkjkaa
open Go.RowKit Go.WideShapes Go.ChangeShapes Flow
set_option linter.unusedVariables false
set_option linter.unusedSimpArgs false

theorem info_u8z : (Try.prog.info? 5).map (fun i => (i.zero, i.size, i.bytes)) = some (some (.int .u8 0), 1, 1) := by kernel_rfl
theorem info_partsJ {P : Program} {t : TypeId} {z : Value} {s b : Nat} (h : (P.info? t).map (fun i => (i.zero, i.size, i.bytes)) = some (some z, s, b)) : ∃ i, P.info? t = some i ∧ i.zero = some z ∧ i.size = s ∧ i.bytes = b := by
  cases hi : P.info? t with
  | none => rw [hi] at h; cases h
  | some i =>
    rw [hi] at h
    simp only [Option.map_some, Option.some.injEq, Prod.mk.injEq] at h
    exact ⟨i, rfl, h.1, h.2.1, h.2.2⟩
theorem make_text (k : Nat) (hk : k ≤ 70000) (w : World) : (Instr.makeSlice 28 (.int .i64 (k : Int)) (.int .i64 (k : Int))).run Try.prog w = .ok (.slice (some ⟨w.heap.size, 0, none⟩) k k) (w.alloc (.cells (Array.replicate k (Value.int .u8 0)) 5)) := by
  obtain ⟨i0, h0, h1, h2, h3⟩ := info_partsJ info_u8z
  have hr := run_make (P := Try.prog) w 28 5 i0 _ Try.underlying28 h0 h1 .i64 .i64 k k (by omega) (by omega) (by rw [h3]; omega) (by omega)
  simp only [Int.toNat_natCast] at hr
  rw [h2] at hr
  have e : madeCells (Value.int .u8 0).cells (k * 1) = Array.replicate k (Value.int .u8 0) := by
    have := toList_madeCells_one (.int .u8 0) (k * 1)
    apply Array.toList_inj.1
    rw [show (Value.int .u8 0).cells = #[.int .u8 0] from rfl, this, Nat.mul_one]
    simp
  rw [e] at hr
  exact hr
theorem row_type {w : World} {B B' g n m c s s' : Nat} {t t' : TypeId} {v : Value} {xs ys : List Value} (h : w.ownsRow B t s (.slice (some ⟨g, 0, none⟩) n c) n xs) (h' : w.ownsRow B' t' s' v m ys) (ht : t ≠ t') : v.ownBlock ≠ some g := by
  intro e
  rcases h.2 with ⟨e2, _⟩ | ⟨g1, cap, cur, e2, _, hg, _⟩
  · cases e2
  · cases e2
    rcases h'.2 with ⟨e3, h0⟩ | ⟨g2, cap2, cur2, e3, _, hg2, _⟩
    · subst h0
      cases e3
      cases e
    · subst e3
      cases e
      rw [hg] at hg2
      cases hg2
      exact ht rfl
/-- A share's byte is changed. -/
theorem MgOk.setS {B : Nat} {w : World} {m : Mg} {id : List Int} {t : Int} {ps ss : List Int} {g k : Nat} (h : MgOk B w m id t ps ss) (hg : m.SA = some ⟨g, 0, none⟩) (z : Int) : MgOk B (w.setCell ⟨g, k, none⟩ (.int .u8 z)) m id t ps (ss.set k z) := by
  have hS := h.S
  rw [hg] at hS
  have hb : (Value.slice m.SA ss.length m.sc).ownBlock = some g := by rw [hg]; rfl
  have hr : m.val.ownBlock ≠ some g := fun e => row_type (g := m.g) h.row hS (by decide) (congrArg some (Option.some.inj e).symm)
  refine ⟨?_, ?_, ?_, ?_⟩
  · unfold Mg.ent
    rw [List.length_set]
    exact owns_otherU h.row hr
  · exact owns_otherU h.P (fun e => h.PS g e hb)
  · rw [List.length_set, List.map_set, hg]
    exact owns_setU hS
  · rw [List.length_set]
    exact h.PS
theorem okWide_structJ {P : Program} {w : World} {t : TypeId} {fs : Array Field} {r : Reach} {b0 : Nat} {v : Value} (ht : P.underlying t = some (.struct fs)) (h : Value.okWide P w r b0 t v) : ∃ cs : List Value, v = .agg cs.toArray := by
  simp only [Value.okWide, ht] at h
  obtain ⟨cs, h1, _⟩ := h
  exact ⟨cs.toList, h1⟩
theorem open_msg {H : Type} {enc : TypeId × Value → H} {w : World} {base : Nat} {spare : Nat → Bool} {held : Bool} {r : Reach} {b0 : Nat} {v : Value} {d : DataW H} {p : List MemPlace}
    (hv : Value.okWide Try.prog w r b0 27 v) (h : DataW.Trod enc Try.prog w base spare held 27 v d p) : ∃ (cs : List Value) (A : Option Addr) (n c : Nat), v = .agg cs.toArray ∧ cs.length = 22 ∧ cs[21]? = some (.slice A n c) := by
  obtain ⟨cs, rfl⟩ := okWide_structJ Try.underlying27 hv
  obtain ⟨fuel, hf⟩ := h
  obtain ⟨ys, n, _, _, hl, hyl, hf⟩ := DataW.trod_struct Try.underlying27 hf
  rw [show (Try.prog).cellsOf 27 = 22 by kernel_rfl] at hl
  have hcs : (Value.agg cs.toArray).cells.toList = cs := rfl
  try simp only [hcs] at hl hf
  have hyl : ys.length = 7 := hyl
  have g6 : DataW.trod enc Try.prog w base spare held n 25 ((cs.drop 21).take ((Try.prog).cellsOf 25)) = ys[6]? := hf 6 _ rfl
  rw [show (Try.prog).cellsOf 25 = 1 by kernel_rfl, List.getElem?_eq_getElem (by omega), List.drop_eq_getElem_cons (by omega : 21 < cs.length), List.take_succ_cons, List.take_zero] at g6
  rcases DataW.trod_slice Try.underlying25 g6 with ⟨e, _⟩ | ⟨a, len, cap, _, _, _, _, e, _⟩
  · exact ⟨cs, none, 0, 0, rfl, hl, by rw [List.getElem?_eq_getElem (by omega)]; exact congrArg some (List.cons.inj e).1⟩
  · exact ⟨cs, some a, len, cap, rfl, hl, by rw [List.getElem?_eq_getElem (by omega)]; exact congrArg some (List.cons.inj e).1⟩
end Go.Proofs.Ytehjfilnfpkjkaa
