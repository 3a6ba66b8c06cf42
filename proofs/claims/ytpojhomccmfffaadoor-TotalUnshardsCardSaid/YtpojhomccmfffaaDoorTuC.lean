/-
  Lists of numbers as an argument.
-/
import Derived.Test.YtpojhomccmfffaaDoorTuB
import Derived.Test.YtpojhomccmfffaaDoorTaG
namespace Go.Proofs.YtpojhomccmfffaaDoor
open Go.RowKit Go.WideShapes Go.ChangeShapes F Flow
set_option linter.unusedVariables false

/-- A list of numbers, somewhere. -/
structure Wl where
  A : Option Addr
  xs : List Int
  c : Nat
structure WlOK (w : World) (m : Wl) : Prop where
  at' : WordsAt w m.A m.xs
  ok : WordsOK m.xs
  len : m.xs.length ≤ maxLen
theorem words_upU {w w' : World} {A : Option Addr} {zs : List Int} (h : WordsAt w A zs) (hb : Below w.heap.size w w') : WordsAt w' A zs := fun k hk => by
  obtain ⟨b, o, e, hc⟩ := h k hk
  exact ⟨b, o, e, (hb.cell (World.block_lt_of_cell? _ _ hc)).trans hc⟩
theorem WlOK.up {w w' : World} {m : Wl} (h : WlOK w m) (hb : Below w.heap.size w w') : WlOK w' m := ⟨words_upU h.at' hb, h.ok, h.len⟩
def MsAt (w : World) (A : Option Addr) (n : Nat) (ms : Nat → Wl) : Prop := ∀ k, k < n → ∃ b o, A = some ⟨b, o, none⟩ ∧ w.cell? ⟨b, o + k, none⟩ = some (.slice (ms k).A (ms k).xs.length (ms k).c)
theorem MsAt.up {w w' : World} {A : Option Addr} {n : Nat} {ms : Nat → Wl} (h : MsAt w A n ms) (hb : Below w.heap.size w w') : MsAt w' A n ms := fun k hk => by
  obtain ⟨b, o, e, hc⟩ := h k hk
  exact ⟨b, o, e, (hb.cell (World.block_lt_of_cell? _ _ hc)).trans hc⟩
theorem cells_wordU : (Tryd.prog).cellsOf 63 = 1 := by kernel_rfl
set_option maxRecDepth 20000 in
theorem wl_of {H : Type} {enc : TypeId × Value → H} {w : World} {base : Nat} {spare : Nat → Bool} {held : Bool} {fuel : Nat} {cs : List Value} {x : DataW H × List MemPlace}
    (h : DataW.trod enc Tryd.prog w base spare held fuel 53 cs = some x) : ∃ m : Wl, cs = [.slice m.A m.xs.length m.c] ∧ WlOK w m := by
  rcases Go.Deep.open_slice Tryd.underlying53 h with ⟨hc, _⟩ | ⟨a, len, cap, m, n, D, Pl, hcs, hb, hl, hm, hmm, hx, hel⟩
  · exact ⟨⟨none, [], 0⟩, hc, fun k hk => absurd hk (Nat.not_lt_zero _), fun x hx => (by cases hx), Nat.zero_le _⟩
  · skip
    have hlm : len ≤ m := by rw [hmm]; split <;> omega
    have key : ∀ i, i < len → ∃ x : Int, (0 ≤ x ∧ x < 18446744073709551616) ∧ w.cell? (a.add i) = some (.int .u64 x) := by
      intro i hil
      obtain ⟨cs', hc, ht⟩ := hel i (by omega)
      rw [cells_wordU] at hc
      obtain ⟨x0, e0, _, w0⟩ := DataW.trod_int Tryd.underlying63 ht
      subst e0
      obtain ⟨_, _, hat⟩ := World.cells?_some hc
      have g0 := hat 0 (by omega)
      rw [Go.Deep.add_add, Nat.mul_one, Nat.add_zero] at g0
      refine ⟨x0, ?_, g0⟩
      simp [Lit.wf, IntKind.min, IntKind.max, IntKind.signed, IntKind.bits] at w0
      omega
    obtain ⟨f, hf⟩ := Go.Deep.choose_lt key
    refine ⟨⟨some a, (List.range len).map f, cap⟩, by simpa using hcs, fun k hk => ?_, fun x hx => ?_, ?_⟩
    · have hk' : k < len := by simpa using hk
      obtain ⟨_, g0⟩ := hf k hk'
      have hs : a.spot = none := by
        have := World.cell?_spot (hf 0 (by omega)).2
        simpa [Addr.add] using this
      obtain ⟨b, o, sp⟩ := a
      simp only at hs
      subst hs
      rw [Addr.add_mid] at g0
      have e : ((List.range len).map f).getD k 0 = f k := by simp [hk']
      show ∃ b' o', _ ∧ w.cell? ⟨b', o' + k, none⟩ = some (.int .u64 (((List.range len).map f).getD k 0))
      rw [e]
      exact ⟨b, o, rfl, g0⟩
    · obtain ⟨i, him, rfl⟩ := List.mem_map.1 hx
      exact (hf i (List.mem_range.1 him)).1
    · have : len ≤ maxLen := by omega
      simpa using this
set_option maxRecDepth 100000 in
theorem open_wlists {H : Type} {enc : TypeId × Value → H} {w : World} {base : Nat} {spare : Nat → Bool} {held : Bool} {v : Value} {d : DataW H} {p : List MemPlace} {r : Reach} {b0 : Nat}
    (hv : Value.okWide Tryd.prog w r b0 50 v) (h : DataW.Trod enc Tryd.prog w base spare held 50 v d p) :
    ∃ (A : Option Addr) (n c : Nat) (ms : Nat → Wl), v = .slice A n c ∧ n ≤ maxLen ∧ MsAt w A n ms ∧ ∀ k, WlOK w (ms k) := by
  obtain ⟨A, n, c, rfl⟩ := okWide_slice Tryd.underlying50 hv
  obtain ⟨xs, hxl, hnc, hcm, hnil, hat, hall⟩ := open_structs (N := 1) (by decide) Tryd.underlying50 (by kernel_rfl) (fun cs => ∃ m : Wl, cs = [.slice m.A m.xs.length m.c] ∧ WlOK w m) (fun n cs x hx => wl_of hx) h
  have key : ∀ k, ∃ q : Wl, (k < n → xs.getD k [] = [.slice q.A q.xs.length q.c]) ∧ WlOK w q := fun k => by
    by_cases hk : k < n
    · have hm : xs.getD k [] ∈ xs := by
        rw [List.getD_eq_getElem?_getD, List.getElem?_eq_getElem (by omega)]
        exact List.getElem_mem (by omega)
      obtain ⟨⟨m, e, ho⟩, _⟩ := hall _ hm
      exact ⟨m, fun _ => e, ho⟩
    · exact ⟨⟨none, [], 0⟩, fun h => absurd h hk, fun k hk => absurd hk (Nat.not_lt_zero _), fun x hx => (by cases hx), Nat.zero_le _⟩
  obtain ⟨F, hF⟩ : ∃ F : Nat → Wl, ∀ k, (k < n → xs.getD k [] = [.slice (F k).A (F k).xs.length (F k).c]) ∧ WlOK w (F k) := ⟨fun k => Classical.choose (key k), fun k => Classical.choose_spec (key k)⟩
  refine ⟨A, n, c, F, rfl, by omega, fun k hk => ?_, fun k => (hF k).2⟩
  obtain ⟨b, o, e, hr⟩ := hat k hk
  rw [(hF k).1 hk] at hr
  have := hr 0 _ rfl
  rw [Nat.mul_one, Nat.add_zero] at this
  exact ⟨b, o, e, this⟩
end Go.Proofs.YtpojhomccmfffaaDoor
