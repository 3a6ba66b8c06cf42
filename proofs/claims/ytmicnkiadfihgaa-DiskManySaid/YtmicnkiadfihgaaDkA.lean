/-
  A disk of no file, of one: looked for.
-/
import Derived.Test.YtmicnkiadfihgaaUpA
import Derived.Maps.OwnSet
import Derived.Maps.OwnOps
import Derived.Maps.RangeWalk
import Derived.Maps.Views
namespace Go.Proofs.Ytmicnkiadfihgaa
open Go.RowKit Flow Go.Maps
set_option linter.unusedVariables false
set_option linter.unusedSimpArgs false

/-- How a map's value reads: as it is. -/
def RvK (v : Value) : Option (DataW Value × List MemPlace) := some (.held v, [])
def klitK (q : ByteArray) : Lit := .string q.data.toList
theorem keyed_strK : Keyed Try.prog 9 := string_keyed Try.underlying9
theorem klit_keyK (q : ByteArray) : WideAt.IsKeyLit (klitK q) := by unfold klitK; trivial
theorem zero_fileK (w : World) : (zeroValue 54).run Try.prog w = .ok (.pointer none) w := by kernel_rfl
/-- The name of the example. -/
def nmA : ByteArray := ⟨#[97]⟩
/-- A disk with no file. -/
structure Ds0 (d m n : Nat) (lim : Int) (D : DataW Value) (w : World) : Prop where
  kd : w.heap[d]? = some (.cells #[.map (some m), .int .i64 lim] 53 (0, 0))
  hm : w.ownsMap Try.prog 9 RvK m n D
  none : ∀ kl, Maps.has D kl = false
  sz : Maps.size D = 0
/-- A disk with one file. -/
structure Ds1 (B d m n f : Nat) (lim : Int) (D : DataW Value) (V : Value) (X : List Int) (S : Nat) (w : World) : Prop where
  kd : w.heap[d]? = some (.cells #[.map (some m), .int .i64 lim] 53 (0, 0))
  hm : w.ownsMap Try.prog 9 RvK m n D
  has : Maps.has D (klitK nmA) = true
  only : ∀ kl, Maps.has D kl = true → kl.sameKey (klitK nmA) = true
  sz : Maps.size D = 1
  atk : ∀ zd, D.atKey (klitK nmA) zd = .held (.pointer (some ⟨f, 0, none⟩))
  kf : w.heap[f]? = some (.cells #[V, .int .i64 (S : Int)] 56 (0, 0))
  row : w.ownsRow B 5 1 V X.length (X.map (Value.int .u8))
  lows : B ≤ d ∧ B ≤ m ∧ B ≤ f
theorem map_keepK {w w' : World} {m n : Nat} {D : DataW Value} (h : w.ownsMap Try.prog 9 RvK m n D) (hk : w'.heap[m]? = w.heap[m]?) : w'.ownsMap Try.prog 9 RvK m n D := by
  obtain ⟨es, clock, hb, rest⟩ := h
  exact ⟨es, clock, hk.trans hb, rest⟩
theorem map_ltK {w : World} {m n : Nat} {D : DataW Value} (h : w.ownsMap Try.prog 9 RvK m n D) : m < w.heap.size := by
  obtain ⟨es, clock, hb, rest⟩ := h
  exact lt_of_get hb
theorem Ds0.up {d m n : Nat} {lim : Int} {D : DataW Value} {w w' : World} (h : Ds0 d m n lim D w) (hv : Below w.heap.size w w') : Ds0 d m n lim D w' :=
  ⟨keeps hv h.kd, map_keepK h.hm (hv.block m (map_ltK h.hm)), h.none, h.sz⟩
theorem Ds1.up {B d m n f : Nat} {lim : Int} {D : DataW Value} {V : Value} {X : List Int} {S : Nat} {w w' : World} (h : Ds1 B d m n f lim D V X S w) (hv : Below w.heap.size w w') : Ds1 B d m n f lim D V X S w' :=
  ⟨keeps hv h.kd, map_keepK h.hm (hv.block m (map_ltK h.hm)), h.has, h.only, h.sz, h.atk, keeps hv h.kf, owns_upU h.row hv, h.lows⟩
theorem disk_cells {d m : Nat} {lim : Int} {w : World} (h : w.heap[d]? = some (.cells #[.map (some m), .int .i64 lim] 53 (0, 0))) : w.cell? ⟨d, 0, none⟩ = some (.map (some m)) ∧ w.cell? ⟨d, 1, none⟩ = some (.int .i64 lim) :=
  ⟨At0.of_block (cs := [.map (some m), .int .i64 lim]) h 0 _ rfl, At0.of_block (cs := [.map (some m), .int .i64 lim]) h 1 _ rfl⟩
theorem file_cells {f : Nat} {V : Value} {S : Int} {w : World} (h : w.heap[f]? = some (.cells #[V, .int .i64 S] 56 (0, 0))) : w.cell? ⟨f, 0, none⟩ = some V ∧ w.cell? ⟨f, 1, none⟩ = some (.int .i64 S) ∧ w.frozen? ⟨f, 0, none⟩ = false ∧ w.frozen? ⟨f, 1, none⟩ = false :=
  ⟨At0.of_block (cs := [V, .int .i64 S]) h 0 _ rfl, At0.of_block (cs := [V, .int .i64 S]) h 1 _ rfl, by simp [World.frozen?, h], by simp [World.frozen?, h]⟩
set_option maxRecDepth 20000 in
theorem find_0 (d m n : Nat) (lim : Int) (D : DataW Value) (s : ByteArray) (hs : s.size ≤ maxLen) (w : World) (h : Ds0 d m n lim D w) :
    Calls Try.prog 22 #[.pointer (some ⟨d, 0, none⟩), .string s] w fun e w' => e = .returned (.tuple #[.pointer none, .int .i64 19]) ∧ Below w.heap.size w w' := by
  obtain ⟨v, ps, hrun, hv⟩ := h.hm.look_ok keyed_strK Try.underlying51 (zero_fileK w) (R := RvK) (zd := .held (.pointer none)) (zp := []) rfl (Go.WideMaps.keyOf_string_mk Try.underlying9 hs)
  rw [h.none] at hrun
  obtain ⟨c0, c1⟩ := disk_cells h.kd
  clear h hv hs
  go_enter Try.func22, Try.ntmps22
  go_wp2
  refine bodyPost_ret (v := .tuple #[.pointer none, .int .i64 19]) (by simp [results, Try.results22, go_sem]) rfl ⟨rfl, Below.refl _ _⟩
set_option maxRecDepth 20000 in
theorem find_1 (B d m n f : Nat) (lim : Int) (D : DataW Value) (V : Value) (X : List Int) (S : Nat) (w : World) (h : Ds1 B d m n f lim D V X S w) :
    Calls Try.prog 22 #[.pointer (some ⟨d, 0, none⟩), .string nmA] w fun e w' => e = .returned (.tuple #[.pointer (some ⟨f, 0, none⟩), .int .i64 0]) ∧ Below w.heap.size w w' := by
  obtain ⟨v, ps, hrun, hv⟩ := h.hm.look_ok keyed_strK Try.underlying51 (zero_fileK w) (R := RvK) (zd := .held (.pointer none)) (zp := []) rfl (Go.WideMaps.keyOf_string_mk (s := nmA) Try.underlying9 (by decide))
  have hv' : (some (DataW.held v, ([] : List MemPlace))) = some (D.atKey (klitK nmA) (.held (.pointer none)), ps) := hv
  rw [h.atk] at hv'
  have hvf := congrArg Prod.fst (Option.some.inj hv')
  have hvv : v = .pointer (some ⟨f, 0, none⟩) := by injection hvf
  have hh : Maps.has D (.string nmA.data.toList) = true := h.has
  rw [hvv, hh] at hrun
  obtain ⟨c0, c1⟩ := disk_cells h.kd
  clear h hv hv' hvf hvv hh
  obtain ⟨s, hs⟩ : ∃ s, nmA = s := ⟨_, rfl⟩
  rw [hs] at hrun ⊢
  clear hs
  go_enter Try.func22, Try.ntmps22
  go_wp2
  refine bodyPost_ret (v := .tuple #[.pointer (some ⟨f, 0, none⟩), .int .i64 0]) (by simp [results, Try.results22, go_sem]) rfl ⟨rfl, Below.refl _ _⟩
end Go.Proofs.Ytmicnkiadfihgaa
