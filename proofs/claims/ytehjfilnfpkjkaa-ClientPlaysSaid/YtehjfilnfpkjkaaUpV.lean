/-
  A client: a tick, whatever was answered.
-/
import Derived.Test.YtehjfilnfpkjkaaUpS
import Derived.Test.YtehjfilnfpkjkaaUpT
namespace Go.Proofs.Ytehjfilnfpkjkaa
open Go.RowKit Flow
set_option linter.unusedVariables false
set_option linter.unusedSimpArgs false

/-- Which are still said. -/
def wantL (a0 a1 : Bool) : List Nat := (if a0 then [] else [0]) ++ (if a1 then [] else [1])
theorem wantL_le (a0 a1 : Bool) : (wantL a0 a1).length ≤ 2 ∧ ∀ k, k < (wantL a0 a1).length → (wantL a0 a1).getD k 0 = 0 ∨ (wantL a0 a1).getD k 0 = 1 := by
  cases a0 <;> cases a1
  · refine ⟨by decide, fun k hk => ?_⟩
    have hk2 : k < 2 := hk
    obtain rfl | rfl : k = 0 ∨ k = 1 := by omega
    · exact .inl rfl
    · exact .inr rfl
  · refine ⟨by decide, fun k hk => ?_⟩
    have hk2 : k < 1 := hk
    obtain rfl : k = 0 := by omega
    exact .inl rfl
  · refine ⟨by decide, fun k hk => ?_⟩
    have hk2 : k < 1 := hk
    obtain rfl : k = 0 := by omega
    exact .inr rfl
  · exact ⟨by decide, fun k hk => absurd hk (Nat.not_lt_zero _)⟩
/-- Letters, one behind the other. -/
def LetAt (w : World) (A : Option Addr) (ds : List Nat) (es : Nat → Es) (cc : Nat → Nat) (id : List Int) (t : Int) (ps s0 s1 : List Int) : Prop :=
  ∀ k, k < ds.length → ∃ g, A = some ⟨g, 0, none⟩ ∧ w.rangeAt g (k * 23) (let23 ((ds.getD k 0 : Nat) : Int) (.slice (some ⟨(es k).b, (es k).o, none⟩) 1 (cc k))) ∧ EsOk w (es k) id t ps (if ds.getD k 0 = 0 then s0 else s1)
theorem LetAt.up {w w' : World} {A : Option Addr} {ds : List Nat} {es : Nat → Es} {cc : Nat → Nat} {id : List Int} {t : Int} {ps s0 s1 : List Int} (h : LetAt w A ds es cc id t ps s0 s1) (hv : Below w.heap.size w w') : LetAt w' A ds es cc id t ps s0 s1 := fun k hk => by
  obtain ⟨g, e, hr, ho⟩ := h k hk
  exact ⟨g, e, range_up hr hv, ho.up hv⟩
/-- What a tick leaves. -/
def TickU (q : Nat) (m0 m1 : Mg) (id : List Int) (t : Int) (ps s0 s1 : List Int) (a0 a1 : Bool) (k0 k1 f wt nx sent now : Int) (ds : List Nat) (w : World) (e : Ending) (w' : World) : Prop :=
  ∃ A c es cc f' wt' nx' sent', e = .returned (.slice A ds.length c) ∧ LetAt w' A ds es cc id t ps s0 s1 ∧ But q w w' ∧ Cl q m0 m1 id t ps s0 s1 a0 a1 k0 k1 f' wt' nx' sent' w' ∧
    ((ds = [] ∧ f' = f ∧ wt' = wt ∧ nx' = nx ∧ sent' = sent) ∨ (ds ≠ [] ∧ f' = now ∧ wt' = nextW nx ∧ nx' = nextN nx ∧ sent' = sent + 1))
theorem rangeOfV {w : World} {B size n c : Nat} {ty : TypeId} {A : Option Addr} {xs : List Value} (hn : 0 < n) (h : w.ownsRow B ty size (.slice A n c) n xs) : ∃ g, A = some ⟨g, 0, none⟩ ∧ w.rangeAt g 0 xs := by
  rcases h.2 with ⟨_, h0⟩ | ⟨g, cap, cur, e, _⟩
  · omega
  · cases e
    refine ⟨g, rfl, fun j v hj => ?_⟩
    have := h.cells (g := g) rfl j v hj
    rwa [Addr.add_mid] at this
theorem let23_len (d : Int) (E : Value) : (let23 d E).length = 23 := rfl
theorem but_ofV {q : Nat} {w w' : World} (h : Below w.heap.size w w') : But q w w' := ⟨h.os, h.tape, h.output, h.size, fun k hk _ => h.block k hk⟩
set_option maxHeartbeats 4000000 in
theorem tick_any (q : Nat) (m0 m1 : Mg) (id : List Int) (h16 : id.length = 16) (t : Int) (ps s0 s1 : List Int) (hp : ps.length ≤ 65536) (hs : s0.length ≤ 65536) (hh : s1.length ≤ 65536) (a0 a1 : Bool) (k0 k1 f wt nx sent now : Int) (hf : 0 ≤ f) (hn : now < 18446744073709551616)
    (hx0 : 0 ≤ nx) (hx1 : nx ≤ 16) (hs0 : 0 ≤ sent) (hs1 : sent ≤ 1000000) (ds : List Nat) (hds : ds = if dueB f wt now = true then wantL a0 a1 else []) (w : World) (h : Cl q m0 m1 id t ps s0 s1 a0 a1 k0 k1 f wt nx sent w) :
    Calls Try.prog 9 #[.pointer (some ⟨q, 0, none⟩), .int .u64 now] w (TickU q m0 m1 id t ps s0 s1 a0 a1 k0 k1 f wt nx sent now ds w) := by
  have none_ok : ∀ e w', ds = [] → e = .returned (.slice none 0 0) → Below w.heap.size w w' → TickU q m0 m1 id t ps s0 s1 a0 a1 k0 k1 f wt nx sent now ds w e w' := fun e w' hd he hb =>
    ⟨none, 0, fun _ => ⟨0, 0, none, 0, none, 0⟩, fun _ => 0, f, wt, nx, sent, by rw [he, hd]; rfl, fun k hk => by rw [hd] at hk; exact absurd hk (Nat.not_lt_zero _), but_ofV hb, h.upR hb, .inl ⟨hd, rfl, rfl, rfl, rfl⟩⟩
  by_cases hd : dueB f wt now = true
  · rw [if_pos hd] at hds
    cases a0 <;> cases a1
    · refine (tick_due q m0 m1 id h16 t ps s0 s1 hp hs hh k0 k1 f wt nx sent now hf hn hx0 hx1 hs0 hs1 hd w h).mono ?_
      rintro e w' ⟨L, n0, n1, bd, rfl, hL, hbut, hcl⟩
      obtain ⟨A, c, rfl⟩ := owns_slice hL.row
      obtain ⟨g, rfl, hr⟩ := rangeOfV (by decide) hL.row
      have hds2 : ds = [0, 1] := hds
      refine ⟨_, c, fun k => if k = 0 then ⟨n0.g, 0, n0.PA, n0.pc, n0.SA, n0.sc⟩ else ⟨n1.g, 0, n1.PA, n1.pc, n1.SA, n1.sc⟩, fun k => if k = 0 then n0.c else n1.c, _, _, _, _, by rw [hds2]; rfl, fun k hk => ?_, hbut, hcl, .inr ⟨by rw [hds2]; decide, rfl, rfl, rfl, rfl⟩⟩
      rw [hds2] at hk ⊢
      have hk2 : k < 2 := hk
      obtain rfl | rfl : k = 0 ∨ k = 1 := by omega
      · refine ⟨g, rfl, fun j v hj => ?_, hL.ok0.es⟩
        have hj3 : (let23 0 n0.val)[j]? = some v := hj
        exact hr j v (by rw [List.getElem?_append_left (List.getElem?_eq_some_iff.1 hj3).1]; exact hj3)
      · refine ⟨g, rfl, fun j v hj => ?_, hL.ok1.es⟩
        have := hr (23 + j) v (by
          rw [List.getElem?_append_right (by rw [let23_len]; omega), let23_len, Nat.add_sub_cancel_left]
          exact hj)
        rw [show 0 + (23 + j) = 1 * 23 + j by omega] at this
        exact this
    · refine (tick_lead q m0 m1 id h16 t ps s0 s1 hp hs hh k0 k1 f wt nx sent now hf hn hx0 hx1 hs0 hs1 hd w h).mono ?_
      rintro e w' ⟨L, n0, rfl, hrow, hok, hof, hbut, hcl⟩
      obtain ⟨A, c, rfl⟩ := owns_slice hrow
      obtain ⟨g, rfl, hr⟩ := rangeOfV (by decide) hrow
      have hds2 : ds = [0] := hds
      refine ⟨_, c, fun k => ⟨n0.g, 0, n0.PA, n0.pc, n0.SA, n0.sc⟩, fun k => n0.c, _, _, _, _, by rw [hds2]; rfl, fun k hk => ?_, hbut, hcl, .inr ⟨by rw [hds2]; decide, rfl, rfl, rfl, rfl⟩⟩
      rw [hds2] at hk ⊢
      have hk2 : k < 1 := hk
      obtain rfl : k = 0 := by omega
      exact ⟨g, rfl, hr, hok.es⟩
    · refine (tick_help q m0 m1 id h16 t ps s0 s1 hp hs hh k0 k1 f wt nx sent now hf hn hx0 hx1 hs0 hs1 hd w h).mono ?_
      rintro e w' ⟨L, n0, rfl, hrow, hok, hof, hbut, hcl⟩
      obtain ⟨A, c, rfl⟩ := owns_slice hrow
      obtain ⟨g, rfl, hr⟩ := rangeOfV (by decide) hrow
      have hds2 : ds = [1] := hds
      refine ⟨_, c, fun k => ⟨n0.g, 0, n0.PA, n0.pc, n0.SA, n0.sc⟩, fun k => n0.c, _, _, _, _, by rw [hds2]; rfl, fun k hk => ?_, hbut, hcl, .inr ⟨by rw [hds2]; decide, rfl, rfl, rfl, rfl⟩⟩
      rw [hds2] at hk ⊢
      have hk2 : k < 1 := hk
      obtain rfl : k = 0 := by omega
      exact ⟨g, rfl, hr, hok.es⟩
    · exact (tick_both q m0 m1 id t ps s0 s1 k0 k1 f wt nx sent now hf hn hd w h).mono fun e w' ⟨he, hb⟩ => none_ok e w' hds he hb
  · rw [if_neg hd] at hds
    exact (tick_late q m0 m1 id t ps s0 s1 a0 a1 k0 k1 f wt nx sent now hf hn (by simpa using hd) w h).mono fun e w' ⟨he, hb⟩ => none_ok e w' hds he hb
/-- A client, where a block of the law's own was changed. -/
theorem MgOk.underV {B G g : Nat} {w w' : World} {m : Mg} {id : List Int} {t : Int} {ps ss : List Int} (h : MgOk B w m id t ps ss) (hl : MgLt G m ps.length ss.length) (hb : But g w w') (hg : G ≤ g) : MgOk B w' m id t ps ss := by
  have k : ∀ {ty : TypeId} {size n : Nat} {v : Value} {xs : List Value}, w.ownsRow B ty size v n xs → v.ownBlock ≠ some g → w'.ownsRow B ty size v n xs := fun {ty size n v xs} h h2 =>
    h.kept (row := some g) ⟨hb.os, hb.tape, hb.output, hb.size, fun b hlt hne => hb.block b hlt (fun e => hne (by rw [e]))⟩ (.inr h2)
  exact ⟨k h.row (fun e => by have h1 := hl.1; have h2 : m.g = g := Option.some.inj e; omega), k h.P (fun e => by have := hl.2.1 g e; omega), k h.S (fun e => by have := hl.2.2 g e; omega), h.PS⟩
theorem Cl.underV {q g G : Nat} {m0 m1 : Mg} {id : List Int} {t : Int} {ps s0 s1 : List Int} {a0 a1 : Bool} {k0 k1 f wt nx sent : Int} {w w' : World} (h : Cl q m0 m1 id t ps s0 s1 a0 a1 k0 k1 f wt nx sent w) (h0 : MgLt G m0 ps.length s0.length) (h1 : MgLt G m1 ps.length s1.length) (hb : But g w w') (hg : G ≤ g) (hq : q < G) : Cl q m0 m1 id t ps s0 s1 a0 a1 k0 k1 f wt nx sent w' :=
  ⟨(hb.block q (lt_of_get h.at') (by omega)).trans h.at', h.ok0.underV h0 hb hg, h.ok1.underV h1 hb hg⟩
end Go.Proofs.Ytehjfilnfpkjkaa
