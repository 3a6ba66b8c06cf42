/-
  A disk of one file: synced, a crash, what is read.
-/
import Derived.Test.YtmicnkiadfihgaaDkD
namespace Go.Proofs.Ytmicnkiadfihgaa
open Go.RowKit Flow Go.Maps
set_option linter.unusedVariables false
set_option linter.unusedSimpArgs false

theorem und_bytesK : (Try.prog).underlying 22 = some (.slice ((Try.prog).elem 22)) := by kernel_rfl
theorem size_u8K (w : World) : (sizeOf ((Try.prog).elem 22)).run Try.prog w = .ok 1 w := by kernel_rfl
theorem cut_rowK {w : World} {base : Nat} {e : TypeId} {a : Option Addr} {L c : Nat} {xs : List Value} (hown : w.ownsRow base e 1 (.slice a L c) L xs) (n : Nat) (hn : n ≤ L) :
    ∃ A c1, (∀ w', (Instr.slice 22 (.slice a L c) none (some (.int .i64 (n : Int))) none).run Try.prog w' = .ok (.slice A n c1) w') ∧ w.ownsRow base e 1 (.slice A n c1) n (xs.take n) := by
  have hx := hown.1
  rcases hown.2 with ⟨e2, h0⟩ | ⟨g, cap, cur, e2, hb, hg, h1, h2, h3, h4⟩
  · cases e2
    obtain rfl : n = 0 := by omega
    refine ⟨none, 0, fun w' => ?_, ?_⟩
    · rw [run_slice_h w' 22 none 0 0 und_bytesK .i64 ((0 : Nat) : Int) (by omega) (by omega), size_u8K]
      simp [Result.andThen, sliced]
    · simpa using World.ownsRow_nil w base e 1
  · cases e2
    refine ⟨some ⟨g, 0, none⟩, c, fun w' => ?_, ?_⟩
    · rw [run_slice_h w' 22 (some ⟨g, 0, none⟩) L c und_bytesK .i64 (n : Int) (by omega) (by omega), size_u8K]
      simp [Result.andThen, sliced, Addr.add]
    · refine ⟨by rw [List.length_take]; omega, .inr ⟨g, c, cur, rfl, hb, hg, by omega, h2, h3, ?_⟩⟩
      rw [← h4, List.take_take]
      congr 1
      omega
theorem row_leK {w : World} {B B' n : Nat} {t : TypeId} {V : Value} {xs : List Value} (h : w.ownsRow B t 1 V n xs) (hb : B' ≤ B) : w.ownsRow B' t 1 V n xs :=
  ⟨h.1, h.2.elim .inl (fun ⟨g, cap, cur, e, hg, rest⟩ => .inr ⟨g, cap, cur, e, Nat.le_trans hb hg, rest⟩)⟩
/-- A file as it lies. -/
structure Fil (B f : Nat) (V : Value) (X : List Int) (S : Nat) (w : World) : Prop where
  kf : w.heap[f]? = some (.cells #[V, .int .i64 (S : Int)] 56 (0, 0))
  row : w.ownsRow B 5 1 V X.length (X.map (Value.int .u8))
theorem Fil.up {B f : Nat} {V : Value} {X : List Int} {S : Nat} {w w' : World} (h : Fil B f V X S w) (hv : Below w.heap.size w w') : Fil B f V X S w' := ⟨keeps hv h.kf, owns_upU h.row hv⟩
theorem Ds1.fil {B d m n f : Nat} {lim : Int} {D : DataW Value} {V : Value} {X : List Int} {S : Nat} {w : World} (h : Ds1 B d m n f lim D V X S w) : Fil B f V X S w := ⟨h.kf, h.row⟩
set_option maxRecDepth 20000 in
theorem loose_ok (B f : Nat) (V : Value) (X : List Int) (S : Nat) (hS : S ≤ X.length) (hX : X.length ≤ 1000000) (w : World) (h : Fil B f V X S w) :
    Calls Try.prog 21 #[.pointer (some ⟨f, 0, none⟩)] w fun e w' => e = .returned (.int .i64 ((X.length - S : Nat) : Int)) ∧ Below w.heap.size w w' := by
  obtain ⟨A, cp, rfl⟩ := owns_slice h.row
  obtain ⟨c0, c1, -, -⟩ := file_cells h.kf
  clear h
  obtain ⟨xn, hxn⟩ : ∃ xn, X.length = xn := ⟨_, rfl⟩
  rw [hxn] at c0 hX hS ⊢
  clear hxn
  have hw : IntKind.i64.wrap ((xn : Int) - (S : Int)) = ((xn - S : Nat) : Int) := by rw [IntKind.wrap_i64]; omega
  obtain ⟨z, hz⟩ : ∃ z : Int, ((xn - S : Nat) : Int) = z := ⟨_, rfl⟩
  rw [hz] at hw ⊢
  clear hz
  go_enter Try.func21, Try.ntmps21
  go_upto_region 1 with (fail)
  refine wp_region_flow0 (by kernel_rfl) (by kernel_rfl) ?_
  intro ι _ φ hφ
  have e0 := fun i => hφ.cell c0 i
  have e1 := fun i => hφ.cell c1 i
  repeat (go_big_quiet_step (fail))
  refine wpQuiet_nil ?_
  intro w3 hv
  go_wp2
  go_ret
  exact ⟨rfl, hv⟩
set_option maxRecDepth 20000 in
theorem cut_ok (B f : Nat) (V : Value) (X : List Int) (S k : Nat) (hk : k ≤ X.length) (hS : S ≤ k) (w : World) (h : Fil B f V X S w) :
    Calls Try.prog 20 #[.pointer (some ⟨f, 0, none⟩), .int .i64 (k : Int)] w fun e w' => ∃ V', e = .returned (.tuple #[]) ∧ But f w w' ∧ w'.heap.size = w.heap.size ∧ Fil B f V' (X.take k) S w' := by
  obtain ⟨A, cp, rfl⟩ := owns_slice h.row
  obtain ⟨A1, c1, hcut, hrow⟩ := cut_rowK h.row k hk
  obtain ⟨y0, y1, yf0, yf1⟩ := file_cells h.kf
  have hr0 := row_neK hrow h.kf
  have kf := h.kf
  replace hrow := Lib.hid hrow
  replace hr0 := Lib.hid hr0
  have hmin : min (S : Int) (k : Int) = (S : Int) := by omega
  clear h
  obtain ⟨xn, hxn⟩ : ∃ xn, X.length = xn := ⟨_, rfl⟩
  rw [hxn] at hk hcut y0 kf
  have hle : (k : Int) ≤ (xn : Int) := by omega
  go_enter Try.func20, Try.ntmps20
  go_wp2_with (fail)
  have hbut : But f w ((w.setCell ⟨f, 0, none⟩ (.slice A1 k c1)).setCell ⟨f, 1, none⟩ (.int .i64 (S : Int))) := ((But.refl f w).set _).set _
  have hlen : (X.take k).length = k := by rw [List.length_take]; omega
  refine bodyPost_end (results_none rfl _ _ _) rfl ?_
  refine ⟨.slice A1 k c1, rfl, hbut, by simp, store2 kf, ?_⟩
  rw [hlen, List.map_take]
  exact row_butK hrow.out hbut hr0.out
set_option maxRecDepth 20000 in
theorem sync_1 (B d m n f : Nat) (lim : Int) (D : DataW Value) (V : Value) (X : List Int) (S : Nat) (w0 w : World) (hb : Below B w0 w) (hs : B ≤ w.heap.size) (h : Ds1 B d m n f lim D V X S w) :
    Calls Try.prog 11 #[.pointer (some ⟨d, 0, none⟩), .string nmA] w fun e w' => e = .returned (.int .i64 0) ∧ Below B w0 w' ∧ Ds1 B d m n f lim D V X X.length w' ∧ w.heap.size ≤ w'.heap.size := by
  have hFi := Lib.hid (find_1 B d m n f lim D V X S w h)
  obtain ⟨A0, c0, rfl⟩ := owns_slice h.row
  replace h := Lib.hid h
  obtain ⟨s, hsn⟩ : ∃ s, nmA = s := ⟨_, rfl⟩
  rw [hsn] at hFi ⊢
  clear hsn
  go_enter Try.func11, Try.ntmps11
  go_wp2_with (fail)
  refine call_then hFi.out ?_
  intro w2 hv
  replace h := Lib.hid (h.out.up hv)
  replace hb := Lib.hid (below_next hb hs hv)
  have hz := hv.size
  replace hs := Nat.le_trans hs hz
  clear hv hFi
  obtain ⟨y0, y1, yf0, yf1⟩ := file_cells h.out.kf
  go_wp2_with (fail)
  go_ret
  have hbut : But f w2 (w2.setCell ⟨f, 1, none⟩ (.int .i64 (X.length : Int))) := (But.refl f w2).set _
  exact ⟨rfl, hbut.below hb.out h.out.lows.2.2 hs, h.out.file hbut ((store1 (b := f) (o := 1) (v := .int .i64 (X.length : Int)) h.out.kf).trans rfl) (row_butK h.out.row hbut (row_neK h.out.row h.out.kf)), by simp; exact hz⟩
set_option maxRecDepth 20000 in
theorem read_1 (B d m n f : Nat) (lim : Int) (D : DataW Value) (V : Value) (X : List Int) (S : Nat) (hX : X.length ≤ 1000000) (w : World) (h : Ds1 B d m n f lim D V X S w) :
    Calls Try.prog 9 #[.pointer (some ⟨d, 0, none⟩), .string nmA] w fun e w' => ∃ A c, e = .returned (.tuple #[.slice A X.length c, .int .i64 0]) ∧ Below w.heap.size w w' ∧ w'.ownsRow w.heap.size 5 1 (.slice A X.length c) X.length (X.map (Value.int .u8)) := by
  have hFi := Lib.hid (find_1 B d m n f lim D V X S w h)
  have hr := h.row
  obtain ⟨A0, c0, rfl⟩ := owns_slice h.row
  have hN := owns_newsU hr
  have hone : ∀ u ∈ X.map (Value.int .u8), u.oneCell' = true := fun u hu => by obtain ⟨x, _, rfl⟩ := List.mem_map.1 hu; rfl
  have hcl := Lib.hid (fun w h => sclone_news A0 X.length c0 (X.map (Value.int .u8)) hone (by omega) w h)
  replace h := Lib.hid h
  obtain ⟨s, hsn⟩ : ∃ s, nmA = s := ⟨_, rfl⟩
  rw [hsn] at hFi ⊢
  clear hsn hr hone
  obtain ⟨xn, hxn⟩ : ∃ xn, X.length = xn := ⟨_, rfl⟩
  rw [hxn] at hcl hN ⊢
  replace hN := Lib.hid hN
  go_enter Try.func9, Try.ntmps9
  go_wp2_with (fail)
  refine call_then hFi.out ?_
  intro w2 hv
  replace h := Lib.hid (h.out.up hv)
  replace hN := Lib.hid (hN.out.up hv)
  have hz := hv.size
  obtain ⟨y0, y1, -, -⟩ := file_cells h.out.kf
  rw [hxn] at y0
  go_wp2_with (fail)
  refine (hcl.out _ hN.out).mono ?_
  rintro e w3 ⟨A2, c2, rfl, hb, hrow⟩
  replace hrow := Lib.hid hrow
  replace hb := Lib.hid hb
  go_wp2
  go_ret2
  exact ⟨A2, c2, rfl, below_next hv hz hb.out, row_leK hrow.out hz⟩
end Go.Proofs.Ytmicnkiadfihgaa
