/-
  The frame of any law whose walk makes new memory alone: whatever its arguments are, they read behind it as they did.
-/
import Derived.Test.YtebgfelbffgnbaaGreatDoorRows
import Derived.Test.YtebgfelbffgnbaaGreatDoorBB
import Derived.ChangeStays
import Derived.Deep.Slices
import Derived.Test.YtebgfelbffgnbaaGreatDoorBC
import Derived.Test.YtebgfelbffgnbaaGreatDoorBA
namespace Go.Proofs.YtebgfelbffgnbaaGreatDoor
open Go.RowKit Go.WideShapes Go.ChangeShapes
section
variable {H : Type} {enc : TypeId × Value → H} {P : Program}
theorem sameAt_below {W W' : World} (hb : Below W.heap.size W W') : ∀ p : MemPlace, p.block < W.heap.size → W.sameAt W' p
  | .cell b o, h => hb.cell (p := ⟨b, o, none⟩) h
  | .map b, h => hb.block b h
theorem trodAll_stays {W W' : World} {T : TypeId → Prop} {base : Nat} {sp : Nat → Bool} (K : Kids P T) (hsz : ∀ {t e : TypeId}, T t → P.underlying t = some (.slice e) → 0 < P.cellsOf e) :
    ∀ {ts : List TypeId} {vs : List Value} {ds : List (DataW H)} {ps : List MemPlace}, (∀ t, t ∈ ts → T t) → DataW.TrodAll enc P W base (fun _ => true) true ts vs ds ps → (∀ p ∈ ps, W.sameAt W' p) → (∀ p ∈ ps, sp p.block = true) →
      DataW.TrodAll enc P W' base sp true ts vs ds ps
  | [], [], [], _, _, h, _, _ => h
  | t :: ts, v :: vs, d :: ds, _, hT, ⟨p, q, ⟨n, hn⟩, hr, e⟩, hs, hp => by
    subst e
    refine ⟨p, q, ⟨n, DataW.trod_stays K hsz (fun h => by cases h) (hT t List.mem_cons_self) hn (fun x hx => hs x (List.mem_append_left _ hx)) (fun x hx => hp x (List.mem_append_left _ hx))⟩,
      trodAll_stays K hsz (fun u hu => hT u (List.mem_cons_of_mem _ hu)) hr (fun x hx => hs x (List.mem_append_right _ hx)) (fun x hx => hp x (List.mem_append_right _ hx)), rfl⟩
/-- The law's last step: it has answered true, and made new memory alone. -/
theorem post_true {f : Func} {s : ChangeSpec} {apart fresh handsOn again : Bool} {W W' : World} {args : Array Value} {ds gs : List (DataW H)} {before : List MemPlace} {b : TypeId}
    (K : Kids P (· < P.types.size)) (hsz : ∀ {t e : TypeId}, t < P.types.size → P.underlying t = some (.slice e) → 0 < P.cellsOf e) (hT : ∀ t, t ∈ f.params.toList → t < P.types.size)
    (hv : s.vars = []) (hrt : f.resultTypes = #[b]) (hbool : P.underlying b = some .bool)
    (hW : DataW.Whole enc P f.params.toList s.vars apart W args.toList ds gs before) (hfn : s.fn H ds = { results := [.lit (.bool true)], args := ds }) (hb : Below W.heap.size W W') :
    s.post enc P f apart fresh handsOn again W args (.bool true) W' := by
  have hlt : ∀ p ∈ before, p.block < W.heap.size := fun p hp => hW.lt p hp
  have hW' := hW
  obtain ⟨p, q, hA, hV, rfl, _, _⟩ := hW
  rw [hv] at hV
  obtain ⟨rfl, rfl⟩ := trodVars_none hV
  rw [List.append_nil] at hlt
  refine post_of_below (pa := p) (pv := []) hW' ?_ ?_ ?_ rfl hb ?_
  · intro b' sp hd
    rw [List.append_nil, hfn, hrt]
    exact trodAll_cons_mk (shut_bool hbool _) trodAll_mk0
  · intro sp hp
    rw [List.append_nil, hfn]
    exact trodAll_stays K hsz hT hA (fun x hx => sameAt_below hb x (hlt x hx)) (fun x hx => hp x (by simpa using hx))
  · intro sp _
    rw [List.append_nil, hfn, hv]
    rfl
  · exact ok_one hrt rfl (okWide_bool_mk hbool _)
end
theorem kids_YtebgfelbffgnbaaGreatDoor : Kids Tryz.prog (· < Tryz.prog.types.size) := kids_rows (by kernel_rfl) (by kernel_rfl)
def slicesB (P : Program) : Bool := (List.range P.types.size).all fun t => match P.underlying t with
  | some (.slice e) => decide (0 < P.cellsOf e)
  | _ => true
theorem slices_spec {P : Program} (h : slicesB P = true) : ∀ {t e : TypeId}, t < P.types.size → P.underlying t = some (.slice e) → 0 < P.cellsOf e := by
  intro t e ht hu
  have := List.all_eq_true.1 h t (List.mem_range.2 ht)
  rw [hu] at this
  simpa using this
theorem slices_YtebgfelbffgnbaaGreatDoor : slicesB Tryz.prog = true := by kernel_rfl
/-- A law proved: its walk, whatever the arguments are. -/
theorem law_true {H : Type} {f : Func} {s : ChangeSpec} {apart fresh handsOn again : Bool} {W W' : World} {args : Array Value} {enc : TypeId × Value → H} {ds gs : List (DataW H)} {before : List MemPlace} {b : TypeId}
    (hT : ∀ t, t ∈ f.params.toList → t < Tryz.prog.types.size) (hv : s.vars = []) (hrt : f.resultTypes = #[b]) (hbool : Tryz.prog.underlying b = some .bool)
    (hW : DataW.Whole enc Tryz.prog f.params.toList s.vars apart W args.toList ds gs before) (hfn : s.fn H ds = { results := [.lit (.bool true)], args := ds }) (hb : Below W.heap.size W W') :
    s.post enc Tryz.prog f apart fresh handsOn again W args (.bool true) W' :=
  post_true kids_YtebgfelbffgnbaaGreatDoor (slices_spec slices_YtebgfelbffgnbaaGreatDoor) hT hv hrt hbool hW hfn hb
end Go.Proofs.YtebgfelbffgnbaaGreatDoor
/-
  Slices of elements, and of bytes, as arguments: what lies where; kept by what makes new memory alone.
-/
namespace Go.Proofs.YtebgfelbffgnbaaGreatDoor
open Go.RowKit Go.WideShapes Go.ChangeShapes F Flow

/-- Elements lie at an address, one behind the other. -/
def ElemsAt (w : World) (A : Option Addr) (xs : List Int) : Prop :=
  ∀ k, k < xs.length → ∃ b o, A = some ⟨b, o, none⟩ ∧ w.cell? ⟨b, o + k * 2, none⟩ = some (.int .u64 (lo (xs.getD k 0))) ∧ w.cell? ⟨b, o + k * 2 + 1, none⟩ = some (.int .u64 (hi (xs.getD k 0)))
/-- Small numbers lie at an address. -/
def BytesAt (w : World) (A : Option Addr) (xs : List Int) : Prop :=
  ∀ k, k < xs.length → ∃ b o, A = some ⟨b, o, none⟩ ∧ w.cell? ⟨b, o + k, none⟩ = some (.int .u8 (xs.getD k 0))
theorem ElemsAt.up {w w' : World} {A : Option Addr} {xs : List Int} (h : ElemsAt w A xs) (hb : Below w.heap.size w w') : ElemsAt w' A xs := fun k hk => by
  obtain ⟨b, o, e, h1, h2⟩ := h k hk
  exact ⟨b, o, e, (hb.cell (World.block_lt_of_cell? _ _ h1)).trans h1, (hb.cell (World.block_lt_of_cell? _ _ h2)).trans h2⟩
theorem BytesAt.up {w w' : World} {A : Option Addr} {xs : List Int} (h : BytesAt w A xs) (hb : Below w.heap.size w w') : BytesAt w' A xs := fun k hk => by
  obtain ⟨b, o, e, h1⟩ := h k hk
  exact ⟨b, o, e, (hb.cell (World.block_lt_of_cell? _ _ h1)).trans h1⟩
def ElemsOK (xs : List Int) : Prop := ∀ x, x ∈ xs → 0 ≤ x ∧ x < 340282366920938463463374607431768211456
def BytesOK (xs : List Int) : Prop := ∀ x, x ∈ xs → 0 ≤ x ∧ x < 256
theorem ElemsOK.at_ {xs : List Int} (h : ElemsOK xs) {k : Nat} (hk : k < xs.length) : 0 ≤ xs.getD k 0 ∧ xs.getD k 0 < 340282366920938463463374607431768211456 := by
  rw [List.getD_eq_getElem?_getD, List.getElem?_eq_getElem hk]
  exact h _ (List.getElem_mem hk)

theorem add_two {a : Addr} {b o i : Nat} (h : a = ⟨b, o, none⟩) : a.add i = ⟨b, o + i, none⟩ := by
  subst h
  exact Go.WideShapes.add_plain b o i

end Go.Proofs.YtebgfelbffgnbaaGreatDoor
