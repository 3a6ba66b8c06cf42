/-
  The frame of any law whose walk makes new memory alone: whatever its arguments are, they read behind it as they did.
-/
import Derived.Test.YtmicnkiadfihgaaRows
import Derived.Test.YtmicnkiadfihgaaPost
import Derived.ChangeStays
import Derived.Deep.Slices
namespace Go.Proofs.Ytmicnkiadfihgaa
open Go.RowKit Go.WideShapes Go.ChangeShapes
section
variable {H : Type} {enc : TypeId × Value → H} {P : Program}
theorem sameAt_below {W W' : World} (hb : Below W.heap.size W W') : ∀ p : MemPlace, p.block < W.heap.size → W.sameAt W' p
  | .cell b o, h => hb.cell (p := ⟨b, o, none⟩) h
  | .map b, h => hb.block b h
theorem trodAll_stays {W W' : World} {T : TypeId → Prop} {base : Nat} {sp : Nat → Bool} (K : Kids P T) (hsz : ∀ {t e : TypeId}, T t → P.underlying t = some (.slice e) → 0 < P.cellsOf e) :
    ∀ {ts : List TypeId} {vs : List Value} {ds : List (DataW H)} {ps : List MemPlace}, (∀ t, t ∈ ts → T t) → DataW.TrodAll enc P W base (fun _ => true) true ts vs ds ps → (∀ p ∈ ps, W.sameAt W' p) → (∀ p ∈ ps, sp p.block = true) →
      DataW.TrodAll enc P W' base sp true ts vs ds ps
  | [], [], [], _, _, h, _, _ => h
  | t :: ts, v :: vs, d :: ds, _, hT, ⟨p, q, ⟨n, hn⟩, hr, e⟩, hs, hp => by
    subst e
    refine ⟨p, q, ⟨n, DataW.trod_stays K hsz (fun h => by cases h) (hT t List.mem_cons_self) hn (fun x hx => hs x (List.mem_append_left _ hx)) (fun x hx => hp x (List.mem_append_left _ hx))⟩,
      trodAll_stays K hsz (fun u hu => hT u (List.mem_cons_of_mem _ hu)) hr (fun x hx => hs x (List.mem_append_right _ hx)) (fun x hx => hp x (List.mem_append_right _ hx)), rfl⟩
/-- The law's last step: it has answered true, and made new memory alone. -/
theorem post_true {f : Func} {s : ChangeSpec} {apart fresh handsOn again : Bool} {W W' : World} {args : Array Value} {ds gs : List (DataW H)} {before : List MemPlace} {b : TypeId}
    (K : Kids P (· < P.types.size)) (hsz : ∀ {t e : TypeId}, t < P.types.size → P.underlying t = some (.slice e) → 0 < P.cellsOf e) (hT : ∀ t, t ∈ f.params.toList → t < P.types.size)
    (hv : s.vars = []) (hrt : f.resultTypes = #[b]) (hbool : P.underlying b = some .bool)
    (hW : DataW.Whole enc P f.params.toList s.vars apart W args.toList ds gs before) (hfn : s.fn H ds = { results := [.lit (.bool true)], args := ds }) (hb : Below W.heap.size W W') :
    s.post enc P f apart fresh handsOn again W args (.bool true) W' := by
  have hlt : ∀ p ∈ before, p.block < W.heap.size := fun p hp => hW.lt p hp
  have hW' := hW
  obtain ⟨p, q, hA, hV, rfl, _, _⟩ := hW
  rw [hv] at hV
  obtain ⟨rfl, rfl⟩ := trodVars_none hV
  rw [List.append_nil] at hlt
  refine post_of_below (pa := p) (pv := []) hW' ?_ ?_ ?_ rfl hb ?_
  · intro b' sp hd
    rw [List.append_nil, hfn, hrt]
    exact trodAll_cons_mk (shut_bool hbool _) trodAll_mk0
  · intro sp hp
    rw [List.append_nil, hfn]
    exact trodAll_stays K hsz hT hA (fun x hx => sameAt_below hb x (hlt x hx)) (fun x hx => hp x (by simpa using hx))
  · intro sp _
    rw [List.append_nil, hfn, hv]
    rfl
  · exact ok_one hrt rfl (okWide_bool_mk hbool _)
end
theorem kids_Ytmicnkiadfihgaa : Kids Try.prog (· < Try.prog.types.size) := kids_rows (by kernel_rfl) (by kernel_rfl)
def slicesB (P : Program) : Bool := (List.range P.types.size).all fun t => match P.underlying t with
  | some (.slice e) => decide (0 < P.cellsOf e)
  | _ => true
theorem slices_spec {P : Program} (h : slicesB P = true) : ∀ {t e : TypeId}, t < P.types.size → P.underlying t = some (.slice e) → 0 < P.cellsOf e := by
  intro t e ht hu
  have := List.all_eq_true.1 h t (List.mem_range.2 ht)
  rw [hu] at this
  simpa using this
theorem slices_Ytmicnkiadfihgaa : slicesB Try.prog = true := by kernel_rfl
/-- A law proved: its walk, whatever the arguments are. -/
theorem law_true {H : Type} {f : Func} {s : ChangeSpec} {apart fresh handsOn again : Bool} {W W' : World} {args : Array Value} {enc : TypeId × Value → H} {ds gs : List (DataW H)} {before : List MemPlace} {b : TypeId}
    (hT : ∀ t, t ∈ f.params.toList → t < Try.prog.types.size) (hv : s.vars = []) (hrt : f.resultTypes = #[b]) (hbool : Try.prog.underlying b = some .bool)
    (hW : DataW.Whole enc Try.prog f.params.toList s.vars apart W args.toList ds gs before) (hfn : s.fn H ds = { results := [.lit (.bool true)], args := ds }) (hb : Below W.heap.size W W') :
    s.post enc Try.prog f apart fresh handsOn again W args (.bool true) W' :=
  post_true kids_Ytmicnkiadfihgaa (slices_spec slices_Ytmicnkiadfihgaa) hT hv hrt hbool hW hfn hb
end Go.Proofs.Ytmicnkiadfihgaa

