/-
  Contracts of package field: the sum of a slice, whatever the sum of two is.
-/
import Derived.Test.YtokdbedineoklaaFieldN
namespace Go.Proofs.Ytokdbedineoklaa
open Go.RowKit F Flow
set_option linter.unusedVariables false
attribute [local go_sem] eql_elem

/-- A variable that holds an element. -/
def Holds (w : World) (b : Nat) (x : Int) : Prop := w.heap[b]? = some (.cells #[.int .u64 (lo x), .int .u64 (hi x)] 24 (0, 0))
theorem Holds.up {w w' : World} {b : Nat} {x : Int} (h : Holds w b x) (hb : Below w.heap.size w w') : Holds w' b x := keeps hb h
theorem Holds.new {w : World} {x : Int} : Holds (w.alloc (.cells #[.int .u64 (lo x), .int .u64 (hi x)] 24)) w.heap.size x := alloc_at rfl
theorem Holds.alloc {w : World} {b : Nat} {x : Int} (h : Holds w b x) (o : Obj) : Holds (w.alloc o) b x := alloc_keeps h
theorem Holds.set {w : World} {b : Nat} {x : Int} (h : Holds w b x) (z : Int) : Holds ((w.setCell ⟨b, 0, none⟩ (.int .u64 (lo z))).setCell ⟨b, 1, none⟩ (.int .u64 (hi z))) b z := store2 h
theorem Holds.far {w : World} {b c : Nat} {x : Int} {u v : Value} (h : Holds w b x) (hbc : b ≠ c) : Holds ((w.setCell ⟨c, 0, none⟩ u).setCell ⟨c, 1, none⟩ v) b x := store2_far h hbc
theorem ElemsAt.far {w : World} {A : Option Addr} {xs : List Int} {c B : Nat} {u v : Value} (h : ElemsAt w A xs) (hB : ∀ b o, A = some ⟨b, o, none⟩ → xs.length ≠ 0 → b < B) (hc : B ≤ c) : ElemsAt ((w.setCell ⟨c, 0, none⟩ u).setCell ⟨c, 1, none⟩ v) A xs := fun k hk => by
  obtain ⟨b, o, e, h1, h2⟩ := h k hk
  have hlt := hB b o e (by omega)
  refine ⟨b, o, e, ?_, ?_⟩
  · rw [World.cell?_setCell_other _ _ _ _ (by simp <;> omega), World.cell?_setCell_other _ _ _ _ (by simp <;> omega)]; exact h1
  · rw [World.cell?_setCell_other _ _ _ _ (by simp <;> omega), World.cell?_setCell_other _ _ _ _ (by simp <;> omega)]; exact h2
/-- Both lie in old memory, so anything that leaves old memory as it is keeps them. -/
theorem ElemsAt.old {w w' : World} {A : Option Addr} {xs : List Int} (h : ElemsAt w A xs) (hb : Below w.heap.size w w') : ElemsAt w' A xs := h.up hb

theorem foldl_take {α : Type} (f : Int → α → Int) (xs : List α) (d : α) (k : Nat) (hk : k < xs.length) : (xs.take (k + 1)).foldl f 0 = f ((xs.take k).foldl f 0) (xs.getD k d) := by
  rw [List.take_succ_eq_append_getElem hk, List.foldl_append]
  simp [hk]
set_option maxHeartbeats 2000000 in
theorem fsum_gen (n : Int) (op : Int → Int → Int) (xs : List Int) (A : Option Addr) (c : Nat) (hx : ElemsOK xs) (hm : xs.length ≤ maxLen)
    (hop : ∀ a b, 0 ≤ a → a < 340282366920938463463374607431768211456 → 0 ≤ b → b < 340282366920938463463374607431768211456 → (0 ≤ op a b ∧ op a b < 340282366920938463463374607431768211456) ∧
      ∀ w, Calls Try.prog 14 #[.int .u8 n, .agg #[.int .u64 (lo a), .int .u64 (hi a)], .agg #[.int .u64 (lo b), .int .u64 (hi b)]] w fun e w' => e = .returned (.agg #[.int .u64 (lo (op a b)), .int .u64 (hi (op a b))]) ∧ Below w.heap.size w w')
    (w : World) (hA : ElemsAt w A xs) :
    Calls Try.prog 34 #[.int .u8 n, .slice A xs.length c] w fun e w' => e = .returned (.agg #[.int .u64 (lo (xs.foldl op 0)), .int .u64 (hi (xs.foldl op 0))]) ∧ Below w.heap.size w w' := by
  unfold maxLen at hm
  go_enter Try.func34, Try.ntmps34
  go_wp2
  refine name_wp (fun w1 => Below w.heap.size w w1 ∧ Holds w1 w.heap.size 0 ∧ Holds w1 (w.heap.size + 1) 0)
    ⟨((Below.refl _ _).alloc (Nat.le_refl _) _).alloc (by simp) _, alloc_keeps (alloc_at rfl), alloc_at (by simp)⟩ ?_
  rintro w1 ⟨hb, hr, hs⟩
  go_loopw [10] (fun i wr => ∃ k : Nat, k ≤ xs.length ∧ i = .int .i64 k ∧ Below w.heap.size w wr ∧ Holds wr w.heap.size 0 ∧ Holds wr (w.heap.size + 1) ((xs.take k).foldl op 0) ∧ (0 ≤ (xs.take k).foldl op 0 ∧ (xs.take k).foldl op 0 < 340282366920938463463374607431768211456)) (fun i _ => xs.length - (intOf i).toNat)
  case atStart => exact ⟨0, Nat.zero_le _, rfl, hb, hr, hs, by simp⟩
  case round =>
    obtain ⟨k, hk, rfl, hb, hr, hs, hS⟩ := hrel
    by_cases hlt : k < xs.length
    · obtain ⟨b, o, rfl, c0, c1⟩ := (hA.up hb) k hlt
      have hxk := hx.at_ hlt
      have hf := foldl_take op xs 0 k hlt
      obtain ⟨hR, hc⟩ := hop _ _ hS.1 hS.2 hxk.1 hxk.2
      generalize (xs.take k).foldl op 0 = S at *
      generalize xs.getD k 0 = x at *
      clear hA
      replace hc := Lib.hid hc
      replace hf := Lib.hid hf
      obtain ⟨s0, s1, s2, s3⟩ := blk2 hs
      have l1 := lt_of_get hs
      have l2 : w.heap.size + 1 ≠ wr.heap.size := Nat.ne_of_lt l1
      go_wp2_with fail
      refine name_calls (fun w2 => Below w.heap.size w w2 ∧ Holds w2 w.heap.size 0 ∧ Holds w2 (w.heap.size + 1) S) ⟨hb.alloc hb.size _, hr.alloc _, hs.alloc _⟩ ?_
      clear s0 s1 s2 s3 c0 c1 l1 l2 hb hr hs
      rintro w2 ⟨hb, hr, hs⟩
      refine call_then (hc.out _) ?_
      intro w3 hw3
      replace hb := below_next hb hb.size hw3
      replace hr := hr.up hw3
      replace hs := hs.up hw3
      clear hw3
      obtain ⟨s0, s1, s2, s3⟩ := blk2 hs
      go_wp2
      clear s0 s1 s2 s3
      go_roundw
      case rel => exact ⟨k + 1, hlt, by go_num, below_store2 hb (Nat.le_succ _), hr.far (Nat.ne_of_lt (Nat.lt_succ_self _)), by rw [hf.out]; exact hs.set _, by rw [hf.out]; exact hR⟩
      case measure => simp [intOf]; omega
    · have hkl : k = xs.length := by omega
      subst hkl
      rw [List.take_length] at hs hS
      clear hA hop
      obtain ⟨s0, s1, s2, s3⟩ := blk2 hs
      obtain ⟨r0, r1, r2, r3⟩ := blk2 hr
      go_wp2
      obtain ⟨p2, q2, _, _⟩ := blk2 (hr.set (xs.foldl op 0))
      exact bodyPost_ret (v := .agg #[.int .u64 (lo (xs.foldl op 0)), .int .u64 (hi (xs.foldl op 0))]) (by simp [results, Try.results34, go_sem, p2, q2]) rfl ⟨rfl, below_store2 hb (Nat.le_refl _)⟩
theorem foldl_zero : ∀ (xs : List Int), xs.foldl (fun _ _ => 0) (0 : Int) = 0
  | [] => rfl
  | _ :: xs => foldl_zero xs
theorem fsum_none (n : Int) (h : NoField n) (xs : List Int) (A : Option Addr) (c : Nat) (hx : ElemsOK xs) (hm : xs.length ≤ maxLen) (w : World) (hA : ElemsAt w A xs) :
    Calls Try.prog 34 #[.int .u8 n, .slice A xs.length c] w fun e w' => e = .returned (.agg #[.int .u64 0, .int .u64 0]) ∧ Below w.heap.size w w' := by
  have := fsum_gen n (fun _ _ => 0) xs A c hx hm (fun a b _ _ _ _ => ⟨by decide, fun w => fAdd_none n a b h w⟩) w hA
  rwa [foldl_zero] at this
end Go.Proofs.Ytokdbedineoklaa
