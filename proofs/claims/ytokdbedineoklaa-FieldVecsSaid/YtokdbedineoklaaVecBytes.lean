/-
  Contracts of Vec, of the field's and of the reference's.
-/
import Derived.Test.YtokdbedineoklaaFieldTake
import Derived.Laws.AppendOwn
import Derived.Laws.MakeOwn
import Derived.OwnWalk
import Derived.Below
namespace Go.Proofs.Ytokdbedineoklaa
open Go.RowKit F Flow
set_option linter.unusedVariables false
attribute [local go_sem] eql_elem

/-- A list of elements as bytes. -/
def vbytes (f : Int) (N : Nat) (xs : List Int) : List Int := (xs.map fun x => loBytes N (redu f x)).flatten
theorem vbytes_succ (f : Int) (N : Nat) {xs : List Int} {k : Nat} (h : k < xs.length) : vbytes f N (xs.take (k + 1)) = vbytes f N (xs.take k) ++ loBytes N (redu f (xs.getD k 0)) := by
  unfold vbytes
  rw [List.take_succ_eq_append_getElem h, List.map_append, List.flatten_append]
  simp [h]
theorem vbytes_length (f : Int) (N : Nat) : ∀ (xs : List Int), (vbytes f N xs).length = xs.length * N
  | [] => by simp [vbytes]
  | x :: xs => by
    have := vbytes_length f N xs
    unfold vbytes at *
    rw [List.map_cons, List.flatten_cons, List.length_append, this, loBytes_length, List.length_cons, Nat.succ_mul, Nat.add_comm]
theorem info_u8v : (Try.prog.info? 5).map (fun i => (i.zero, i.size, i.bytes)) = some (some (.int .u8 0), 1, 1) := by kernel_rfl
theorem make_bytes (c : Nat) (C : Int) (hC : (c : Int) = C) (hc : c ≤ 65536) (w : World) : ∃ cur, (Instr.makeSlice 44 (.int .i64 0) (.int .i64 C)).run Try.prog w = .ok (.slice (some ⟨w.heap.size, 0, none⟩) 0 c) (w.alloc (.cells cur 5)) ∧ cur.size = c * 1 := by
  subst hC
  obtain ⟨i0, h0, h1, h2, h3⟩ := info_parts info_u8v
  have hb : (i0.bytes : Int) * (c : Int) ≤ 281474976710656 := by rw [h3]; omega
  have hr := run_make (P := Try.prog) w 44 5 i0 _ Try.underlying44 h0 h1 .i64 .i64 0 c (by omega) (by omega) hb (by omega)
  simp only [Int.toNat_natCast] at hr
  rw [h2] at hr
  exact ⟨_, hr, size_madeCells _ _⟩
theorem owns_cells {w : World} {b o N : Nat} {ys : List Int} (h : BytesAt w (some ⟨b, o, none⟩) ys) : ∀ j u, (ys.map (Value.int .u8))[j]? = some u → w.cell? (Addr.add ⟨b, o, none⟩ j) = some u := by
  intro j u hu
  have hj : j < ys.length := by
    have := (List.getElem?_eq_some_iff.1 hu).1
    simpa using this
  obtain ⟨b', o', e, hc⟩ := h j hj
  cases e
  rw [show (Addr.add ⟨b, o, none⟩ j) = ⟨b, o + j, none⟩ by unfold Addr.add; split <;> simp_all, hc]
  simpa [hj] using hu
theorem ints_one (ys : List Int) : ∀ u ∈ ys.map (Value.int .u8), u.oneCell' = true := by
  intro u hu
  obtain ⟨z, _, rfl⟩ := List.mem_map.1 hu
  rfl
theorem owns_up {w w' : World} {base : Nat} {e : TypeId} {v : Value} {n : Nat} {xs : List Value} (h : w.ownsRow base e 1 v n xs) (hb : Below w.heap.size w w') : w'.ownsRow base e 1 v n xs := by
  refine ⟨h.1, ?_⟩
  rcases h.2 with hn | ⟨g, cap, cur, rfl, hbb, hgg, rest⟩
  · exact .inl hn
  · exact .inr ⟨g, cap, cur, rfl, hbb, keeps hb hgg, rest⟩
theorem grown_below {w wr w' : World} {v : Value} {n : Nat} {e : TypeId} {xs : List Value} (hb : Below w.heap.size w wr) (hown : wr.ownsRow w.heap.size e 1 v n xs) (hg : wr.grownBy w' v.ownBlock) : Below w.heap.size w w' :=
  hb.grown hg hb.size (fun k hk => (hown.lt k hk).1)
set_option maxHeartbeats 4000000 in
theorem fvec_one (xs : List Int) (A : Option Addr) (c : Nat) (hx : ElemsOK xs) (hm : xs.length ≤ 2000) (w : World) (hA : ElemsAt w A xs) :
    Calls Try.prog 36 #[.int .u8 1, .slice A xs.length c] w fun e w' => ∃ v, e = .returned v ∧ Below w.heap.size w w' ∧ w'.ownsRow w.heap.size 5 1 v (xs.length * 8) ((vbytes 1 8 xs).map (.int .u8)) := by
  go_enter Try.func36, Try.ntmps36
  go_wp2_with fail
  refine call_then (fvalid_one _) ?_
  intro w1 hb
  go_wp2_with fail
  refine call_then (fsize_one _) ?_
  intro w2 hb2
  replace hb := below_next hb hb.size hb2
  clear hb2
  obtain ⟨cur, hmk, hcur⟩ := make_bytes (xs.length * 8) ((xs.length : Int) * 8) (by simp) (by omega) w2
  have hown0 := World.ownsRow_made w2 cur (xs.length * 8) hb.size (by unfold maxLen; omega) hcur (e := 5) (size := 1)
  have hmul : IntKind.i64.wrap ((xs.length : Int) * 8) = (xs.length : Int) * 8 := by rw [IntKind.wrap_i64]; omega
  go_wp2
  refine name_wp (fun w3 => Below w.heap.size w w3 ∧ w3.ownsRow w.heap.size 5 1 (.slice (some ⟨w2.heap.size, 0, none⟩) 0 (xs.length * 8)) (0 * 8) ((vbytes 1 8 (xs.take 0)).map (.int .u8))) ⟨hb.alloc hb.size _, hown0⟩ ?_
  clear hb hown0 hmk hcur hmul
  generalize w2.heap.size = g0 at *
  rintro w3 ⟨hb, hown⟩
  obtain ⟨i0, hinf, hz0, hz1, hz2⟩ := info_parts info_u8v
  go_loopw [19, 5] (fun i s wr => ∃ (k : Nat), k ≤ xs.length ∧ i = .int .i64 (k : Int) ∧ Below w.heap.size w wr ∧ wr.ownsRow w.heap.size 5 1 s (k * 8) ((vbytes 1 8 (xs.take k)).map (.int .u8))) (fun i _ _ => (xs.length - (intOf i).toNat))
  case atStart => exact ⟨0, Nat.zero_le _, rfl, hb, hown⟩
  case round =>
    clear hb hown
    obtain ⟨k, hk, rfl, hb, hown⟩ := hrel
    by_cases hlt : k < xs.length
    · obtain ⟨b, o, rfl, c0, c1⟩ := (hA.up hb) k hlt
      have hxk := hx.at_ hlt
      have hsucc := Lib.hid (vbytes_succ 1 8 hlt)
      generalize xs.getD k 0 = x at *
      have i0' : (0 : Int) ≤ (k : Int) := by omega
      have i1' : (k : Int) < (xs.length : Int) := by omega
      go_wp2_with fail
      refine (fbytes_one _ _ hxk.1 hxk.2).mono ?_
      rintro e w5 ⟨b2, o2, rfl, hb5, hby⟩
      have hb' := hb.alloc hb.size (.cells #[.int .u64 (lo x), .int .u64 (hi x)] 24 (0, 0))
      have hown' := hown.alloc (.cells #[.int .u64 (lo x), .int .u64 (hi x)] 24 (0, 0))
      replace hb := below_next hb' hb'.size hb5
      replace hown := owns_up hown' hb5
      clear hb' hown' hb5 c0 c1
      go_wp2_with (at_builtin; refine wpList_append_own _ rfl _ _ 44 rfl w.heap.size 5 i0 (.int .u8 0) 1 1 Try.underlying44 hinf hz0 hz1 hz2 rfl (by decide) _ _ _ rfl hown ⟨b2, o2, none⟩ 8 8 ((loBytes 8 (redu 1 x)).map (.int .u8)) rfl (by simp [loBytes_length]) (owns_cells (N := 8) hby) (ints_one _) (by unfold maxLen; omega) (by omega) hb.size ?_; intro v1 w6 hown6 hg6 _; have hb6 := grown_below hb hown hg6; clear hg6)
      refine ⟨⟨k + 1, by omega, by go_num, hb6, ?_⟩, by simp [intOf]; omega⟩
      rw [hsucc.out, List.map_append, Nat.succ_mul]
      exact hown6
    · obtain rfl : k = xs.length := by omega
      go_wp2
      go_ret
      rw [List.take_length] at hown
      exact ⟨_, rfl, hb, hown⟩
set_option maxHeartbeats 4000000 in
theorem fvec_two (xs : List Int) (A : Option Addr) (c : Nat) (hx : ElemsOK xs) (hm : xs.length ≤ 2000) (w : World) (hA : ElemsAt w A xs) :
    Calls Try.prog 36 #[.int .u8 2, .slice A xs.length c] w fun e w' => ∃ v, e = .returned v ∧ Below w.heap.size w w' ∧ w'.ownsRow w.heap.size 5 1 v (xs.length * 16) ((vbytes 2 16 xs).map (.int .u8)) := by
  go_enter Try.func36, Try.ntmps36
  go_wp2_with fail
  refine call_then (fvalid_two _) ?_
  intro w1 hb
  go_wp2_with fail
  refine call_then (fsize_two _) ?_
  intro w2 hb2
  replace hb := below_next hb hb.size hb2
  clear hb2
  obtain ⟨cur, hmk, hcur⟩ := make_bytes (xs.length * 16) ((xs.length : Int) * 16) (by simp) (by omega) w2
  have hown0 := World.ownsRow_made w2 cur (xs.length * 16) hb.size (by unfold maxLen; omega) hcur (e := 5) (size := 1)
  have hmul : IntKind.i64.wrap ((xs.length : Int) * 16) = (xs.length : Int) * 16 := by rw [IntKind.wrap_i64]; omega
  go_wp2
  refine name_wp (fun w3 => Below w.heap.size w w3 ∧ w3.ownsRow w.heap.size 5 1 (.slice (some ⟨w2.heap.size, 0, none⟩) 0 (xs.length * 16)) (0 * 16) ((vbytes 2 16 (xs.take 0)).map (.int .u8))) ⟨hb.alloc hb.size _, hown0⟩ ?_
  clear hb hown0 hmk hcur hmul
  generalize w2.heap.size = g0 at *
  rintro w3 ⟨hb, hown⟩
  obtain ⟨i0, hinf, hz0, hz1, hz2⟩ := info_parts info_u8v
  go_loopw [19, 5] (fun i s wr => ∃ (k : Nat), k ≤ xs.length ∧ i = .int .i64 (k : Int) ∧ Below w.heap.size w wr ∧ wr.ownsRow w.heap.size 5 1 s (k * 16) ((vbytes 2 16 (xs.take k)).map (.int .u8))) (fun i _ _ => (xs.length - (intOf i).toNat))
  case atStart => exact ⟨0, Nat.zero_le _, rfl, hb, hown⟩
  case round =>
    clear hb hown
    obtain ⟨k, hk, rfl, hb, hown⟩ := hrel
    by_cases hlt : k < xs.length
    · obtain ⟨b, o, rfl, c0, c1⟩ := (hA.up hb) k hlt
      have hxk := hx.at_ hlt
      have hsucc := Lib.hid (vbytes_succ 2 16 hlt)
      generalize xs.getD k 0 = x at *
      have i0' : (0 : Int) ≤ (k : Int) := by omega
      have i1' : (k : Int) < (xs.length : Int) := by omega
      go_wp2_with fail
      refine (fbytes_two _ _ hxk.1 hxk.2).mono ?_
      rintro e w5 ⟨b2, o2, rfl, hb5, hby⟩
      have hb' := hb.alloc hb.size (.cells #[.int .u64 (lo x), .int .u64 (hi x)] 24 (0, 0))
      have hown' := hown.alloc (.cells #[.int .u64 (lo x), .int .u64 (hi x)] 24 (0, 0))
      replace hb := below_next hb' hb'.size hb5
      replace hown := owns_up hown' hb5
      clear hb' hown' hb5 c0 c1
      go_wp2_with (at_builtin; refine wpList_append_own _ rfl _ _ 44 rfl w.heap.size 5 i0 (.int .u8 0) 1 1 Try.underlying44 hinf hz0 hz1 hz2 rfl (by decide) _ _ _ rfl hown ⟨b2, o2, none⟩ 16 16 ((loBytes 16 (redu 2 x)).map (.int .u8)) rfl (by simp [loBytes_length]) (owns_cells (N := 16) hby) (ints_one _) (by unfold maxLen; omega) (by omega) hb.size ?_; intro v1 w6 hown6 hg6 _; have hb6 := grown_below hb hown hg6; clear hg6)
      refine ⟨⟨k + 1, by omega, by go_num, hb6, ?_⟩, by simp [intOf]; omega⟩
      rw [hsucc.out, List.map_append, Nat.succ_mul]
      exact hown6
    · obtain rfl : k = xs.length := by omega
      go_wp2
      go_ret
      rw [List.take_length] at hown
      exact ⟨_, rfl, hb, hown⟩
theorem rbytes_slice (f a : Int) (N : Nat) (hN : N ≤ 16) (h1 : 0 < N) (hsz : RsizeBy f N) (a0 : 0 ≤ a) (a1 : a < 340282366920938463463374607431768211456) (hM : M f ≤ 340282366920938463463374607431768211456) (w : World) :
    Calls Try.prog 72 #[.int .i64 f, .agg #[.int .u64 (lo a), .int .u64 (hi a)]] w fun e w' => ∃ g cap, e = .returned (.slice (some ⟨g, 0, none⟩) N cap) ∧ Below w.heap.size w w' ∧ BytesAt w' (some ⟨g, 0, none⟩) (loBytes N (redu f a)) := by
  have hr := redu_lt f a
  refine (rbytesN f a _ N hN hsz a0 a1 rfl (redu_nonneg f a) (by omega) w).mono ?_
  rintro e w' ⟨v, rfl, hb, ho⟩
  have h := ho.2
  rcases h with ⟨_, h0⟩ | ⟨g, cap, cur, rfl, _⟩
  · omega
  · refine ⟨g, cap, rfl, hb, fun k hk => ⟨g, 0, rfl, ?_⟩⟩
    rw [loBytes_length] at hk
    exact ownsRow_cell ho k hk
set_option maxHeartbeats 4000000 in
theorem rvec_one (xs : List Int) (A : Option Addr) (c : Nat) (hx : ElemsOK xs) (hm : xs.length ≤ 2000) (w : World) (hA : ElemsAt w A xs) :
    Calls Try.prog 37 #[.int .i64 1, .slice A xs.length c] w fun e w' => ∃ v, e = .returned v ∧ Below w.heap.size w w' ∧ w'.ownsRow w.heap.size 5 1 v (xs.length * 8) ((vbytes 1 8 xs).map (.int .u8)) := by
  have hrb := fun a w a0 a1 => rbytes_slice 1 a 8 (by omega) (by omega) rsizeBy1 a0 a1 (by decide) w
  replace hrb := Lib.hid hrb
  go_enter Try.func37, Try.ntmps37
  go_wp2
  have hown : w.ownsRow w.heap.size 5 1 (.slice none 0 0) (0 * 8) ((vbytes 1 8 (xs.take 0)).map (.int .u8)) := by
    rw [Nat.zero_mul]
    exact World.ownsRow_nil _ _ _ _
  obtain ⟨i0, hinf, hz0, hz1, hz2⟩ := info_parts info_u8v
  go_loopw [6, 5] (fun i s wr => ∃ (k : Nat), k ≤ xs.length ∧ i = .int .i64 (k : Int) ∧ Below w.heap.size w wr ∧ wr.ownsRow w.heap.size 5 1 s (k * 8) ((vbytes 1 8 (xs.take k)).map (.int .u8))) (fun i _ _ => (xs.length - (intOf i).toNat))
  case atStart => exact ⟨0, Nat.zero_le _, rfl, Below.refl _ _, hown⟩
  case round =>
    clear hown
    obtain ⟨k, hk, rfl, hb, hown⟩ := hrel
    by_cases hlt : k < xs.length
    · obtain ⟨b, o, rfl, c0, c1⟩ := (hA.up hb) k hlt
      have hxk := hx.at_ hlt
      have hsucc := Lib.hid (vbytes_succ 1 8 hlt)
      generalize xs.getD k 0 = x at *
      have i0' : (0 : Int) ≤ (k : Int) := by omega
      have i1' : (k : Int) < (xs.length : Int) := by omega
      go_wp2_with fail
      refine (hrb.out _ _ hxk.1 hxk.2).mono ?_
      rintro e w5 ⟨b2, cap2, rfl, hb5, hby⟩
      replace hb := below_next hb hb.size hb5
      replace hown := owns_up hown hb5
      clear hb5 c0 c1
      go_wp2_with (at_builtin; refine wpList_append_own _ rfl _ _ 44 rfl w.heap.size 5 i0 (.int .u8 0) 1 1 Try.underlying44 hinf hz0 hz1 hz2 rfl (by decide) _ _ _ rfl hown ⟨b2, 0, none⟩ 8 cap2 ((loBytes 8 (redu 1 x)).map (.int .u8)) rfl (by simp [loBytes_length]) (owns_cells (N := 8) hby) (ints_one _) (by unfold maxLen; omega) (by omega) hb.size ?_; intro v1 w6 hown6 hg6 _; have hb6 := grown_below hb hown hg6; clear hg6)
      refine ⟨⟨k + 1, by omega, by go_num, hb6, ?_⟩, by simp [intOf]; omega⟩
      rw [hsucc.out, List.map_append, Nat.succ_mul]
      exact hown6
    · obtain rfl : k = xs.length := by omega
      go_wp2
      go_ret
      rw [List.take_length] at hown
      exact ⟨_, rfl, hb, hown⟩
set_option maxHeartbeats 4000000 in
theorem rvec_two (xs : List Int) (A : Option Addr) (c : Nat) (hx : ElemsOK xs) (hm : xs.length ≤ 2000) (w : World) (hA : ElemsAt w A xs) :
    Calls Try.prog 37 #[.int .i64 2, .slice A xs.length c] w fun e w' => ∃ v, e = .returned v ∧ Below w.heap.size w w' ∧ w'.ownsRow w.heap.size 5 1 v (xs.length * 16) ((vbytes 2 16 xs).map (.int .u8)) := by
  have hrb := fun a w a0 a1 => rbytes_slice 2 a 16 (by omega) (by omega) rsizeBy2 a0 a1 (by decide) w
  replace hrb := Lib.hid hrb
  go_enter Try.func37, Try.ntmps37
  go_wp2
  have hown : w.ownsRow w.heap.size 5 1 (.slice none 0 0) (0 * 16) ((vbytes 2 16 (xs.take 0)).map (.int .u8)) := by
    rw [Nat.zero_mul]
    exact World.ownsRow_nil _ _ _ _
  obtain ⟨i0, hinf, hz0, hz1, hz2⟩ := info_parts info_u8v
  go_loopw [6, 5] (fun i s wr => ∃ (k : Nat), k ≤ xs.length ∧ i = .int .i64 (k : Int) ∧ Below w.heap.size w wr ∧ wr.ownsRow w.heap.size 5 1 s (k * 16) ((vbytes 2 16 (xs.take k)).map (.int .u8))) (fun i _ _ => (xs.length - (intOf i).toNat))
  case atStart => exact ⟨0, Nat.zero_le _, rfl, Below.refl _ _, hown⟩
  case round =>
    clear hown
    obtain ⟨k, hk, rfl, hb, hown⟩ := hrel
    by_cases hlt : k < xs.length
    · obtain ⟨b, o, rfl, c0, c1⟩ := (hA.up hb) k hlt
      have hxk := hx.at_ hlt
      have hsucc := Lib.hid (vbytes_succ 2 16 hlt)
      generalize xs.getD k 0 = x at *
      have i0' : (0 : Int) ≤ (k : Int) := by omega
      have i1' : (k : Int) < (xs.length : Int) := by omega
      go_wp2_with fail
      refine (hrb.out _ _ hxk.1 hxk.2).mono ?_
      rintro e w5 ⟨b2, cap2, rfl, hb5, hby⟩
      replace hb := below_next hb hb.size hb5
      replace hown := owns_up hown hb5
      clear hb5 c0 c1
      go_wp2_with (at_builtin; refine wpList_append_own _ rfl _ _ 44 rfl w.heap.size 5 i0 (.int .u8 0) 1 1 Try.underlying44 hinf hz0 hz1 hz2 rfl (by decide) _ _ _ rfl hown ⟨b2, 0, none⟩ 16 cap2 ((loBytes 16 (redu 2 x)).map (.int .u8)) rfl (by simp [loBytes_length]) (owns_cells (N := 16) hby) (ints_one _) (by unfold maxLen; omega) (by omega) hb.size ?_; intro v1 w6 hown6 hg6 _; have hb6 := grown_below hb hown hg6; clear hg6)
      refine ⟨⟨k + 1, by omega, by go_num, hb6, ?_⟩, by simp [intOf]; omega⟩
      rw [hsucc.out, List.map_append, Nat.succ_mul]
      exact hown6
    · obtain rfl : k = xs.length := by omega
      go_wp2
      go_ret
      rw [List.take_length] at hown
      exact ⟨_, rfl, hb, hown⟩
set_option maxHeartbeats 4000000 in
theorem rsame_eq (xs : List Int) (A B : Option Addr) (c d : Nat) (hm : xs.length ≤ 5000) (w : World) (hA : ElemsAt w A xs) (hB : ElemsAt w B xs) :
    Calls Try.prog 38 #[.slice A xs.length c, .slice B xs.length d] w fun e w' => e = .returned (.bool true) ∧ Below w.heap.size w w' := by
  go_enter Try.func38, Try.ntmps38
  go_wp2
  go_loopw [5] (fun i wr => ∃ (k : Nat), k ≤ xs.length ∧ i = .int .i64 (k : Int) ∧ Below w.heap.size w wr) (fun i _ => (xs.length - (intOf i).toNat))
  case atStart => exact ⟨0, Nat.zero_le _, rfl, Below.refl _ _⟩
  case round =>
    obtain ⟨k, hk, rfl, hb⟩ := hrel
    by_cases hlt : k < xs.length
    · obtain ⟨b, o, rfl, c0, c1⟩ := (hA.up hb) k hlt
      obtain ⟨b2, o2, rfl, d0, d1⟩ := (hB.up hb) k hlt
      generalize xs.getD k 0 = x at *
      have i0' : (0 : Int) ≤ (k : Int) := by omega
      have i1' : (k : Int) < (xs.length : Int) := by omega
      go_wp2
      refine wp_region_flow0 (by kernel_rfl) (by kernel_rfl) ?_
      intro ι _ φ hφ
      have a0 : ∀ i, (φ i).cell? ⟨b, o + k * 2, none⟩ = some (.int .u64 (lo x)) := fun i => ((hφ.old i).cell (World.block_lt_of_cell? _ _ c0)).trans c0
      have a1 : ∀ i, (φ i).cell? ⟨b, o + k * 2 + 1, none⟩ = some (.int .u64 (hi x)) := fun i => ((hφ.old i).cell (World.block_lt_of_cell? _ _ c1)).trans c1
      have a2 : ∀ i, (φ i).cell? ⟨b2, o2 + k * 2, none⟩ = some (.int .u64 (lo x)) := fun i => ((hφ.old i).cell (World.block_lt_of_cell? _ _ d0)).trans d0
      have a3 : ∀ i, (φ i).cell? ⟨b2, o2 + k * 2 + 1, none⟩ = some (.int .u64 (hi x)) := fun i => ((hφ.old i).cell (World.block_lt_of_cell? _ _ d1)).trans d1
      clear c0 c1 d0 d1
      repeat (go_big_quiet_step (fail))
      refine wpQuiet_nil ?_
      intro w2 hw2
      replace hb := below_next hb hb.size hw2
      clear a0 a1 a2 a3 hφ
      go_wp2
      exact ⟨⟨k + 1, by omega, by go_num, hb⟩, by simp [intOf]; omega⟩
    · obtain rfl : k = xs.length := by omega
      go_wp2
      go_ret
      exact ⟨rfl, hb⟩
end Go.Proofs.Ytokdbedineoklaa
