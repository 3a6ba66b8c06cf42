/-
  Contracts of Field's TakeVec.
-/
import Derived.Test.YtokdbedineoklaaVecBytes
namespace Go.Proofs.Ytokdbedineoklaa
open Go.RowKit F Flow
set_option linter.unusedVariables false
attribute [local go_sem] eql_elem

/-- The number that the bytes of a place are. -/
def chunk (N : Nat) (ys : List Int) (i : Nat) : Int := loVal ((ys.drop (i * N)).take N)
def chunks (N : Nat) (ys : List Int) (k : Nat) : List Int := (List.range k).map (chunk N ys)
theorem chunks_length (N : Nat) (ys : List Int) (k : Nat) : (chunks N ys k).length = k := by simp [chunks]
theorem chunks_at (N : Nat) (ys : List Int) {k i : Nat} (h : i < k) : (chunks N ys k).getD i 0 = chunk N ys i := by simp [chunks, h]
def FtakeBy (n f : Int) (N : Nat) : Prop := ∀ (A : Option Addr) (c : Nat) (ys : List Int) (V : Int) (w : World), ys.length = N → BytesOK ys → loVal ys = V → BytesAt w A ys →
  (V < M f → Calls Try.prog 31 #[.int .u8 n, .slice A N c] w fun e w' => e = .returned (.tuple #[.agg #[.int .u64 (lo V), .int .u64 (hi V)], .int .i64 0]) ∧ Below w.heap.size w w') ∧
  (¬ V < M f → Calls Try.prog 31 #[.int .u8 n, .slice A N c] w fun e w' => e = .returned (.tuple #[.agg #[.int .u64 0, .int .u64 0], .int .i64 7]) ∧ Below w.heap.size w w')
theorem ftakeBy_one : FtakeBy 1 1 8 := by
  intro A c ys V w hN hys hV hA
  refine ⟨fun hd => ?_, fun hd => ftake_one_out A c ys hN hys V hV hd w hA⟩
  have h := ftake_one_in A c ys hN hys V hV hd w hA
  have v0 : 0 ≤ V := by rw [← hV]; exact (loVal_bound ys hys).1
  have v1 : V < 18446744073709551616 := by have : M 1 = 18446744069414584321 := rfl; omega
  rw [lo_of_lt v0 v1, hi_of_lt v0 v1]
  exact h
theorem ftakeBy_two : FtakeBy 2 2 16 := fun A c ys V w hN hys hV hA => ⟨fun hd => ftake_two_in A c ys hN hys V hV hd w hA, fun hd => ftake_two_out A c ys hN hys V hV hd w hA⟩
theorem ftake_size (n : Int) (N : Nat) (A : Option Addr) (c len : Nat) (hl : len ≠ N) (hm : len ≤ 100000) (hN : N ≤ 16)
    (hval : ∀ w, Calls Try.prog 29 #[.int .u8 n] w fun e w' => e = .returned (.bool true) ∧ Below w.heap.size w w')
    (hsz : ∀ w, Calls Try.prog 27 #[.int .u8 n] w fun e w' => e = .returned (.int .i64 (N : Int)) ∧ Below w.heap.size w w') (w : World) :
    Calls Try.prog 31 #[.int .u8 n, .slice A len c] w fun e w' => e = .returned (.tuple #[.agg #[.int .u64 0, .int .u64 0], .int .i64 9]) ∧ Below w.heap.size w w' := by
  have hne : (len : Int) ≠ (N : Int) := by omega
  replace hval := Lib.hid hval
  replace hsz := Lib.hid hsz
  go_enter Try.func31, Try.ntmps31
  go_wp2_with fail
  refine name_calls (fun w1 => Below w.heap.size w w1 ∧ Holds w1 w.heap.size 0) ⟨(Below.refl _ _).alloc (Nat.le_refl _) _, alloc_at rfl⟩ ?_
  rintro w1 ⟨hb, k0⟩
  refine call_then (hval.out _) ?_
  intro w2 hb2
  replace hb := below_next hb hb.size hb2
  replace k0 := k0.up hb2
  clear hb2
  go_wp2_with fail
  refine call_then (hsz.out _) ?_
  intro w3 hb2
  replace hb := below_next hb hb.size hb2
  replace k0 : w3.heap[w.heap.size]? = some (.cells #[.int .u64 0, .int .u64 0] 24 (0, 0)) := k0.up hb2
  clear hb2
  obtain ⟨q0, q1, q2, q3⟩ := blk2 k0
  go_wp2
  obtain ⟨p2, q2, _, _⟩ := blk2 (store2 (u := .int .u64 0) (v := .int .u64 0) k0)
  exact bodyPost_ret (v := .tuple #[.agg #[.int .u64 0, .int .u64 0], .int .i64 9]) (by simp [results, Try.results31, go_sem, p2, q2]) rfl ⟨rfl, below_store2 hb (Nat.le_refl _)⟩
/-- The bytes of a place, as they came in. -/
theorem bytesAt_part {w : World} {A : Option Addr} {ys : List Int} (h : BytesAt w A ys) {b o i n : Nat} (hA : A = some ⟨b, o, none⟩) : BytesAt w (some ⟨b, o + i, none⟩) ((ys.drop i).take n) := by
  intro k hk
  have hk' : k < n ∧ i + k < ys.length := by simp at hk; omega
  obtain ⟨b', o', e, hc⟩ := h (i + k) hk'.2
  rw [hA] at e
  cases e
  refine ⟨b, o + i, rfl, ?_⟩
  rw [Nat.add_assoc, hc]
  simp [hk'.1, hk'.2]
theorem ftakevec_rangeone (A : Option Addr) (c len : Nat) (many : Int) (h : many < 0 ∨ 4096 < many) (w : World) :
    Calls Try.prog 32 #[.int .u8 1, .slice A len c, .int .i64 many] w fun e w' => e = .returned (.tuple #[.slice none 0 0, .int .i64 6]) ∧ Below w.heap.size w w' := by
  by_cases h1 : many < 0
  · go_enter Try.func32, Try.ntmps32
    go_wp2_with fail
    refine call_then (fvalid_one _) ?_
    intro w1 hb
    go_wp2
    exact bodyPost_ret (v := .tuple #[.slice none 0 0, .int .i64 6]) (by simp [results, Try.results32]) rfl ⟨rfl, hb⟩
  · have h2 : 4096 < many := by omega
    go_enter Try.func32, Try.ntmps32
    go_wp2_with fail
    refine call_then (fvalid_one _) ?_
    intro w1 hb
    go_wp2
    exact bodyPost_ret (v := .tuple #[.slice none 0 0, .int .i64 6]) (by simp [results, Try.results32]) rfl ⟨rfl, hb⟩
theorem ftakevec_sizeone (A : Option Addr) (c len : Nat) (k : Nat) (hk : k ≤ 4096) (hl : len ≤ 100000) (h : len ≠ k * 8) (w : World) :
    Calls Try.prog 32 #[.int .u8 1, .slice A len c, .int .i64 (k : Int)] w fun e w' => e = .returned (.tuple #[.slice none 0 0, .int .i64 9]) ∧ Below w.heap.size w w' := by
  have h0 : (0 : Int) ≤ (k : Int) := by omega
  have h1 : (k : Int) ≤ 4096 := by omega
  have hmul : IntKind.i64.wrap ((k : Int) * 8) = (k : Int) * 8 := by rw [IntKind.wrap_i64]; omega
  have hne : (len : Int) ≠ (k : Int) * 8 := by omega
  go_enter Try.func32, Try.ntmps32
  go_wp2_with fail
  refine call_then (fvalid_one _) ?_
  intro w1 hb
  go_wp2_with fail
  refine call_then (fsize_one _) ?_
  intro w2 hb2
  replace hb := below_next hb hb.size hb2
  go_wp2
  exact bodyPost_ret (v := .tuple #[.slice none 0 0, .int .i64 9]) (by simp [results, Try.results32]) rfl ⟨rfl, hb⟩
set_option maxHeartbeats 4000000 in
theorem ftakevec_one (A : Option Addr) (c : Nat) (ys : List Int) (k : Nat) (hk : k ≤ 4096) (hys : BytesOK ys) (hl : ys.length = k * 8) (hc : ys.length ≤ c) (w : World) (hA : BytesAt w A ys) :
    Calls Try.prog 32 #[.int .u8 1, .slice A ys.length c, .int .i64 (k : Int)] w fun e w' => Below w.heap.size w w' ∧
      ((∃ g, e = .returned (.tuple #[.slice (some ⟨g, 0, none⟩) k k, .int .i64 0]) ∧ Row w' g (chunks 8 ys k) ∧ ∀ i, i < k → chunk 8 ys i < M 1) ∨
       (e = .returned (.tuple #[.slice none 0 0, .int .i64 7]) ∧ ∃ i, i < k ∧ (∀ j, j < i → chunk 8 ys j < M 1) ∧ ¬ chunk 8 ys i < M 1)) := by
  have hmk := make_elems k (by omega)
  have h0 : (0 : Int) ≤ (k : Int) := by omega
  have h1 : (k : Int) ≤ 4096 := by omega
  have hmul : IntKind.i64.wrap ((k : Int) * 8) = (k : Int) * 8 := by rw [IntKind.wrap_i64]; omega
  have heq : (ys.length : Int) = (k : Int) * 8 := by omega
  go_enter Try.func32, Try.ntmps32
  go_wp2_with fail
  refine call_then (fvalid_one _) ?_
  intro w1 hb
  go_wp2_with fail
  refine call_then (fsize_one _) ?_
  intro w2 hb2
  replace hb := below_next hb hb.size hb2
  clear hb2
  go_wp2
  refine name_wp (fun w3 => Below w.heap.size w w3 ∧ Row w3 w2.heap.size ((chunks 8 ys k).take 0 ++ List.replicate (k - 0) 0)) ⟨hb.alloc hb.size _, by rw [List.take_zero, List.nil_append, Nat.sub_zero]; exact alloc_at rfl⟩ ?_
  have hg := hb.size
  clear hb hmk hmul
  generalize w2.heap.size = g at *
  rintro w3 ⟨hb, hr⟩
  have hcl := Lib.hid (chunks_length 8 ys k)
  have hck := Lib.hid (fun i (h : i < k) => chunks_at 8 ys h)
  go_loopw [34] (fun i wr => ∃ j : Nat, j ≤ k ∧ i = .int .i64 (j : Int) ∧ Below w.heap.size w wr ∧ Row wr g ((chunks 8 ys k).take j ++ List.replicate (k - j) 0) ∧ Hid (∀ i, i < j → chunk 8 ys i < M 1)) (fun i _ => (k - (intOf i).toNat))
  case atStart => exact ⟨0, Nat.zero_le _, rfl, hb, hr, Lib.hid (fun i h => absurd h (Nat.not_lt_zero _))⟩
  case round =>
    clear hb hr
    obtain ⟨j, hj, rfl, hb, hr, hall⟩ := hrel
    by_cases hlt : j < k
    · obtain ⟨b, o, hAe, _⟩ := hA (j * 8) (by omega)
      have hpart := bytesAt_part (hA.up hb) (i := j * 8) (n := 8) hAe
      subst hAe
      have hV := Lib.hid (show loVal ((ys.drop (j * 8)).take 8) = chunk 8 ys j from rfl)
      have hlen : ((ys.drop (j * 8)).take 8).length = 8 := by simp; omega
      have hok' : BytesOK ((ys.drop (j * 8)).take 8) := fun y hy => hys y (List.mem_of_mem_drop (List.mem_of_mem_take hy))
      have ht := fun c' => ftakeBy_one (some ⟨b, o + j * 8, none⟩) c' _ _ wr hlen hok' hV.out hpart
      clear hpart hlen hok' hV
      have j0 : (0 : Int) ≤ (j : Int) := by omega
      have j1 : (j : Int) < (k : Int) := by omega
      have hm1 : IntKind.i64.wrap ((j : Int) * 8) = (j : Int) * 8 := by rw [IntKind.wrap_i64]; omega
      have hm2 : IntKind.i64.wrap (((j : Int) + 1) * 8) = ((j : Int) + 1) * 8 := by rw [IntKind.wrap_i64]; omega
      have hcj := Lib.hid (hck.out j hlt)
      replace ht := Lib.hid ht
      replace hall' := hall
      go_wp2_with fail
      rw [show (j + 1) * 8 - j * 8 = 8 by omega]
      by_cases hok : chunk 8 ys j < M 1
      · have hall2 : Hid (∀ i, i < j + 1 → chunk 8 ys i < M 1) := Lib.hid (fun i hi => by
          by_cases hij : i < j
          · exact hall.out i hij
          · obtain rfl : i = j := by omega
            exact hok)
        have hset := Lib.hid (set_take hlt hcl.out hcj.out)
        have hlen : j < ((chunks 8 ys k).take j ++ List.replicate (k - j) 0).length := by have := hcl.out; simp; omega
        have hcall := (ht.out (c - j * 8)).1 hok
        generalize chunk 8 ys j = z at *
        clear hok ht
        refine call_then hcall ?_
        intro w5 hb2
        replace hb := below_next hb hb.size hb2
        replace hr := hr.up hb2
        clear hb2 hcall
        have hgl : g < w5.heap.size := lt_of_get hr
        have hgn : g ≠ w5.heap.size := Nat.ne_of_lt hgl
        have s0 := hr.lo hlen
        have s1 := hr.hi hlen
        have f0 := hr.free (j * 2)
        have f1 := hr.free (j * 2 + 1)
        replace hlen := Lib.hid hlen
        go_wp2
        refine ⟨⟨j + 1, by omega, by go_num, (((hb.setCell (p := ⟨g, j * 2, none⟩) hg _).setCell (p := ⟨g, j * 2 + 1, none⟩) hg _).alloc (by simpa using hb.size) _), ?_, hall2⟩, by simp [intOf]; omega⟩
        rw [← hset.out]
        exact (hr.set hlen.out z).alloc _
      · have hcall := (ht.out (c - j * 8)).2 (by first | exact hok | exact Int.not_lt.1 hok)
        replace hok := Lib.hid hok
        clear ht
        refine call_then hcall ?_
        intro w5 hb2
        replace hb := below_next hb hb.size hb2
        clear hb2 hcall hr
        go_wp2
        trace_state
        exact bodyPost_ret (v := .tuple #[.slice none 0 0, .int .i64 7]) (by simp [results, Try.results32]) rfl ⟨hb.alloc hb.size _, .inr ⟨rfl, j, hlt, hall.out, hok.out⟩⟩
    · obtain rfl : j = k := by omega
      rw [Nat.sub_self, List.replicate_zero, List.append_nil, List.take_of_length_le (by rw [hcl.out]; exact Nat.le_refl _)] at hr
      replace hr := Lib.hid hr
      go_wp2
      exact bodyPost_ret (v := .tuple #[.slice (some ⟨g, 0, none⟩) j j, .int .i64 0]) (by simp [results, Try.results32]) rfl ⟨hb, .inl ⟨g, rfl, hr.out, hall.out⟩⟩
theorem ftakevec_rangetwo (A : Option Addr) (c len : Nat) (many : Int) (h : many < 0 ∨ 4096 < many) (w : World) :
    Calls Try.prog 32 #[.int .u8 2, .slice A len c, .int .i64 many] w fun e w' => e = .returned (.tuple #[.slice none 0 0, .int .i64 6]) ∧ Below w.heap.size w w' := by
  by_cases h1 : many < 0
  · go_enter Try.func32, Try.ntmps32
    go_wp2_with fail
    refine call_then (fvalid_two _) ?_
    intro w1 hb
    go_wp2
    exact bodyPost_ret (v := .tuple #[.slice none 0 0, .int .i64 6]) (by simp [results, Try.results32]) rfl ⟨rfl, hb⟩
  · have h2 : 4096 < many := by omega
    go_enter Try.func32, Try.ntmps32
    go_wp2_with fail
    refine call_then (fvalid_two _) ?_
    intro w1 hb
    go_wp2
    exact bodyPost_ret (v := .tuple #[.slice none 0 0, .int .i64 6]) (by simp [results, Try.results32]) rfl ⟨rfl, hb⟩
theorem ftakevec_sizetwo (A : Option Addr) (c len : Nat) (k : Nat) (hk : k ≤ 4096) (hl : len ≤ 100000) (h : len ≠ k * 16) (w : World) :
    Calls Try.prog 32 #[.int .u8 2, .slice A len c, .int .i64 (k : Int)] w fun e w' => e = .returned (.tuple #[.slice none 0 0, .int .i64 9]) ∧ Below w.heap.size w w' := by
  have h0 : (0 : Int) ≤ (k : Int) := by omega
  have h1 : (k : Int) ≤ 4096 := by omega
  have hmul : IntKind.i64.wrap ((k : Int) * 16) = (k : Int) * 16 := by rw [IntKind.wrap_i64]; omega
  have hne : (len : Int) ≠ (k : Int) * 16 := by omega
  go_enter Try.func32, Try.ntmps32
  go_wp2_with fail
  refine call_then (fvalid_two _) ?_
  intro w1 hb
  go_wp2_with fail
  refine call_then (fsize_two _) ?_
  intro w2 hb2
  replace hb := below_next hb hb.size hb2
  go_wp2
  exact bodyPost_ret (v := .tuple #[.slice none 0 0, .int .i64 9]) (by simp [results, Try.results32]) rfl ⟨rfl, hb⟩
set_option maxHeartbeats 4000000 in
theorem ftakevec_two (A : Option Addr) (c : Nat) (ys : List Int) (k : Nat) (hk : k ≤ 4096) (hys : BytesOK ys) (hl : ys.length = k * 16) (hc : ys.length ≤ c) (w : World) (hA : BytesAt w A ys) :
    Calls Try.prog 32 #[.int .u8 2, .slice A ys.length c, .int .i64 (k : Int)] w fun e w' => Below w.heap.size w w' ∧
      ((∃ g, e = .returned (.tuple #[.slice (some ⟨g, 0, none⟩) k k, .int .i64 0]) ∧ Row w' g (chunks 16 ys k) ∧ ∀ i, i < k → chunk 16 ys i < M 2) ∨
       (e = .returned (.tuple #[.slice none 0 0, .int .i64 7]) ∧ ∃ i, i < k ∧ (∀ j, j < i → chunk 16 ys j < M 2) ∧ ¬ chunk 16 ys i < M 2)) := by
  have hmk := make_elems k (by omega)
  have h0 : (0 : Int) ≤ (k : Int) := by omega
  have h1 : (k : Int) ≤ 4096 := by omega
  have hmul : IntKind.i64.wrap ((k : Int) * 16) = (k : Int) * 16 := by rw [IntKind.wrap_i64]; omega
  have heq : (ys.length : Int) = (k : Int) * 16 := by omega
  go_enter Try.func32, Try.ntmps32
  go_wp2_with fail
  refine call_then (fvalid_two _) ?_
  intro w1 hb
  go_wp2_with fail
  refine call_then (fsize_two _) ?_
  intro w2 hb2
  replace hb := below_next hb hb.size hb2
  clear hb2
  go_wp2
  refine name_wp (fun w3 => Below w.heap.size w w3 ∧ Row w3 w2.heap.size ((chunks 16 ys k).take 0 ++ List.replicate (k - 0) 0)) ⟨hb.alloc hb.size _, by rw [List.take_zero, List.nil_append, Nat.sub_zero]; exact alloc_at rfl⟩ ?_
  have hg := hb.size
  clear hb hmk hmul
  generalize w2.heap.size = g at *
  rintro w3 ⟨hb, hr⟩
  have hcl := Lib.hid (chunks_length 16 ys k)
  have hck := Lib.hid (fun i (h : i < k) => chunks_at 16 ys h)
  go_loopw [34] (fun i wr => ∃ j : Nat, j ≤ k ∧ i = .int .i64 (j : Int) ∧ Below w.heap.size w wr ∧ Row wr g ((chunks 16 ys k).take j ++ List.replicate (k - j) 0) ∧ Hid (∀ i, i < j → chunk 16 ys i < M 2)) (fun i _ => (k - (intOf i).toNat))
  case atStart => exact ⟨0, Nat.zero_le _, rfl, hb, hr, Lib.hid (fun i h => absurd h (Nat.not_lt_zero _))⟩
  case round =>
    clear hb hr
    obtain ⟨j, hj, rfl, hb, hr, hall⟩ := hrel
    by_cases hlt : j < k
    · obtain ⟨b, o, hAe, _⟩ := hA (j * 16) (by omega)
      have hpart := bytesAt_part (hA.up hb) (i := j * 16) (n := 16) hAe
      subst hAe
      have hV := Lib.hid (show loVal ((ys.drop (j * 16)).take 16) = chunk 16 ys j from rfl)
      have hlen : ((ys.drop (j * 16)).take 16).length = 16 := by simp; omega
      have hok' : BytesOK ((ys.drop (j * 16)).take 16) := fun y hy => hys y (List.mem_of_mem_drop (List.mem_of_mem_take hy))
      have ht := fun c' => ftakeBy_two (some ⟨b, o + j * 16, none⟩) c' _ _ wr hlen hok' hV.out hpart
      clear hpart hlen hok' hV
      have j0 : (0 : Int) ≤ (j : Int) := by omega
      have j1 : (j : Int) < (k : Int) := by omega
      have hm1 : IntKind.i64.wrap ((j : Int) * 16) = (j : Int) * 16 := by rw [IntKind.wrap_i64]; omega
      have hm2 : IntKind.i64.wrap (((j : Int) + 1) * 16) = ((j : Int) + 1) * 16 := by rw [IntKind.wrap_i64]; omega
      have hcj := Lib.hid (hck.out j hlt)
      replace ht := Lib.hid ht
      replace hall' := hall
      go_wp2_with fail
      rw [show (j + 1) * 16 - j * 16 = 16 by omega]
      by_cases hok : chunk 16 ys j < M 2
      · have hall2 : Hid (∀ i, i < j + 1 → chunk 16 ys i < M 2) := Lib.hid (fun i hi => by
          by_cases hij : i < j
          · exact hall.out i hij
          · obtain rfl : i = j := by omega
            exact hok)
        have hset := Lib.hid (set_take hlt hcl.out hcj.out)
        have hlen : j < ((chunks 16 ys k).take j ++ List.replicate (k - j) 0).length := by have := hcl.out; simp; omega
        have hcall := (ht.out (c - j * 16)).1 hok
        generalize chunk 16 ys j = z at *
        clear hok ht
        refine call_then hcall ?_
        intro w5 hb2
        replace hb := below_next hb hb.size hb2
        replace hr := hr.up hb2
        clear hb2 hcall
        have hgl : g < w5.heap.size := lt_of_get hr
        have hgn : g ≠ w5.heap.size := Nat.ne_of_lt hgl
        have s0 := hr.lo hlen
        have s1 := hr.hi hlen
        have f0 := hr.free (j * 2)
        have f1 := hr.free (j * 2 + 1)
        replace hlen := Lib.hid hlen
        go_wp2
        refine ⟨⟨j + 1, by omega, by go_num, (((hb.setCell (p := ⟨g, j * 2, none⟩) hg _).setCell (p := ⟨g, j * 2 + 1, none⟩) hg _).alloc (by simpa using hb.size) _), ?_, hall2⟩, by simp [intOf]; omega⟩
        rw [← hset.out]
        exact (hr.set hlen.out z).alloc _
      · have hcall := (ht.out (c - j * 16)).2 (by first | exact hok | exact Int.not_lt.1 hok)
        replace hok := Lib.hid hok
        clear ht
        refine call_then hcall ?_
        intro w5 hb2
        replace hb := below_next hb hb.size hb2
        clear hb2 hcall hr
        go_wp2
        trace_state
        exact bodyPost_ret (v := .tuple #[.slice none 0 0, .int .i64 7]) (by simp [results, Try.results32]) rfl ⟨hb.alloc hb.size _, .inr ⟨rfl, j, hlt, hall.out, hok.out⟩⟩
    · obtain rfl : j = k := by omega
      rw [Nat.sub_self, List.replicate_zero, List.append_nil, List.take_of_length_le (by rw [hcl.out]; exact Nat.le_refl _)] at hr
      replace hr := Lib.hid hr
      go_wp2
      exact bodyPost_ret (v := .tuple #[.slice (some ⟨g, 0, none⟩) j j, .int .i64 0]) (by simp [results, Try.results32]) rfl ⟨hb, .inl ⟨g, rfl, hr.out, hall.out⟩⟩
end Go.Proofs.Ytokdbedineoklaa
