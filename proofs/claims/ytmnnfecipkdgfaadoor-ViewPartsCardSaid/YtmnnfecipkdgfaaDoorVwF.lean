/-
  What came of a window, as a text: the program's, the law's own.
-/
import Derived.Test.YtmnnfecipkdgfaaDoorVwE
namespace Go.Proofs.YtmnnfecipkdgfaaDoor
open Go.RowKit Flow Go.Sort
set_option linter.unusedVariables false
set_option linter.unusedSimpArgs false

def WordsIn (w : World) (A : Option Addr) (zs : List Int) : Prop := ∀ k, k < zs.length → ∃ b o, A = some ⟨b, o, none⟩ ∧ w.cell? ⟨b, o + k, none⟩ = some (.int .u64 (zs.getD k 0))
theorem WordsIn.up {w w' : World} {A : Option Addr} {xs : List Int} (h : WordsIn w A xs) (hb : Below w.heap.size w w') : WordsIn w' A xs := fun k hk => by
  obtain ⟨b, o, e, h0⟩ := h k hk
  exact ⟨b, o, e, (hb.cell (World.block_lt_of_cell? _ _ h0)).trans h0⟩
def sumsS (a : ByteArray) (zs : List Int) : ByteArray := zs.foldl (fun a z => a ++ ((⟨#[32]⟩ : ByteArray) ++ prn z.toNat)) a
theorem sumsS_snoc (a : ByteArray) (zs : List Int) (z : Int) : sumsS a (zs ++ [z]) = sumsS a zs ++ ((⟨#[32]⟩ : ByteArray) ++ prn z.toNat) := by
  unfold sumsS
  rw [List.foldl_append]
  rfl
theorem sumsS_size' : ∀ (zs : List Int) (a : ByteArray) (B : Int), (a.size : Int) ≤ B → (∀ z, z ∈ zs → 0 ≤ z ∧ z < 18446744073709551616) → ((sumsS a zs).size : Int) ≤ B + 40 * zs.length
  | [], a, B, ha, _ => by simpa [sumsS] using ha
  | z :: zs, a, B, ha, h => by
    have h2 := prn_size (u := z.toNat) (by have := h z (by simp); omega)
    have e : (⟨#[32]⟩ : ByteArray).size = 1 := rfl
    have := sumsS_size' zs (a ++ ((⟨#[32]⟩ : ByteArray) ++ prn z.toNat)) (B + 40) (by rw [ByteArray.size_append, ByteArray.size_append]; omega) (fun y hy => h y (List.mem_cons_of_mem _ hy))
    rw [show sumsS a (z :: zs) = sumsS (a ++ ((⟨#[32]⟩ : ByteArray) ++ prn z.toNat)) zs from rfl, List.length_cons]
    omega
theorem sumsS_size {a : ByteArray} (ha : (a.size : Int) ≤ 300) (zs : List Int) (h : ∀ z, z ∈ zs → 0 ≤ z ∧ z < 18446744073709551616) : ((sumsS a zs).size : Int) ≤ 300 + 40 * zs.length := sumsS_size' zs a 300 ha h
def headS (s : Nat) (c : Int) : ByteArray := (⟨#[119, 105, 110, 100, 111, 119, 32]⟩ : ByteArray) ++ prn s ++ ⟨#[32]⟩ ++ cods c
def midS (s : Nat) (m c : Int) : ByteArray := headS s c ++ ((⟨#[32, 114, 101, 112, 111, 114, 116, 115, 32]⟩ : ByteArray) ++ prn m.toNat ++ ⟨#[32, 115, 117, 109, 115]⟩)
/-- What came of a window. -/
def resS (s : Nat) (m : Int) (zs : List Int) (c : Int) : ByteArray := if c = 0 then sumsS (midS s m c) zs else headS s c
theorem headS_size {s : Nat} {c : Int} (h1 : s < 18446744073709551616) (h2 : c < 9223372036854775808) : ((headS s c).size : Int) ≤ 100 := by
  have a := prn_size h1
  have b := cods_size h2
  unfold headS
  rw [ByteArray.size_append, ByteArray.size_append, ByteArray.size_append]
  have e1 : (⟨#[119, 105, 110, 100, 111, 119, 32]⟩ : ByteArray).size = 7 := rfl
  have e2 : (⟨#[32]⟩ : ByteArray).size = 1 := rfl
  omega
theorem midS_size {s : Nat} {m c : Int} (h1 : s < 18446744073709551616) (h2 : c < 9223372036854775808) (h3 : m < 9223372036854775808) : ((midS s m c).size : Int) ≤ 200 := by
  have a := headS_size h1 h2
  have b := prn_size (u := m.toNat) (by omega)
  unfold midS
  rw [ByteArray.size_append, ByteArray.size_append, ByteArray.size_append]
  have e1 : (⟨#[32, 114, 101, 112, 111, 114, 116, 115, 32]⟩ : ByteArray).size = 9 := rfl
  have e2 : (⟨#[32, 115, 117, 109, 115]⟩ : ByteArray).size = 5 := rfl
  omega
def resv (s : Nat) (m : Int) (A : Option Addr) (n cp : Nat) (c : Int) : Value := .agg #[.int .u64 (s : Int), .int .i64 m, .slice A n cp, .int .i64 c]
theorem blk4 {w : World} {p : Nat} {t : TypeId} {a b c d : Value} (h : w.heap[p]? = some (.cells #[a, b, c, d] t (0, 0))) : w.cell? ⟨p, 0, none⟩ = some a ∧ w.cell? ⟨p, 1, none⟩ = some b ∧ w.cell? ⟨p, 2, none⟩ = some c ∧ w.cell? ⟨p, 3, none⟩ = some d := by
  simp [World.cell?, h]
-- The walk: function, code's function, number's way, regions.
set_option maxRecDepth 20000 in
set_option maxHeartbeats 4000000 in
theorem vresult_any (s : Nat) (m : Int) (A : Option Addr) (n cp : Nat) (c : Int) (zs : List Int) (hl : zs.length = n) (hn : n ≤ 30) (ho : ∀ z, z ∈ zs → 0 ≤ z ∧ z < 18446744073709551616) (s1 : s < 18446744073709551616) (m1 : m < 9223372036854775808) (c1 : c < 9223372036854775808) (w : World) (hT : Tab w) (hZ : WordsIn w A zs) :
    Calls Tryd.prog 10 #[resv s m A n cp c] w fun e w' => e = .returned (.string (resS s m zs c)) ∧ Below w.heap.size w w' := by
  have hprn := Lib.hid (fun w h => printed_any s s1 w h)
  have hcod := Lib.hid (fun w h => vcode_any c c1 w h)
  have z1 := prn_size s1
  have z2 := cods_size c1
  have z3 := headS_size s1 c1
  have z4 := midS_size s1 c1 m1
  have z5 := prn_size (u := m.toNat) (by omega)
  have hH := Lib.hid (show headS s c = (⟨#[119, 105, 110, 100, 111, 119, 32]⟩ : ByteArray) ++ prn s ++ ⟨#[32]⟩ ++ cods c from rfl)
  have hM := Lib.hid (show midS s m c = ((⟨#[119, 105, 110, 100, 111, 119, 32]⟩ : ByteArray) ++ prn s ++ ⟨#[32]⟩ ++ cods c) ++ ((⟨#[32, 114, 101, 112, 111, 114, 116, 115, 32]⟩ : ByteArray) ++ prn m.toNat ++ ⟨#[32, 115, 117, 109, 115]⟩) from rfl)
  have hZZ := Lib.hid hZ
  have hll := Lib.hid hl
  have hzo := Lib.hid ho
  have hnum := Lib.hid (fun w h => number_any m m1 w h)
  by_cases hc0 : c = 0
  · have b0 : (c == 0) = true := by simp [hc0]
    have b1 : (c != 0) = false := by simp [hc0]
    unfold resS
    rw [if_pos hc0]
    clear hc0
    generalize midS s m c = T0 at *
    generalize headS s c = T1 at *
    generalize prn s = S1 at *
    generalize cods c = S2 at *
    generalize prn m.toNat = S3 at *
    clear s1 m1 c1 ho hl hZ
    unfold resv
    go_enter Tryd.func10, Tryd.ntmps10
    go_upto_region 1 with (fail)
    refine name_wp (fun w1 => Below w.heap.size w w1 ∧ w1.heap[w.heap.size]? = some (.cells #[.int .u64 (s : Int), .int .i64 m, .slice A n cp, .int .i64 c] 36 (0, 0)) ∧ Tab w1) ⟨(Below.refl _ _).alloc (Nat.le_refl _) _, alloc_at rfl, hT.up ((Below.refl _ _).alloc (Nat.le_refl _) _)⟩ ?_
    clear hT
    rintro w1 ⟨hb, k0, hT⟩
    refine wp_region_flow0 (by kernel_rfl) (by kernel_rfl) ?_
    intro ι _ φ hφ
    have q1 := fun i => (blk4 (keeps (hφ.old i) k0)).1
    have q4 := fun i => (blk4 (keeps (hφ.old i) k0)).2.2.2
    have hpr := Lib.hid (fun i => hprn.out (φ i) (hT.up (hφ.old i)))
    have hcd := Lib.hid (fun i => hcod.out (φ i) (hT.up (hφ.old i)))
    repeat (go_big_quiet_step ((first
      | (go_at_call 7; exact flow_call hφ (hpr.out _))
      | (go_at_call 12; exact flow_call hφ (hcd.out _)))))
    refine wpQuiet_nil ?_
    intro w2 hv
    replace hb := below_next hb hb.size hv
    replace k0 := keeps hv k0
    replace hT := hT.up hv
    clear hv hcod
    obtain ⟨e1, e2, e3, e4⟩ := blk4 k0
    go_wp2_with fail
    refine (hnum.out _ hT).mono ?_
    rintro e w4 ⟨rfl, hv⟩
    replace hb := below_next hb hb.size hv
    replace k0 := keeps hv k0
    replace hT := hT.up hv
    clear hv e1 e2 e3 e4
    go_upto_region 5 with (fail)
    rw [← hM.out]
    refine name_wp (fun w3 => Below w.heap.size w w3 ∧ w3.heap[w.heap.size]? = some (.cells #[.int .u64 (s : Int), .int .i64 m, .slice A n cp, .int .i64 c] 36 (0, 0)) ∧ Tab w3) ⟨hb, k0, hT⟩ ?_
    clear hb k0 hT
    rintro w3 ⟨hb, k0, hT⟩
    obtain ⟨e1, e2, e3, e4⟩ := blk4 k0
    go_wp2
    clear e1 e2 e3 e4
    go_loopw [3, 29] (fun v i wr => ∃ k : Nat, k ≤ n ∧ i = .int .i64 (k : Int) ∧ v = .string (sumsS T0 (zs.take k)) ∧ Below w.heap.size w wr ∧ Tab wr) (fun _ i _ => n - (intOf i).toNat)
    case atStart => exact ⟨0, Nat.zero_le _, rfl, rfl, hb, hT⟩
    case round =>
      clear hb k0 hT
      obtain ⟨k, hk, rfl, rfl, hb, hT⟩ := hrel
      by_cases hlt : k < n
      · have k1 : (k : Int) < (n : Int) := by omega
        have k0 : (0 : Int) ≤ (k : Int) := by omega
        have hlt' : k < zs.length := by rw [hll.out]; exact hlt
        obtain ⟨b, o, rfl, hc⟩ := (hZZ.out.up hb) k hlt'
        have hzk : zs.take (k + 1) = zs.take k ++ [zs.getD k 0] := by
          rw [List.take_succ_eq_append_getElem hlt']
          simp [hlt']
        have hz : 0 ≤ zs.getD k 0 ∧ zs.getD k 0 < 18446744073709551616 := hzo.out _ (by simp [hlt'])
        have hsn := Lib.hid (show sumsS T0 (zs.take (k + 1)) = sumsS T0 (zs.take k) ++ ((⟨#[32]⟩ : ByteArray) ++ prn (zs.getD k 0).toNat) by rw [hzk, sumsS_snoc])
        have hsz := sumsS_size (a := T0) (by omega) (zs.take k) (fun y hy => hzo.out y (List.mem_of_mem_take hy))
        have hsl : ((zs.take k).length : Int) ≤ 30 := by rw [List.length_take]; omega
        have hsz2 : ((sumsS T0 (zs.take k)).size : Int) ≤ 2000 := by omega
        obtain ⟨z, hzz⟩ := Int.eq_ofNat_of_zero_le hz.1
        rw [hzz] at hc hsn hz
        rw [Int.toNat_natCast] at hsn
        have hp := Lib.hid (fun w h => printed_any z (by omega) w h)
        have hps := prn_size (u := z) (by omega)
        generalize sumsS T0 (zs.take k) = T at *
        generalize prn z = Pz at *
        clear hzk hsz hsl hzz hz
        go_wp2_with fail
        refine (hp.out _ hT).mono ?_
        rintro e w5 ⟨rfl, hv⟩
        replace hb := below_next hb hb.size hv
        replace hT := hT.up hv
        clear hv
        go_wp2
        exact ⟨⟨k + 1, by omega, by go_num, by rw [hsn.out], hb, hT⟩, by simp [intOf]; omega⟩
      · obtain rfl : n = k := by omega
        have k1 : ¬ (n : Int) < (n : Int) := by omega
        rw [List.take_of_length_le (Nat.le_of_eq hll.out)]
        generalize hT9 : sumsS T0 zs = T at *
        replace hT9 := Lib.hid hT9
        go_wp2
        go_ret
        exact ⟨by rw [hT9.out]; rfl, hb⟩
  · have b0 : (c == 0) = false := by simp [hc0]
    have b1 : (c != 0) = true := by simp [hc0]
    unfold resS
    rw [if_neg hc0]
    clear hc0
    generalize midS s m c = T0 at *
    generalize headS s c = T1 at *
    generalize prn s = S1 at *
    generalize cods c = S2 at *
    generalize prn m.toNat = S3 at *
    clear s1 m1 c1 ho hl hZ
    unfold resv
    go_enter Tryd.func10, Tryd.ntmps10
    go_upto_region 1 with (fail)
    refine name_wp (fun w1 => Below w.heap.size w w1 ∧ w1.heap[w.heap.size]? = some (.cells #[.int .u64 (s : Int), .int .i64 m, .slice A n cp, .int .i64 c] 36 (0, 0)) ∧ Tab w1) ⟨(Below.refl _ _).alloc (Nat.le_refl _) _, alloc_at rfl, hT.up ((Below.refl _ _).alloc (Nat.le_refl _) _)⟩ ?_
    clear hT
    rintro w1 ⟨hb, k0, hT⟩
    refine wp_region_flow0 (by kernel_rfl) (by kernel_rfl) ?_
    intro ι _ φ hφ
    have q1 := fun i => (blk4 (keeps (hφ.old i) k0)).1
    have q4 := fun i => (blk4 (keeps (hφ.old i) k0)).2.2.2
    have hpr := Lib.hid (fun i => hprn.out (φ i) (hT.up (hφ.old i)))
    have hcd := Lib.hid (fun i => hcod.out (φ i) (hT.up (hφ.old i)))
    repeat (go_big_quiet_step ((first
      | (go_at_call 7; exact flow_call hφ (hpr.out _))
      | (go_at_call 12; exact flow_call hφ (hcd.out _)))))
    refine wpQuiet_nil ?_
    intro w2 hv
    replace hb := below_next hb hb.size hv
    replace k0 := keeps hv k0
    replace hT := hT.up hv
    clear hv hcod
    obtain ⟨e1, e2, e3, e4⟩ := blk4 k0
    go_wp2
    go_ret
    exact ⟨by rw [hH.out]; rfl, hb⟩
set_option maxRecDepth 20000 in
set_option maxHeartbeats 4000000 in
theorem lresult_any (s : Nat) (m : Int) (A : Option Addr) (n cp : Nat) (c : Int) (zs : List Int) (hl : zs.length = n) (hn : n ≤ 30) (ho : ∀ z, z ∈ zs → 0 ≤ z ∧ z < 18446744073709551616) (s1 : s < 18446744073709551616) (m1 : m < 9223372036854775808) (c1 : c < 9223372036854775808) (w : World) (hT : Tab w) (hZ : WordsIn w A zs) :
    Calls Tryd.prog 11 #[resv s m A n cp c] w fun e w' => e = .returned (.string (resS s m zs c)) ∧ Below w.heap.size w w' := by
  have hprn := Lib.hid (fun w h => printed_any s s1 w h)
  have hcod := Lib.hid (fun w h => lcode_any c c1 w h)
  have z1 := prn_size s1
  have z2 := cods_size c1
  have z3 := headS_size s1 c1
  have z4 := midS_size s1 c1 m1
  have z5 := prn_size (u := m.toNat) (by omega)
  have hH := Lib.hid (show headS s c = (⟨#[119, 105, 110, 100, 111, 119, 32]⟩ : ByteArray) ++ prn s ++ ⟨#[32]⟩ ++ cods c from rfl)
  have hM := Lib.hid (show midS s m c = ((⟨#[119, 105, 110, 100, 111, 119, 32]⟩ : ByteArray) ++ prn s ++ ⟨#[32]⟩ ++ cods c) ++ ((⟨#[32, 114, 101, 112, 111, 114, 116, 115, 32]⟩ : ByteArray) ++ prn m.toNat ++ ⟨#[32, 115, 117, 109, 115]⟩) from rfl)
  have hZZ := Lib.hid hZ
  have hll := Lib.hid hl
  have hzo := Lib.hid ho
  have hnum := Lib.hid (fun w h => printed_any m.toNat (by omega) w h)
  obtain ⟨q, hq⟩ : ∃ q, m.toNat = q := ⟨_, rfl⟩
  have hqm : (m < 0 ∧ q = 0) ∨ m = (q : Int) := by omega
  rw [hq] at hnum z5 hM
  have hq6 : q < 9223372036854775808 := by omega
  clear hq
  by_cases hc0 : c = 0
  · have b0 : (c == 0) = true := by simp [hc0]
    have b1 : (c != 0) = false := by simp [hc0]
    unfold resS
    rw [if_pos hc0]
    clear hc0
    rcases hqm with ⟨hneg, rfl⟩ | rfl
    · have hmx : max m 0 = 0 := by omega
      generalize midS s m c = T0 at *
      generalize headS s c = T1 at *
      generalize prn s = S1 at *
      generalize cods c = S2 at *
      generalize prn 0 = S3 at *
      clear s1 c1 ho hl hZ
      unfold resv
      go_enter Tryd.func11, Tryd.ntmps11
      go_upto_region 1 with (fail)
      refine name_wp (fun w1 => Below w.heap.size w w1 ∧ w1.heap[w.heap.size]? = some (.cells #[.int .u64 (s : Int), .int .i64 m, .slice A n cp, .int .i64 c] 36 (0, 0)) ∧ Tab w1) ⟨(Below.refl _ _).alloc (Nat.le_refl _) _, alloc_at rfl, hT.up ((Below.refl _ _).alloc (Nat.le_refl _) _)⟩ ?_
      clear hT
      rintro w1 ⟨hb, k0, hT⟩
      refine wp_region_flow0 (by kernel_rfl) (by kernel_rfl) ?_
      intro ι _ φ hφ
      have q1 := fun i => (blk4 (keeps (hφ.old i) k0)).1
      have q4 := fun i => (blk4 (keeps (hφ.old i) k0)).2.2.2
      have hpr := Lib.hid (fun i => hprn.out (φ i) (hT.up (hφ.old i)))
      have hcd := Lib.hid (fun i => hcod.out (φ i) (hT.up (hφ.old i)))
      repeat (go_big_quiet_step ((first
        | (go_at_call 7; exact flow_call hφ (hpr.out _))
        | (go_at_call 8; exact flow_call hφ (hcd.out _)))))
      refine wpQuiet_nil ?_
      intro w2 hv
      replace hb := below_next hb hb.size hv
      replace k0 := keeps hv k0
      replace hT := hT.up hv
      clear hv hcod
      obtain ⟨e1, e2, e3, e4⟩ := blk4 k0
      go_wp2_with fail
      all_goals first
        | omega
        | skip
      refine (hnum.out _ hT).mono ?_
      rintro e w4 ⟨rfl, hv⟩
      replace hb := below_next hb hb.size hv
      replace k0 := keeps hv k0
      replace hT := hT.up hv
      clear hv e1 e2 e3 e4
      go_upto_region 4 with (fail)
      rw [← hM.out]
      refine name_wp (fun w3 => Below w.heap.size w w3 ∧ w3.heap[w.heap.size]? = some (.cells #[.int .u64 (s : Int), .int .i64 m, .slice A n cp, .int .i64 c] 36 (0, 0)) ∧ Tab w3) ⟨hb, k0, hT⟩ ?_
      clear hb k0 hT
      rintro w3 ⟨hb, k0, hT⟩
      obtain ⟨e1, e2, e3, e4⟩ := blk4 k0
      go_wp2
      clear e1 e2 e3 e4
      go_loopw [3, 30] (fun v i wr => ∃ k : Nat, k ≤ n ∧ i = .int .i64 (k : Int) ∧ v = .string (sumsS T0 (zs.take k)) ∧ Below w.heap.size w wr ∧ Tab wr) (fun _ i _ => n - (intOf i).toNat)
      case atStart => exact ⟨0, Nat.zero_le _, rfl, rfl, hb, hT⟩
      case round =>
        clear hb k0 hT
        obtain ⟨k, hk, rfl, rfl, hb, hT⟩ := hrel
        by_cases hlt : k < n
        · have k1 : (k : Int) < (n : Int) := by omega
          have k0 : (0 : Int) ≤ (k : Int) := by omega
          have hlt' : k < zs.length := by rw [hll.out]; exact hlt
          obtain ⟨b, o, rfl, hc⟩ := (hZZ.out.up hb) k hlt'
          have hzk : zs.take (k + 1) = zs.take k ++ [zs.getD k 0] := by
            rw [List.take_succ_eq_append_getElem hlt']
            simp [hlt']
          have hz : 0 ≤ zs.getD k 0 ∧ zs.getD k 0 < 18446744073709551616 := hzo.out _ (by simp [hlt'])
          have hsn := Lib.hid (show sumsS T0 (zs.take (k + 1)) = sumsS T0 (zs.take k) ++ ((⟨#[32]⟩ : ByteArray) ++ prn (zs.getD k 0).toNat) by rw [hzk, sumsS_snoc])
          have hsz := sumsS_size (a := T0) (by omega) (zs.take k) (fun y hy => hzo.out y (List.mem_of_mem_take hy))
          have hsl : ((zs.take k).length : Int) ≤ 30 := by rw [List.length_take]; omega
          have hsz2 : ((sumsS T0 (zs.take k)).size : Int) ≤ 2000 := by omega
          obtain ⟨z, hzz⟩ := Int.eq_ofNat_of_zero_le hz.1
          rw [hzz] at hc hsn hz
          rw [Int.toNat_natCast] at hsn
          have hp := Lib.hid (fun w h => printed_any z (by omega) w h)
          have hps := prn_size (u := z) (by omega)
          generalize sumsS T0 (zs.take k) = T at *
          generalize prn z = Pz at *
          clear hzk hsz hsl hzz hz
          go_wp2_with fail
          refine (hp.out _ hT).mono ?_
          rintro e w5 ⟨rfl, hv⟩
          replace hb := below_next hb hb.size hv
          replace hT := hT.up hv
          clear hv
          go_wp2
          exact ⟨⟨k + 1, by omega, by go_num, by rw [hsn.out], hb, hT⟩, by simp [intOf]; omega⟩
        · obtain rfl : n = k := by omega
          have k1 : ¬ (n : Int) < (n : Int) := by omega
          rw [List.take_of_length_le (Nat.le_of_eq hll.out)]
          generalize hT9 : sumsS T0 zs = T at *
          replace hT9 := Lib.hid hT9
          go_wp2
          go_ret
          exact ⟨by rw [hT9.out]; rfl, hb⟩
    · have hmx : max (q : Int) 0 = (q : Int) := by omega
      have hwr : IntKind.u64.wrap (q : Int) = (q : Int) := by rw [IntKind.wrap_u64]; omega
      generalize midS s q c = T0 at *
      generalize headS s c = T1 at *
      generalize prn s = S1 at *
      generalize cods c = S2 at *
      generalize prn q = S3 at *
      clear s1 m1 c1 ho hl hZ hq6
      obtain ⟨m, hm⟩ : ∃ m : Int, m = (q : Int) := ⟨_, rfl⟩
      rw [← hm] at hmx hwr hnum ⊢
      have hmm := Lib.hid hm
      have m0 : 0 ≤ m := by omega
      clear hm
      unfold resv
      go_enter Tryd.func11, Tryd.ntmps11
      go_upto_region 1 with (fail)
      refine name_wp (fun w1 => Below w.heap.size w w1 ∧ w1.heap[w.heap.size]? = some (.cells #[.int .u64 (s : Int), .int .i64 m, .slice A n cp, .int .i64 c] 36 (0, 0)) ∧ Tab w1) ⟨(Below.refl _ _).alloc (Nat.le_refl _) _, alloc_at rfl, hT.up ((Below.refl _ _).alloc (Nat.le_refl _) _)⟩ ?_
      clear hT
      rintro w1 ⟨hb, k0, hT⟩
      refine wp_region_flow0 (by kernel_rfl) (by kernel_rfl) ?_
      intro ι _ φ hφ
      have q1 := fun i => (blk4 (keeps (hφ.old i) k0)).1
      have q4 := fun i => (blk4 (keeps (hφ.old i) k0)).2.2.2
      have hpr := Lib.hid (fun i => hprn.out (φ i) (hT.up (hφ.old i)))
      have hcd := Lib.hid (fun i => hcod.out (φ i) (hT.up (hφ.old i)))
      repeat (go_big_quiet_step ((first
        | (go_at_call 7; exact flow_call hφ (hpr.out _))
        | (go_at_call 8; exact flow_call hφ (hcd.out _)))))
      refine wpQuiet_nil ?_
      intro w2 hv
      replace hb := below_next hb hb.size hv
      replace k0 := keeps hv k0
      replace hT := hT.up hv
      clear hv hcod
      obtain ⟨e1, e2, e3, e4⟩ := blk4 k0
      go_wp2_with fail
      all_goals first
        | omega
        | skip
      refine (hnum.out _ hT).mono ?_
      rintro e w4 ⟨rfl, hv⟩
      replace hb := below_next hb hb.size hv
      replace k0 := keeps hv k0
      replace hT := hT.up hv
      clear hv e1 e2 e3 e4
      go_upto_region 4 with (fail)
      rw [← hM.out]
      refine name_wp (fun w3 => Below w.heap.size w w3 ∧ w3.heap[w.heap.size]? = some (.cells #[.int .u64 (s : Int), .int .i64 m, .slice A n cp, .int .i64 c] 36 (0, 0)) ∧ Tab w3) ⟨hb, k0, hT⟩ ?_
      clear hb k0 hT
      rintro w3 ⟨hb, k0, hT⟩
      obtain ⟨e1, e2, e3, e4⟩ := blk4 k0
      go_wp2
      clear e1 e2 e3 e4
      go_loopw [3, 30] (fun v i wr => ∃ k : Nat, k ≤ n ∧ i = .int .i64 (k : Int) ∧ v = .string (sumsS T0 (zs.take k)) ∧ Below w.heap.size w wr ∧ Tab wr) (fun _ i _ => n - (intOf i).toNat)
      case atStart => exact ⟨0, Nat.zero_le _, rfl, rfl, hb, hT⟩
      case round =>
        clear hb k0 hT
        obtain ⟨k, hk, rfl, rfl, hb, hT⟩ := hrel
        by_cases hlt : k < n
        · have k1 : (k : Int) < (n : Int) := by omega
          have k0 : (0 : Int) ≤ (k : Int) := by omega
          have hlt' : k < zs.length := by rw [hll.out]; exact hlt
          obtain ⟨b, o, rfl, hc⟩ := (hZZ.out.up hb) k hlt'
          have hzk : zs.take (k + 1) = zs.take k ++ [zs.getD k 0] := by
            rw [List.take_succ_eq_append_getElem hlt']
            simp [hlt']
          have hz : 0 ≤ zs.getD k 0 ∧ zs.getD k 0 < 18446744073709551616 := hzo.out _ (by simp [hlt'])
          have hsn := Lib.hid (show sumsS T0 (zs.take (k + 1)) = sumsS T0 (zs.take k) ++ ((⟨#[32]⟩ : ByteArray) ++ prn (zs.getD k 0).toNat) by rw [hzk, sumsS_snoc])
          have hsz := sumsS_size (a := T0) (by omega) (zs.take k) (fun y hy => hzo.out y (List.mem_of_mem_take hy))
          have hsl : ((zs.take k).length : Int) ≤ 30 := by rw [List.length_take]; omega
          have hsz2 : ((sumsS T0 (zs.take k)).size : Int) ≤ 2000 := by omega
          obtain ⟨z, hzz⟩ := Int.eq_ofNat_of_zero_le hz.1
          rw [hzz] at hc hsn hz
          rw [Int.toNat_natCast] at hsn
          have hp := Lib.hid (fun w h => printed_any z (by omega) w h)
          have hps := prn_size (u := z) (by omega)
          generalize sumsS T0 (zs.take k) = T at *
          generalize prn z = Pz at *
          clear hzk hsz hsl hzz hz
          go_wp2_with fail
          refine (hp.out _ hT).mono ?_
          rintro e w5 ⟨rfl, hv⟩
          replace hb := below_next hb hb.size hv
          replace hT := hT.up hv
          clear hv
          go_wp2
          exact ⟨⟨k + 1, by omega, by go_num, by rw [hsn.out], hb, hT⟩, by simp [intOf]; omega⟩
        · obtain rfl : n = k := by omega
          have k1 : ¬ (n : Int) < (n : Int) := by omega
          rw [List.take_of_length_le (Nat.le_of_eq hll.out)]
          generalize hT9 : sumsS T0 zs = T at *
          replace hT9 := Lib.hid hT9
          go_wp2
          go_ret
          exact ⟨by rw [hT9.out]; rfl, hb⟩
  · have b0 : (c == 0) = false := by simp [hc0]
    have b1 : (c != 0) = true := by simp [hc0]
    unfold resS
    rw [if_neg hc0]
    clear hc0 hqm hq6
    generalize midS s m c = T0 at *
    generalize headS s c = T1 at *
    generalize prn s = S1 at *
    generalize cods c = S2 at *
    clear s1 m1 c1 ho hl hZ
    unfold resv
    go_enter Tryd.func11, Tryd.ntmps11
    go_upto_region 1 with (fail)
    refine name_wp (fun w1 => Below w.heap.size w w1 ∧ w1.heap[w.heap.size]? = some (.cells #[.int .u64 (s : Int), .int .i64 m, .slice A n cp, .int .i64 c] 36 (0, 0)) ∧ Tab w1) ⟨(Below.refl _ _).alloc (Nat.le_refl _) _, alloc_at rfl, hT.up ((Below.refl _ _).alloc (Nat.le_refl _) _)⟩ ?_
    clear hT
    rintro w1 ⟨hb, k0, hT⟩
    refine wp_region_flow0 (by kernel_rfl) (by kernel_rfl) ?_
    intro ι _ φ hφ
    have q1 := fun i => (blk4 (keeps (hφ.old i) k0)).1
    have q4 := fun i => (blk4 (keeps (hφ.old i) k0)).2.2.2
    have hpr := Lib.hid (fun i => hprn.out (φ i) (hT.up (hφ.old i)))
    have hcd := Lib.hid (fun i => hcod.out (φ i) (hT.up (hφ.old i)))
    repeat (go_big_quiet_step ((first
      | (go_at_call 7; exact flow_call hφ (hpr.out _))
      | (go_at_call 8; exact flow_call hφ (hcd.out _)))))
    refine wpQuiet_nil ?_
    intro w2 hv
    replace hb := below_next hb hb.size hv
    replace k0 := keeps hv k0
    replace hT := hT.up hv
    clear hv hcod
    obtain ⟨e1, e2, e3, e4⟩ := blk4 k0
    go_wp2
    go_ret
    exact ⟨by rw [hH.out]; rfl, hb⟩
end Go.Proofs.YtmnnfecipkdgfaaDoor
