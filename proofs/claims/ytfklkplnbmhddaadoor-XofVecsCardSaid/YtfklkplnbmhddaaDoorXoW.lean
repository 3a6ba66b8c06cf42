/-
  XofStuck: its walk.
-/
import Derived.Test.YtfklkplnbmhddaaDoorXoV
import Derived.Test.YtfklkplnbmhddaaDoorBM
namespace Go.Proofs.YtfklkplnbmhddaaDoor
open Go.RowKit Flow Go.Maps F
set_option linter.unusedVariables false
set_option linter.unusedSimpArgs false

/-- A field of a number. -/
theorem lawF_any (nn : Int) (n0 : 0 ≤ nn) (n1 : nn < 256) (w : World) : Calls Tryd.prog 15 #[.int .u8 nn] w fun e w' => e = .returned (.int .u8 (1 + nn % 2)) ∧ Below w.heap.size w w' := by
  have m0 : 0 ≤ nn % 2 ∧ nn % 2 < 2 := by omega
  go_enter Tryd.func15, Tryd.ntmps15
  go_wp2
  go_ret
  exact ⟨rfl, Below.refl _ _⟩
theorem skip_ok {w : World} {x s at' sk : Nat} {q : ByteArray} (h : Strm w x s q at' sk) : Calls Tryd.prog 23 #[.pointer (some ⟨x, 0, none⟩)] w fun e w' => e = .returned (.int .i64 (sk : Int)) ∧ w' = w := by
  obtain ⟨-, -, -, -, c4, -⟩ := h.cells
  clear h
  go_enter Tryd.func23, Tryd.ntmps23
  go_wp2
  go_ret
  exact ⟨rfl, rfl⟩
/-- The stream of the laws: its tag "t", its use 1, nought, nothing. -/
def qT : ByteArray := strOfNums (qu ⟨#[116]⟩ 1 nul16 [])
theorem qT_size : qT.size = 20 := by decide
/-- An oracle of draws, and its stream. -/
theorem solo_new {w : World} {B s : Nat} {own : Nat → Option Role} {d : List Int} (N : Nat) (h : Ora w B s 0 own [] (fun _ => []) d 0) :
    Calls Tryd.prog 9 #[.pointer (some ⟨s, 0, none⟩), .string ⟨#[116]⟩, .int .u16 1, .agg seed0, .slice none 0 0] w fun e w' => ∃ x own', e = .returned (.pointer (some ⟨x, 0, none⟩)) ∧ Solo w' B s x own' d N 0 0 qT ∧ w.heap.size ≤ x ∧ Turn own own' w w' := by
  have hN := ora_new h ⟨#[116]⟩ 1 nul16 none 0 [] (by decide) (by decide) (by decide) rfl (by decide) (news_nil _) (by decide) (by decide) qT rfl (by simp)
  rw [seed0_eq] at hN
  simp only [List.length_nil] at hN
  refine hN.mono ?_
  rintro e w' ⟨x, own', Y', rfl, h1, h2, -, h3, h4, h5, h6⟩
  refine ⟨x, own', rfl, ⟨⟨Y', ?_, ?_⟩, ?_, h4⟩, h5, h6⟩
  · rw [Nat.zero_mul, List.drop_zero]
    exact h1
  · rw [h2, Nat.zero_mul]; rfl
  · rw [Nat.zero_mul]; exact h3
theorem oct_news {w : World} {g D : Nat} {h : Nat → Nat} (o : Oct w g D h) (n c : Nat) (hn : n ≤ D) : News w (some ⟨g, 0, none⟩) n c 1 (((List.range n).map (fun i => ((h i : Nat) : Int))).map (Value.int .u8)) := by
  refine ⟨by simp, fun hA => (by cases hA), fun ad hA j u hj => ?_⟩
  cases hA
  have hj' : j < n := by have := (List.getElem?_eq_some_iff.1 hj).1; simpa using this
  rw [Addr.add_mid, Nat.zero_add, o.cell (by omega)]
  simp [hj'] at hj
  rw [hj]
set_option maxRecDepth 20000 in
set_option maxHeartbeats 8000000 in
theorem stuck_walk (a nn mm f : Int) (N : Nat) (hTake : TakeBy f f N) (hS : ∀ w, Calls Tryd.prog 21 #[.int .u8 f] w fun e w' => e = .returned (.int .i64 (N : Int)) ∧ Below w.heap.size w w') (hVal : ∀ w, Calls Tryd.prog 34 #[.int .u8 f] w fun e w' => e = .returned (.bool true) ∧ Below w.heap.size w w')
    (hf : 1 + nn % 2 = f) (hN0 : 0 < N) (hN : N ≤ 16) (hM : 0 < M f) (hbig : ¬ loVal (List.replicate N 255) < M f) (a0 : 0 ≤ a) (a1 : a < 256) (n0 : 0 ≤ nn) (n1 : nn < 256) (m0 : 0 ≤ mm) (m1 : mm < 256) (w : World) :
    Calls Tryd.prog 5 #[.int .u8 a, .int .u8 nn, .int .u8 mm] w fun e w' => e = .returned (.bool true) ∧ Below w.heap.size w w' := by
  have hAw := Lib.hid (awake_ok w)
  have hF := fun w => lawF_any nn n0 n1 w
  rw [hf] at hF
  obtain ⟨k, hk⟩ : ∃ k : Nat, a % 5 = (k : Int) := ⟨(a % 5).toNat, by omega⟩
  obtain ⟨m4, hm4⟩ : ∃ k : Nat, mm % 4 = (k : Int) := ⟨(mm % 4).toNat, by omega⟩
  have hk4 : k ≤ 4 := by omega
  have hm3 : m4 ≤ 3 := by omega
  obtain ⟨k64, hk64⟩ : ∃ k64, k + 64 = k64 := ⟨_, rfl⟩
  have hp1 : k64 * N ≤ 68 * 16 := Nat.mul_le_mul (by omega) hN
  have hp2 : k * N ≤ 4 * 16 := Nat.mul_le_mul hk4 hN
  have hp3 : k * N ≤ k64 * N := Nat.mul_le_mul_right _ (by omega)
  have hp4 : k64 * N = (k + 63) * N + N := by rw [← hk64, show k + 64 = (k + 63) + 1 from rfl, Nat.succ_mul]
  obtain ⟨D, hD⟩ : ∃ D, k64 * N = D := ⟨_, rfl⟩
  obtain ⟨S, hSS⟩ : ∃ S, k * N = S := ⟨_, rfl⟩
  obtain ⟨D2, hD2⟩ : ∃ D2, (k + 63) * N = D2 := ⟨_, rfl⟩
  rw [hD] at hp1 hp3 hp4
  rw [hSS] at hp2 hp3
  rw [hD2] at hp4
  have z1 : IntKind.i64.wrap ((k : Int) + 64) = (k64 : Int) := wrap_nat (by omega) (by omega)
  have z2 : IntKind.i64.wrap ((k64 : Int) * (N : Int)) = (D : Int) := wrap_nat (by rw [← hD, Int.natCast_mul]) (by omega)
  have z3 : IntKind.i64.wrap ((k : Int) * (N : Int)) = (S : Int) := wrap_nat (by rw [← hSS, Int.natCast_mul]) (by omega)
  have hmk := fun w => make_bytes D (by omega) w
  have hd1 : dr1 k N ((k + 64) * N) = (List.range D).map (fun i => ((hh k N i : Nat) : Int)) := by rw [hk64, hD]; rfl
  have hd2 : dr1 k N ((k + 63) * N) = (List.range D2).map (fun i => ((hh k N i : Nat) : Int)) := by rw [hD2]; rfl
  have hS0 : ∀ i, i < S → hh k N i = 0 := fun i hi => if_pos (by rw [hSS]; exact hi)
  have hS1 : ∀ i, S ≤ i → hh k N i = 255 := fun i hi => if_neg (by rw [hSS]; omega)
  generalize hhh : hh k N = h at *
  replace hTake := Lib.hid hTake
  replace hS := Lib.hid hS
  replace hVal := Lib.hid hVal
  replace hF := Lib.hid hF
  replace hf := Lib.hid hf
  replace hk64 := Lib.hid hk64
  replace hD := Lib.hid hD
  replace hD2 := Lib.hid hD2
  replace hSS := Lib.hid hSS
  replace hp4 := Lib.hid hp4
  replace hd1 := Lib.hid hd1
  replace hd2 := Lib.hid hd2
  replace hS0 := Lib.hid hS0
  replace hS1 := Lib.hid hS1
  replace hhh := Lib.hid hhh
  replace hM := Lib.hid hM
  replace hbig := Lib.hid hbig
  go_enter Tryd.func5, Tryd.ntmps5
  go_wp2_with fail
  refine call_then hAw.out ?_
  intro w1 hb1
  clear hAw
  go_wp2_with fail
  refine call_then (hF.out _) ?_
  intro w2 hb2
  replace hb1 := below_next hb1 hb1.size hb2
  clear hb2
  go_wp2_with fail
  refine call_then (hS.out _) ?_
  intro w3 hb2
  replace hb1 := below_next hb1 hb1.size hb2
  clear hb2
  go_upto_region 6 with (fail)
  refine name_wp (fun w4 => Below w.heap.size w w4 ∧ Oct w4 w3.heap.size D (part h (fun _ => 0) S))
    ⟨hb1.alloc hb1.size _, Oct.congr (h := fun _ => 0) (alloc_at rfl) fun i hi => ?_⟩ ?_
  · unfold part
    split
    · rename_i hi; exact (hS0.out i hi).symm
    · rfl
  have hgw := hb1.size
  generalize w3.heap.size = g at *
  clear hb1 hmk
  rintro w4 ⟨hb, ho⟩
  go_wp2_with fail
  refine call_then (hS.out _) ?_
  intro w5 hb5
  replace hb := below_next hb hb.size hb5
  replace ho := ho.up hb5
  clear hb5
  go_wp2
  go_loopw [10] (fun i wr => ∃ j : Nat, S ≤ j ∧ j ≤ D ∧ i = .int .i64 (j : Int) ∧ Below w.heap.size w wr ∧ Oct wr g D (part h (fun _ => 0) j)) (fun i _ => D - (intOf i).toNat)
  case atStart => exact ⟨S, Nat.le_refl _, hp3, rfl, hb, ho⟩
  case round =>
    clear hb ho
    obtain ⟨j, hSj, hjD, rfl, hb, ho⟩ := hrel
    by_cases hlt : j < D
    · have j0 : (0 : Int) ≤ (j : Int) := by omega
      have j1 : (j : Int) < (D : Int) := by omega
      have r0 := ho.cell hlt
      have r1 : wr.frozen? ⟨g, j, none⟩ = false := ho.free
      have ho2 := ho.set (k := j) 255
      have hps : upd (part h (fun _ => 0) j) j (h j) = part h (fun _ => 0) (j + 1) := funext fun i => part_step _ _ _ _
      rw [hS1.out j hSj] at hps
      rw [hps] at ho2
      replace ho2 := Lib.hid ho2
      replace hps := Lib.hid hps
      clear ho
      go_wp2
      exact ⟨⟨j + 1, by omega, by omega, by go_num, hb.setCell (p := ⟨g, j, none⟩) hgw _, ho2.out⟩, left_u (by assumption)⟩
    · obtain rfl : D = j := by omega
      replace ho := ho.congr fun i hi => part_all h (fun _ => 0) hi
      obtain ⟨d1, hd1e⟩ : ∃ d1, dr1 k N ((k + 64) * N) = d1 := ⟨_, rfl⟩
      obtain ⟨d2, hd2e⟩ : ∃ d2, dr1 k N ((k + 63) * N) = d2 := ⟨_, rfl⟩
      have hn1 : News wr (some ⟨g, 0, none⟩) D D 1 (d1.map (Value.int .u8)) := by rw [← hd1e, hd1.out]; exact oct_news ho D D (Nat.le_refl _)
      have hgl := ho.lt
      have hO1 := Lib.hid (ora_made (some ⟨g, 0, none⟩) D D d1 wr hn1 (by omega))
      have e1 : ∀ i, i ≤ k → ps1 k 64 i = i := fun i hi => if_pos hi
      have e2 : ∀ i, i ≤ k → ps1 k 63 i = i := fun i hi => if_pos hi
      have hbg : ¬ loVal (List.replicate N 255) < M f := by have := hbig.out; omega
      have hst1 := dr1_steps f k N 64 k hN0 hM.out hbg (Nat.le_refl _) (by omega) (by omega)
      have hst2 := dr1_steps f k N 63 (k + 1) hN0 hM.out hbg (by omega) (by omega) (by omega)
      have hnb1 := fun c => dr1_nb f k N 64 c hN0 hM.out hbg (Nat.le_refl _)
      have hnb2 := fun c => dr1_nb f k N 63 c hN0 hM.out hbg (by omega)
      have hok1 := dr1_ok k N ((k + 64) * N)
      have hok2 := dr1_ok k N ((k + 63) * N)
      have hl1 := dr1_len k N ((k + 64) * N)
      have hl2 := dr1_len k N ((k + 63) * N)
      rw [hd1e] at hst1 hnb1 hok1 hl1
      rw [hd2e] at hst2 hnb2 hok2 hl2
      have hl1' : d1.length ≤ 100000 := by rw [hl1, hk64.out, hD.out]; omega
      have hl2' : d2.length ≤ 100000 := by rw [hl2, hD2.out]; have := hp4.out; omega
      obtain ⟨ka, hka⟩ : ∃ ka, k + 1 = ka := ⟨_, rfl⟩
      obtain ⟨K1, hK1⟩ : ∃ K1, ka + m4 = K1 := ⟨_, rfl⟩
      have za : IntKind.i64.wrap ((k : Int) + 1) = (ka : Int) := wrap_nat (by omega) (by omega)
      have zb : IntKind.i64.wrap ((ka : Int) + (m4 : Int)) = (K1 : Int) := wrap_nat (by omega) (by omega)
      have hK1k : k < K1 := by omega
      have hK14 : K1 ≤ 4096 := by omega
      have hka4 : ka ≤ 4096 := by omega
      replace hn1 := Lib.hid hn1
      replace hst1 := Lib.hid hst1
      replace hst2 := Lib.hid hst2
      replace hnb1 := Lib.hid hnb1
      replace hnb2 := Lib.hid hnb2
      replace hok1 := Lib.hid hok1
      replace hok2 := Lib.hid hok2
      replace hd1e := Lib.hid hd1e
      replace hd2e := Lib.hid hd2e
      replace e1 := Lib.hid e1
      replace e2 := Lib.hid e2
      replace hka := Lib.hid hka
      replace hK1 := Lib.hid hK1
      clear hl1 hl2 hn1 hbg
      go_wp2_with fail
      refine hO1.out.mono ?_
      rintro e w6 ⟨s1, own1, rfl, hb6, h6⟩
      have hg1 : own1 g = none := by
        cases e : own1 g with
        | none => rfl
        | some r => have := (h6.own g r e).1; omega
      have ho6 := ho.up hb6
      have hbw := hb.size
      have hbb := below_next hb hb.size hb6
      have hN1 := Lib.hid (solo_new N h6)
      have hx6 : g < w6.heap.size := ho6.lt
      have ha6 := h6.above hbw
      replace hbb := Lib.hid hbb
      replace ho6 := Lib.hid ho6
      replace ha6 := Lib.hid ha6
      clear hO1 hb6 ho h6 hb
      go_wp2_with fail
      refine hN1.out.mono ?_
      rintro e w7 ⟨x1, own2, rfl, h7, hx7, hT7⟩
      obtain ⟨ho7, hg2⟩ := hT7.heap hg1 ho6.out
      have hbb7 := hT7.below hbb.out hbb.out.size ha6.out
      have hx1w : w.heap.size ≤ x1 := Nat.le_trans hbb.out.size hx7
      have hgx1 : g ≠ x1 := by omega
      have hV1 := Lib.hid (vec_out f f N hTake.out hS.out hVal.out hok1.out hl1' hN (by rw [qT_size]; omega) h7 K1 hK14 (ps1 k 64) k hK1k hst1.out (fun i hi => by rw [e1.out i (by omega), hnb1.out i, if_pos hi]; decide) (by rw [e1.out k (Nat.le_refl _), hnb1.out k, if_neg (by omega), if_pos rfl]))
      have ha7 : ∀ q r, own2 q = some r → w.heap.size ≤ q := fun q r hq => Nat.le_trans (Nat.le_trans hbw (Nat.le_refl _)) (h7.own q r hq).1
      replace hbb7 := Lib.hid hbb7
      replace ha7 := Lib.hid ha7
      replace hx1w := Lib.hid hx1w
      replace hgx1 := Lib.hid hgx1
      clear hN1 hT7 hbb ho6 hx7 h7 ha6
      go_wp2_with fail
      refine hV1.out.mono ?_
      rintro e w8 ⟨own3, rfl, h8, hT8⟩
      obtain ⟨ho8, hg3⟩ := hT8.heap hg2 hgx1.out ho7
      have hbb8 := hT8.below hbb7.out hbb7.out.size hx1w.out ha7.out
      have hsx1 := h8.str
      rw [e1.out k (Nat.le_refl _)] at hsx1
      replace hsx1 : Strm w8 x1 s1 qT ((k + 64) * N) 64 := by rw [show k - k + 64 = 64 by omega] at hsx1; exact hsx1
      have zD : IntKind.i64.wrap ((D : Int) - (N : Int)) = (D2 : Int) := by have := hp4.out; exact wrap_nat (by omega) (by omega)
      have hD20 : (0 : Int) ≤ (D2 : Int) := by omega
      have hD2D : (D2 : Int) ≤ (D : Int) := by have := hp4.out; omega
      have hD2n : D2 ≤ D := by omega
      have hx1l : x1 < w8.heap.size := h8.lt
      have hx1o := h8.xo
      replace ho8 : Oct w8 g D h := ho8
      replace ho8 := Lib.hid ho8
      replace hbb8 := Lib.hid hbb8
      replace hsx1 := Lib.hid hsx1
      clear hV1 hT8 hbb7 ho7 h8 ha7
      go_wp2_with fail
      refine call_then (hS.out _) ?_
      intro w9 hb9
      have ho9 := ho8.out.up hb9
      have hsx9 : Strm w9 x1 s1 qT ((k + 64) * N) 64 := keeps hb9 hsx1.out
      have hbb9 := below_next hbb8.out hbb8.out.size hb9
      have hn2 : News w9 (some ⟨g, 0, none⟩) D2 D 1 (d2.map (Value.int .u8)) := by rw [← hd2e.out, hd2.out]; exact oct_news ho9 D2 D hD2n
      have hO2 := Lib.hid (ora_made (some ⟨g, 0, none⟩) D2 D d2 w9 hn2 (by omega))
      have hx9 : x1 < w9.heap.size := Nat.lt_of_lt_of_le hx1l hb9.size
      replace hsx9 := Lib.hid hsx9
      replace hbb9 := Lib.hid hbb9
      clear hsx1 hbb8 ho8 hb9 hn2 ho9
      go_wp2_with fail
      refine hO2.out.mono ?_
      rintro e w10 ⟨s2, own4, rfl, hb10, h10⟩
      have hsx10 : Strm w10 x1 s1 qT ((k + 64) * N) 64 := keeps hb10 hsx9.out
      have hx1n : own4 x1 = none := by
        cases e : own4 x1 with
        | none => rfl
        | some r => have := (h10.own x1 r e).1; omega
      have hbw9 := hbb9.out.size
      have ha10 := h10.above hbw9
      have hbb10 := below_next hbb9.out hbb9.out.size hb10
      have hN2 := Lib.hid (solo_new N h10)
      have hx10 : x1 < w10.heap.size := Nat.lt_of_lt_of_le hx9 hb10.size
      replace hsx10 := Lib.hid hsx10
      replace hbb10 := Lib.hid hbb10
      replace ha10 := Lib.hid ha10
      clear hO2 hsx9 hbb9 hb10 h10
      go_wp2_with fail
      refine hN2.out.mono ?_
      rintro e w11 ⟨x2, own5, rfl, h11, hx11, hT11⟩
      obtain ⟨hsx11, hx1m⟩ := hT11.heap hx1n hsx10.out
      have hbb11 := hT11.below hbb10.out hbb10.out.size ha10.out
      have hx2w : w.heap.size ≤ x2 := Nat.le_trans hbb10.out.size hx11
      have hx12 : x1 ≠ x2 := by omega
      have ha11 : ∀ q r, own5 q = some r → w.heap.size ≤ q := fun q r hq => Nat.le_trans hbw9 (h11.own q r hq).1
      obtain ⟨vs, hvs⟩ : ∃ vs : List Int, vs = (List.range ka).map (fun i => chv d2 N (ps1 k 63 i + nb f d2 N (ps1 k 63 i))) := ⟨_, rfl⟩
      have hvl : vs.length = ka := by rw [hvs]; simp
      have hV2 := vec_in f f N hTake.out hS.out hVal.out hok2.out hl2' hN (by rw [qT_size]; omega) h11 ka hka4 (ps1 k 63) (by rw [← hka.out]; exact hst2.out) (fun i hi => by
        have hi' : i ≤ k := by have := hka.out; omega
        rw [e2.out i hi', hnb2.out i]
        by_cases h3 : i < k
        · rw [if_pos h3]; decide
        · rw [if_neg h3, if_pos (by omega)]; decide) vs hvl (fun i hi => by rw [hvs]; simp [hi])
      replace hV2 := Lib.hid hV2
      replace hbb11 := Lib.hid hbb11
      replace ha11 := Lib.hid ha11
      replace hx2w := Lib.hid hx2w
      replace hx12 := Lib.hid hx12
      replace hvs := Lib.hid hvs
      clear hN2 hT11 hbb10 ha10 h11 hx11 hsx10 hvl
      go_wp2_with fail
      refine hV2.out.mono ?_
      rintro e w12 ⟨g2, own6, rfl, h12, hT12, -, -, -, hr12⟩
      obtain ⟨hsx12, -⟩ := hT12.heap hx1m hx12.out hsx11
      have hbb12 := hT12.below hbb11.out hbb11.out.size hx2w.out ha11.out
      have hsx2 := h12.str
      have e3 : ps1 k 63 ka = k + 64 := by have := hka.out; unfold ps1; rw [if_neg (by omega)]
      rw [e3] at hsx2
      replace hsx2 : Strm w12 x2 s2 qT ((k + 64) * N) 63 := by rw [show k + 64 - ka = 63 by have := hka.out; omega] at hsx2; exact hsx2
      have hk1 := Lib.hid (skip_ok (w := w12) hsx12)
      have hk2 := Lib.hid (skip_ok hsx2)
      replace hbb12 := Lib.hid hbb12
      clear hV2 hT12 h12 hr12 hsx12 hsx2 hsx11
      go_wp2_with fail
      refine hk1.out.mono ?_
      rintro e w13 ⟨rfl, rfl⟩
      go_wp2_with fail
      refine hk2.out.mono ?_
      rintro e w14 ⟨rfl, rfl⟩
      go_wp2
      go_ret
      exact ⟨rfl, hbb12.out⟩
end Go.Proofs.YtfklkplnbmhddaaDoor
