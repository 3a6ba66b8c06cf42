/-
  A circuit's gadget of polynomials.
-/
import Derived.Test.YtebgfelbffgnbaaGreatDoorPfF
import Derived.Test.YtebgfelbffgnbaaGreatDoorFH
import Derived.Test.YtebgfelbffgnbaaGreatDoorFD
import Derived.Test.YtebgfelbffgnbaaGreatDoorFI
import Derived.Laws.CopyRow
import Derived.Test.YtebgfelbffgnbaaGreatDoorDI
namespace Go.Proofs.YtebgfelbffgnbaaGreatDoor
open Go.RowKit Flow F
set_option linter.unusedVariables false
set_option linter.unusedSimpArgs false

theorem ft_of {f : Int} (h : f = 1 ∨ f = 2) : Ft f := by
  rcases h with rfl | rfl
  · exact ft_one
  · exact ft_two
theorem root_of {f : Int} (h : f = 1 ∨ f = 2) (m : Nat) (hm : m ≤ 10) : RootOf f m (rt f m) := by
  rcases h with rfl | rfl
  · exact root_one m hm
  · exact root_two m hm
/-- Pairs' products, summed. -/
def svI (v : Nat → Int) : Nat → Int
  | 0 => 0
  | j + 1 => svI v j + v (j * 2) * v (j * 2 + 1)
/-- A circuit's gadget of whole numbers. -/
def gI (x : Ci) (v : Nat → Int) : Int := if x.k = 2 then pS (v 0) (bitCoefs x.f) else svI v (x.arityN / 2)
theorem bit_in (f : Int) : InG f (bitCoefs f) := fun k hk => by
  have hM := M_pos f
  have h1 := in_one f
  have h2 : 0 ≤ neg f 1 ∧ neg f 1 < M f := by unfold neg; exact mod_in f _
  have hl : (bitCoefs f).length = 3 := rfl
  obtain rfl | rfl | rfl : k = 0 ∨ k = 1 ∨ k = 2 := by omega
  · exact ⟨Int.le_refl _, hM⟩
  · exact h2
  · exact h1
theorem arity_two {x : Ci} (h : x.Good) (h2 : x.k ≠ 2) : ∃ Q, x.arityN = Q * 2 ∧ 1 ≤ Q ∧ Q ≤ 16 ∧ (x.k = 1 → Q = 1) ∧ (3 ≤ x.k → (Q : Int) = x.c) := by
  have k1 := h.fits.k1
  unfold Ci.arityN
  by_cases h1 : x.k = 1
  · rw [if_pos h1]
    exact ⟨1, rfl, by omega, by omega, fun _ => rfl, fun h => by omega⟩
  · rw [if_neg h1, if_neg h2]
    have hc := h.fits.c (by omega)
    exact ⟨x.c.toNat, by omega, by omega, by omega, fun h => absurd h h1, fun _ => by omega⟩
theorem sv_svI {f : Int} {n : Nat → Nat} {F : Nat → Nat → Int} (t : Int) {Q : Nat} (hF : ∀ i, i < Q * 2 → ∀ s, 0 ≤ F i s ∧ F i s < M f) : ∀ j, j ≤ Q → sv f t n F j = svI (fun i => pf t (F i) (n i)) j
  | 0, _ => rfl
  | j + 1, h => by rw [sv, svI, sv_svI t hF j (by omega), rd_same (hF _ (by omega)), rd_same (hF _ (by omega))]
set_option maxHeartbeats 2000000 in
theorem cpoly_any (x : Ci) (h : x.Good) (a : Int) (A : Option Addr) (n c : Nat) (m : Int) (F : Nat → Nat → Int) (D : Nat) (hD : D ≤ 40) (hD1 : 1 ≤ D) (hF : ∀ i, i < x.arityN → ∀ t, 0 ≤ F i t ∧ F i t < M x.f) (A' : Nat → Option Addr) (g d : Nat) (w : World) (hg : GadIs x (.agg #[.int .u8 a, .slice A n c, .int .i64 m]) w) (hT : Tabs w)
    (hP : PolysAt w g 0 x.arityN A' (fun _ => D) (fun _ => D) F) :
    Calls Tryz.prog 109 #[.agg #[.int .u8 a, .slice A n c, .int .i64 m], .int .u8 x.f, .slice (some ⟨g, 0, none⟩) x.arityN d] w fun e w' => ∃ P L, Poly x.f P L ∧ L ≤ 2 * (D - 1) + 1 ∧ (∀ t, Eqm (M x.f) (pf t P L) (gI x (fun i => pf t (F i) D))) ∧ MOut P L w e w' := by
  have ft := ft_of h.f
  have hR := fun m hm => root_of h.f m hm
  have hpair : ∀ (k : Int) (Q : Nat), (k == 2) = false → x.k ≠ 2 → x.arityN = Q * 2 → 1 ≤ Q → Q ≤ 16 → ∀ (mm : Int), ChkBy x.f (gvl k none 0 0 mm) 0 (fun _ => True) → (∀ w, Calls Tryz.prog 16 #[gvl k none 0 0 mm] w fun e w' => e = .returned (.int .i64 ((Q * 2 : Nat) : Int)) ∧ Below w.heap.size w w') →
      Calls Tryz.prog 109 #[gvl k none 0 0 mm, .int .u8 x.f, .slice (some ⟨g, 0, none⟩) (Q * 2) d] w fun e w' => ∃ P L, Poly x.f P L ∧ L ≤ 2 * (D - 1) + 1 ∧ (∀ t, Eqm (M x.f) (pf t P L) (gI x (fun i => pf t (F i) D))) ∧ MOut P L w e w' := fun k Q hk h2 hQ q1 q2 mm hch har => by
    have hci := cin_ok x.f k mm none 0 0 (Q * 2) (Q * 2) (fun _ => True) (by omega) (by omega) (fun _ _ _ _ => trivial) hch har
    rw [if_pos rfl] at hci
    rw [hQ] at hP hF
    refine (gpoly_pairs ft hR k mm hk none 0 0 Q (by omega) (fun _ => True) (fun _ _ _ _ => trivial) hci A' (fun _ => D) (fun _ => D) F D hD (fun i hi => ⟨Nat.le_refl _, lim_f (f := x.f) (hF i hi)⟩) g 0 d w trivial hT hP).mono ?_
    rintro e w' ⟨P, L, h1, h3, h4, h5⟩
    refine ⟨P, L, h1, h3, fun t => ?_, h5⟩
    have h6 := h4 t
    rw [sv_svI t hF Q (Nat.le_refl _)] at h6
    unfold gI
    rw [if_neg h2, hQ, Nat.mul_div_cancel _ (by decide : 0 < 2)]
    exact h6
  rcases hg with ⟨hk, e⟩ | ⟨hk, gb, e, hr⟩ | ⟨hk, e⟩
  · cases e
    obtain ⟨Q, q0, q1, q2, q3, -⟩ := arity_two h (by omega)
    obtain rfl := q3 hk
    rw [q0]
    exact hpair 1 1 (by decide) (by omega) q0 q1 q2 0 (fun w _ => gch_mul x.f none 0 0 0 ft.hval w) (fun w => gar_mul none 0 0 0 w)
  · unfold bitVal at e
    cases e
    have ha : x.arityN = 1 := by unfold Ci.arityN; rw [if_neg (by omega), if_pos hk]
    rw [ha] at hP hF ⊢
    obtain ⟨q, hB⟩ := hP 0 (by omega)
    have hch : ChkBy x.f (gvl 2 (some ⟨gb, 0, none⟩) 3 3 0) 0 (fun w => ElemsAt w (some ⟨gb, 0, none⟩) (bitCoefs x.f)) := fun w hA => by
      rcases h.f with hf | hf <;> rw [hf] at hA ⊢
      · exact gcheck_one gb w hA
      · exact gcheck_two gb w hA
    have hci := cin_ok x.f 2 0 (some ⟨gb, 0, none⟩) 3 3 1 1 _ (by omega) (by omega) (fun _ _ hb h => h.up hb) hch (fun w => gar_eval _ _ 3 0 w)
    rw [if_pos rfl] at hci
    refine (poly_evalG x.f 0 _ 3 3 (fun w => ElemsAt w (some ⟨gb, 0, none⟩) (bitCoefs x.f) ∧ Tabs w ∧ ElemsAt w (A' 0) (lst (F 0) D)) (fun w w' hb h => ⟨h.1.up hb, h.2.1.up hb, h.2.2.up hb⟩) (fun w h => hci w h.1) (A' 0) D D (fun P L => Poly x.f P L ∧ L ≤ 2 * (D - 1) + 1 ∧ ∀ t, Eqm (M x.f) (pf t P L) (gI x (fun i => pf t (F i) D))) (fun w hC => ?_) g 0 d w ⟨hr.elems, hT, hB⟩ q).mono ?_
    · refine (evp_any ft hR (bitCoefs x.f) 3 rfl (by omega) (by omega) (bit_in x.f) gb 0 3 (Nat.le_refl _) 0 (F 0) D hD (lim_f (f := x.f) (hF 0 (by omega))) (A' 0) D w hC.2.1 hC.1 hC.2.2).mono ?_
      rintro e w' ⟨P, L, h1, h2, h3, h4⟩
      refine ⟨P, L, ⟨h1, ?_, fun t => ?_⟩, h4⟩
      · have : bd D (3 - 1) = 1 + (D - 1) + (D - 1) := rfl
        omega
      · unfold gI
        rw [if_pos hk]
        have h6 := h3 t
        rw [rd_same (hF 0 (by omega))] at h6
        exact h6
    · rintro e w' ⟨P, L, ⟨h1, h2, h3⟩, h4⟩
      exact ⟨P, L, h1, h2, h3, h4⟩
  · cases e
    obtain ⟨Q, q0, q1, q2, -, q4⟩ := arity_two h (by omega)
    have q5 := q4 hk
    rw [q0, ← q5]
    exact hpair 3 Q (by decide) (by omega) q0 q1 q2 (Q : Int) (fun w _ => gch_par x.f none 0 0 Q q1 q2 ft.hval w) (by rw [Nat.mul_comm]; exact gar_par none 0 0 Q q1 q2)
end Go.Proofs.YtebgfelbffgnbaaGreatDoor
/-
  The gadget's polynomial of wires.
-/
namespace Go.Proofs.YtebgfelbffgnbaaGreatDoor
open Go.RowKit Flow F
set_option linter.unusedVariables false
set_option linter.unusedSimpArgs false
attribute [local go_sem] eql_elem

/-- Coefficients of values. -/
def CfOf (f : Int) (k D : Nat) (V C : Nat → Int) : Prop := (∀ t, 0 ≤ C t ∧ C t < M f) ∧ ∃ v, 0 ≤ v ∧ v < M f ∧ mul f (D : Int) v = 1 ∧ ∀ q, q < D → C q = mul f (Dk f k V (power (mul f) (rt f k)) k 0 ((D - q) % D)) v
theorem coefs_cf {f : Int} (ft : Ft f) (k : Nat) (hk : k ≤ 10) (D c : Nat) (hD : D = 2 ^ k) (V : Nat → Int) (hV : ∀ t, t < D → 0 ≤ V t ∧ V t < M f) (A : Option Addr) (w : World) (hT : Tabs w) (hA : ElemsAt w A (lst V D)) :
    Calls Tryz.prog 32 #[.int .u8 f, .slice A D c] w fun e w' => ∃ C g, CfOf f k D V C ∧ e = .returned (.tuple #[.slice (some ⟨g, 0, none⟩) D D, .int .i64 0]) ∧ Below w.heap.size w w' ∧ w.heap.size ≤ g ∧ Row w' g (lst C D) := by
  refine (coefs_any ft k hk _ D c hD (lst_length _ _) (lim_of hV).ok A w hT hA).mono ?_
  rintro e w' ⟨v, p0, p1, hone, g, he, hb, hg, hr⟩
  refine ⟨_, g, ⟨fun t => mul_bound f _ _, v, p0, p1, hone, fun q hq => ?_⟩, he, hb, hg, hr⟩
  rw [Dk_congr f k _ (C' := V) (fun t ht => lst_at _ (by rw [hD]; exact ht)) k (Nat.le_refl _) 0 _ (by rw [Nat.sub_self]; decide)]
/-- Lists of coefficients, so many of them. -/
structure Cw (w0 : World) (f : Int) (kk Q n D : Nat) (V : Nat → Nat → Int) (r : Nat → Nat) (C : Nat → Nat → Int) (j : Nat) (wr : World) : Prop where
  below : Below w0.heap.size w0 wr
  low : w0.heap.size ≤ Q
  q : wr.heap[Q]? = some (.cells (gcells (fun i => if i < j then .slice (some ⟨r i, 0, none⟩) D D else .slice none 0 0) n) 25 (0, 0))
  rows : ∀ i, i < j → Row wr (r i) (lst (C i) D) ∧ CfOf f kk D (V i) (C i)
section
variable {w0 : World} {f : Int} {kk Q n D j : Nat} {V : Nat → Nat → Int} {r : Nat → Nat} {C : Nat → Nat → Int} {wr : World}
theorem Cw.up (h : Cw w0 f kk Q n D V r C j wr) {w' : World} (hb : Below wr.heap.size wr w') : Cw w0 f kk Q n D V r C j w' :=
  ⟨below_next h.below h.below.size hb, h.low, keeps hb h.q, fun i hij => ⟨(h.rows i hij).1.up hb, (h.rows i hij).2⟩⟩
theorem Cw.cell (h : Cw w0 f kk Q n D V r C j wr) {i : Nat} (hin : i < n) : ∃ v, wr.cell? ⟨Q, i, none⟩ = some v ∧ wr.frozen? ⟨Q, i, none⟩ = false := by
  have hg := h.q
  have h2 := gcells_at (fun i => if i < j then Value.slice (some ⟨r i, 0, none⟩) D D else .slice none 0 0) hin
  exact ⟨_, by simp only [World.cell?, hg]; simpa using h2, by simp [World.frozen?, hg]⟩
theorem Cw.add (h : Cw w0 f kk Q n D V r C j wr) {p : Nat} {C' : Nat → Int} (hr : Row wr p (lst C' D)) (hC : CfOf f kk D (V j) C') :
    Cw w0 f kk Q n D V (fun i => if i = j then p else r i) (fun i => if i = j then C' else C i) (j + 1) (wr.setCell ⟨Q, j, none⟩ (.slice (some ⟨p, 0, none⟩) D D)) := by
  have hne : ∀ {b : Nat} {L : List Int}, Row wr b L → b ≠ Q := fun hb => cells_ne hb h.q (by decide)
  refine ⟨h.below.setCell (p := ⟨Q, j, none⟩) h.low _, h.low, ?_, fun i hij => ?_⟩
  · rw [store1 h.q, gcells_set]
    congr 2
    refine gcells_congr (fun i hin => ?_)
    by_cases e : i = j
    · subst e; simp
    · simp only [if_neg e]
      by_cases e2 : i < j
      · rw [if_pos e2, if_pos (by omega)]
      · rw [if_neg e2, if_neg (by omega)]
  · by_cases e : i = j
    · subst e
      simp only [if_true]
      exact ⟨store_far hr (hne hr), hC⟩
    · simp only [if_neg e]
      have h1 := (h.rows i (by omega)).1
      exact ⟨store_far h1 (hne h1), (h.rows i (by omega)).2⟩
end
/-- The gadget's polynomial of wires. -/
def WpolyOut (x : Ci) (kk D : Nat) (V : Nat → Nat → Int) (w : World) (e : Ending) (w' : World) : Prop :=
  ∃ (C : Nat → Nat → Int) (P : Nat → Int) (L : Nat), (∀ i, i < x.arityN → CfOf x.f kk D (V i) (C i)) ∧ Poly x.f P L ∧ L ≤ 2 * (D - 1) + 1 ∧ (∀ t, Eqm (M x.f) (pf t P L) (gI x (fun i => pf t (C i) D))) ∧ MOut P L w e w'
set_option maxRecDepth 20000 in
set_option maxHeartbeats 4000000 in
theorem wpoly_any (x : Ci) (h : x.Good) (a : Int) (A : Option Addr) (ln lc : Nat) (m : Int) (kk D : Nat) (hkk : kk ≤ 10) (hD : D = 2 ^ kk) (hD40 : D ≤ 40) (P G : Nat) (R : Nat → Nat) (V : Nat → Nat → Int) (k : Int) (hV : ∀ i, i < x.arityN → ∀ t, t < D → 0 ≤ V i t ∧ V i t < M x.f) (ha : x.arityN ≤ 100)
    (w : World) (hT : Tabs w) (hw : Wp P G x.arityN D R V x.arityN k w) (hg : GadIs x (.agg #[.int .u8 a, .slice A ln lc, .int .i64 m]) w) :
    Calls Tryz.prog 64 #[.pointer (some ⟨P, 0, none⟩), .int .u8 x.f, .agg #[.int .u8 a, .slice A ln lc, .int .i64 m]] w (WpolyOut x kk D V w) := by
  have ft := ft_of h.f
  have hD1 : 1 ≤ D := by rw [hD]; exact two_pos kk
  have hcf := Lib.hid (fun i (hin : i < x.arityN) w1 (hT : Tabs w1) (hr : Row w1 (R i) (lst (V i) D)) => coefs_cf ft kk hkk D D hD (V i) (hV i hin) (some ⟨R i, 0, none⟩) w1 hT hr.elems)
  have hpo := Lib.hid (fun C (hC : ∀ i, i < x.arityN → ∀ t, 0 ≤ C i t ∧ C i t < M x.f) A' g d w1 hg hT hP => cpoly_any x h a A ln lc m C D hD40 hD1 hC A' g d w1 hg hT hP)
  have hmk := make_lists x.arityN (by omega)
  unfold WpolyOut MOut
  unfold MOut at hpo
  obtain ⟨n, hn⟩ : ∃ n, x.arityN = n := ⟨_, rfl⟩
  rw [hn] at hcf hpo hmk hw ha ⊢
  replace hT := Lib.hid hT
  replace hg := Lib.hid hg
  replace hw := Lib.hid hw
  obtain ⟨f, hf⟩ : ∃ f, x.f = f := ⟨_, rfl⟩
  rw [hf] at hcf hpo ⊢
  clear hV hD ft
  go_enter Tryz.func64, Tryz.ntmps64
  obtain ⟨e0, -, -⟩ := hw.out.cellP
  have hlP := hw.out.lt (.inl rfl)
  have hnP := Nat.ne_of_lt hlP
  go_upto_region 2 with (fail)
  clear hlP hnP
  have hb0 : Below w.heap.size w ((w.alloc (.cells #[.int .u8 a, .slice A ln lc, .int .i64 m] 43 (0, 0))).alloc (.cells (gcells (fun _ => .slice none 0 0) n) 25 (0, 0))) := ((Below.refl _ _).alloc (Nat.le_refl _) _).alloc (by simp) _
  refine name_wp (fun w1 => Below w.heap.size w w1 ∧ w1.heap[w.heap.size]? = some (.cells #[.int .u8 a, .slice A ln lc, .int .i64 m] 43 (0, 0)) ∧ w1.heap[w.heap.size + 1]? = some (.cells (gcells (fun _ => .slice none 0 0) n) 25 (0, 0))) ⟨hb0, alloc_keeps (alloc_at rfl), alloc_at (by simp)⟩ ?_
  clear hb0 e0
  rintro w1 ⟨hb, kg, kq⟩
  have hc : Cw w f kk (w.heap.size + 1) n D V (fun _ => 0) (fun _ _ => 0) 0 w1 := ⟨hb, Nat.le_succ _, by simp only [Nat.not_lt_zero, if_false]; exact kq, fun i hi => absurd hi (Nat.not_lt_zero _)⟩
  obtain ⟨e0, -, -⟩ := (hw.out.up hb).cellP
  obtain ⟨Q, hQ⟩ : ∃ Q, w.heap.size + 1 = Q := ⟨_, rfl⟩
  rw [hQ] at hc ⊢
  clear kq hQ
  obtain ⟨q5, hq5⟩ : ∃ q5, w.heap.size = q5 := ⟨_, rfl⟩
  have kg' : Hid (w1.heap[q5]? = some (.cells #[.int .u8 a, .slice A ln lc, .int .i64 m] 43 (0, 0))) := Lib.hid (by rw [← hq5]; exact kg)
  have hqQ : Hid (q5 ≠ Q) := Lib.hid (cells_ne kg'.out hc.q (by decide))
  replace hc := Lib.hid hc
  clear kg hb
  rw [hq5]
  replace hq5 := Lib.hid hq5
  go_upto_region 3 with (fail)
  go_loopw [24] (fun i wr => ∃ (j : Nat) (r : Nat → Nat) (C : Nat → Nat → Int), i = .int .i64 (j : Int) ∧ j ≤ n ∧ Hid (Cw w f kk Q n D V r C j wr) ∧ Hid (wr.heap[q5]? = some (.cells #[.int .u8 a, .slice A ln lc, .int .i64 m] 43 (0, 0)))) (fun i _ => n - (intOf i).toNat)
  case atStart => exact ⟨0, _, _, rfl, Nat.zero_le _, hc, kg'⟩
  case round =>
    clear hc e0 kg'
    obtain ⟨j, r, C, rfl, hj, hc, kg⟩ := hrel
    by_cases hlt : j < n
    · have j0 : (0 : Int) ≤ (j : Int) := by omega
      have j1 : (j : Int) < (n : Int) := by omega
      have hwr := hw.out.up hc.out.below
      have e1 := hwr.cellG hlt hlt
      have hcl := Lib.hid (hcf.out j hlt wr (hT.out.up hc.out.below) (hwr.r j hlt))
      clear hwr
      go_wp2_with fail
      refine hcl.out.mono ?_
      clear hcl e1
      rintro e w2 ⟨C', g, hcf', rfl, hv, hg2, hrow⟩
      have hc2 := hc.out.up hv
      have kg2 := keeps hv kg.out
      obtain ⟨v, s0, s1⟩ := hc2.cell hlt
      have hc3 := hc2.add hrow hcf'
      have kg3 : (w2.setCell ⟨Q, j, none⟩ (.slice (some ⟨g, 0, none⟩) D D)).heap[q5]? = some (.cells #[.int .u8 a, .slice A ln lc, .int .i64 m] 43 (0, 0)) := store_far kg2 hqQ.out
      replace hc3 := Lib.hid hc3
      replace kg3 := Lib.hid kg3
      clear hc hc2 kg2 kg hv hg2 hrow hcf'
      go_wp2
      exact ⟨⟨j + 1, _, _, by first | rfl | go_num, by omega, hc3, kg3⟩, by simp [intOf]; omega⟩
    · obtain rfl : n = j := by omega
      obtain ⟨c0, c1, c2⟩ : wr.cell? ⟨q5, 0, none⟩ = some (.int .u8 a) ∧ wr.cell? ⟨q5, 1, none⟩ = some (.slice A ln lc) ∧ wr.cell? ⟨q5, 2, none⟩ = some (.int .i64 m) := by simp [World.cell?, kg.out]
      have hPs : PolysAt wr Q 0 n (fun i => some ⟨r i, 0, none⟩) (fun _ => D) (fun _ => D) C := fun i hin => by
        have h2 := gcells_at (fun i => if i < n then Value.slice (some ⟨r i, 0, none⟩) D D else .slice none 0 0) hin
        simp only [hin, if_true] at h2
        exact ⟨by rw [Nat.zero_add]; simp only [World.cell?, hc.out.q]; simpa using h2, (hc.out.rows i hin).1.elems⟩
      have hcl := Lib.hid (hpo.out C (fun i hin t => (hc.out.rows i hin).2.1 t) (fun i => some ⟨r i, 0, none⟩) Q n wr (hg.out.up hc.out.below) (hT.out.up hc.out.below) hPs)
      clear hPs
      go_wp2_with fail
      refine hcl.out.mono ?_
      clear hcl c0 c1 c2
      rintro e w2 ⟨Pl, L, hp1, hp2, hp3, B, rfl, hv, hli⟩
      have hbe := Lib.hid (below_next hc.out.below hc.out.below.size hv)
      replace hli := Lib.hid (hli.low hc.out.below.size)
      replace hp1 := Lib.hid hp1
      replace hp3 := Lib.hid hp3
      replace hp2 := Lib.hid hp2
      clear hv
      go_wp2
      go_ret2
      exact ⟨C, Pl, L, fun i hin => (hc.out.rows i hin).2, hp1.out, hp2.out, hp3.out, B, rfl, hbe.out, hli.out⟩
end Go.Proofs.YtebgfelbffgnbaaGreatDoor
/-
  Values of a polynomial that has more coefficients than there are points.
-/
namespace Go.Proofs.YtebgfelbffgnbaaGreatDoor
open Go.RowKit Flow F
set_option linter.unusedVariables false
set_option linter.unusedSimpArgs false
attribute [local go_sem] eql_elem

/-- So many coefficients laid on one another. -/
def fdF (f : Int) (D : Nat) (p : Nat → Int) : Nat → Nat → Int
  | 0, _ => 0
  | j + 1, t => if t = j % D then add f (fdF f D p j t) (p j) else fdF f D p j t
/-- What valuesOf answers. -/
def VofOut (f : Int) (kk D : Nat) (p : Nat → Int) (L : Nat) (w : World) (e : Ending) (w' : World) : Prop :=
  ∃ Av g, (∀ t, 0 ≤ Av t ∧ Av t < M f) ∧ (∀ i, i < D → Eqm (M f) (Av i) (pf (rt f kk ^ i) p L)) ∧ e = .returned (.tuple #[.slice (some ⟨g, 0, none⟩) D D, .int .i64 0]) ∧ Below w.heap.size w w' ∧ w.heap.size ≤ g ∧ Row w' g (lst Av D)
end Go.Proofs.YtebgfelbffgnbaaGreatDoor
/-
  What is asked of a proof, in all.
-/
namespace Go.Proofs.YtebgfelbffgnbaaGreatDoor
open Go.RowKit Flow F
set_option linter.unusedVariables false
set_option linter.unusedSimpArgs false

theorem part_oneP {f : Int} (hf : f = 1 ∨ f = 2) : PartIs f 1 1 := by
  obtain ⟨p, hp⟩ := part_of hf 1 (by omega) (by omega)
  have h := hp.mul
  rw [mul_in (in_one f) hp.p0, Int.one_mul, in_em hp.p0] at h
  rw [h] at hp
  exact hp
theorem askQ_lenP (x : Ci) (h : x.Good) (xs js : List Int) (p : Int) (k : Nat) : (askQ x xs js p k).length = x.arityN := by
  unfold askQ Ci.arityN
  by_cases h1 : x.k = 1
  · rw [if_pos h1, if_pos h1]; rfl
  · rw [if_neg h1, if_neg h1]
    by_cases h2 : x.k = 2
    · rw [if_pos h2, if_pos h2]; rfl
    · rw [if_neg h2, if_neg h2]
      unfold chunkQ
      exact prL_length (by rw [List.length_take]; omega)
theorem askQ_in (x : Ci) {xs : List Int} (hx : InF x.f xs) (js : List Int) (p : Int) (k : Nat) : InF x.f (askQ x xs js p k) := by
  unfold askQ
  by_cases h1 : x.k = 1
  · rw [if_pos h1]
    intro y hy
    simp only [List.mem_cons, List.not_mem_nil, or_false] at hy
    rcases hy with rfl | rfl <;> exact getD_in' hx 0
  · rw [if_neg h1]
    by_cases h2 : x.k = 2
    · rw [if_pos h2]
      intro y hy
      rw [List.mem_singleton.1 hy]
      exact getD_in' hx k
    · rw [if_neg h2]
      intro y hy
      unfold chunkQ prL rangeL at hy
      rcases List.mem_append.1 hy with h | h
      · obtain ⟨j, -, rfl⟩ := List.mem_map.1 h
        exact prF_bound _ _ _ _ _
      · rw [List.eq_of_mem_replicate h]
        exact in_zero _
/-- All that is asked. -/
def asksL (x : Ci) (xs js : List Int) (p : Int) : List (List Int) := (List.range x.callsN).map (askQ x xs js p)
theorem asksL_length (x : Ci) (xs js : List Int) (p : Int) : (asksL x xs js p).length = x.callsN := by simp [asksL]
theorem asksL_at (x : Ci) (xs js : List Int) (p : Int) {k : Nat} (hk : k < x.callsN) : (asksL x xs js p).getD k [] = askQ x xs js p k := by simp [asksL, hk]
theorem stN_app (q : Nat → List Int) : ∀ m, stN (fun (s : List (List Int)) xs => s ++ [xs]) q [] m = (List.range m).map q
  | 0 => rfl
  | m + 1 => by
    simp only [stN]
    rw [stN_app q m, List.range_succ, List.map_append]
    rfl
/-- What wires have in the end lies in the field. -/
theorem wvF_in (x : Ci) (h : x.Good) (sd : List Int) {xs : List Int} (hx : InF x.f xs) (js : List Int) (p : Int) (i t : Nat) : 0 ≤ wvF x.f sd (asksL x xs js p) i t ∧ wvF x.f sd (asksL x xs js p) i t < M x.f := by
  unfold wvF
  by_cases h0 : t = 0
  · rw [if_pos h0]; exact add_bound _ _ _
  · rw [if_neg h0]
    by_cases h1 : t ≤ (asksL x xs js p).length
    · rw [if_pos h1, asksL_at x xs js p (by rw [asksL_length] at h1; omega)]
      exact getD_in' (askQ_in x hx js p _) i
    · rw [if_neg h1]; exact in_zero _
theorem gadE_none (x : Ci) (h : x.Good) (xs js : List Int) (p : Int) (k : Nat) : gadE x (askQ x xs js p k) = 0 := by unfold gadE; rw [if_pos (askQ_lenP x h xs js p k)]
/-- A proof's own asking. -/
theorem prove_run (x : Ci) (h : x.Good) (ha : x.arityN ≤ 100) (xs js : List Int) (Ax Bj : Option Addr) (N cp J cj : Nat) (hl : xs.length = N) (hN : N = x.inN) (hcp : N ≤ cp) (hJ : J = x.jointN) (hjl : js.length = J) (hx : ElemsOK xs) (hj : ElemsOK js)
    (sd : List Int) (P G D : Nat) (hD : D ≤ 1024) (hcD : x.callsN < D) (R : Nat → Nat) (pw pg pf : Nat) (a : Int) (A : Option Addr) (n c : Nat) (m : Int) (own : Nat → Prop) (w : World) (hs : PrSt x sd P G D R pw pg pf a A n c m [] own w)
    (hA : ElemsAt w Ax xs) (hno : ∀ a, Ax = some a → ¬ own a.block) (hB : ElemsAt w Bj js) (hnb : ∀ a, Bj = some a → ¬ own a.block) :
    Calls Tryz.prog 29 #[cvl x, .slice Ax N cp, .slice Bj J cj, .int .i64 1, .func (.func 62) #[] #[.pointer (some ⟨pw, 0, none⟩), .pointer (some ⟨pg, 0, none⟩), .pointer (some ⟨pf, 0, none⟩)]] w
      (AskOut (PrSt x sd P G D R pw pg pf a A n c m) own (runF x xs js 1 (fun k => gadV x (askQ x xs js 1 k))) 0 (asksL x xs js 1) w) := by
  refine (run_ok (prove_asking x h ha sd P G D hD R pw pg pf a A n c m) x h xs js Ax Bj N cp J cj 1 1 (part_oneP h.f) hl hN hcp hJ hjl hx hj [] own w hs hA hno hB hnb (fun i hic => ?_)).mono fun e w' hh => ?_
  · rw [stN_app]
    exact ⟨by simp; omega, askQ_lenP x h xs js 1 i⟩
  · rcases hh with ⟨j, _, h2, _⟩ | ⟨_, h2⟩
    · exact absurd (gadE_none x h xs js 1 j) h2
    · rw [stN_app] at h2
      exact h2
end Go.Proofs.YtebgfelbffgnbaaGreatDoor
/-
  A circuit's gadget, with where its coefficients lie.
-/
namespace Go.Proofs.YtebgfelbffgnbaaGreatDoor
open Go.RowKit Flow F
set_option linter.unusedVariables false
set_option linter.unusedSimpArgs false
attribute [local go_sem] eql_elem

set_option maxHeartbeats 2000000 in
theorem gbitn_one (w : World) : Calls Tryz.prog 60 #[.int .u8 1] w fun e w' => ∃ g, e = .returned (bitVal g) ∧ Below w.heap.size w w' ∧ Row w' g (bitCoefs 1) ∧ w.heap.size ≤ g := by
  have hone := Lib.hid (fone_any 1 (by omega))
  have hneg : ∀ w, Calls Tryz.prog 108 #[.int .u8 1, .agg #[.int .u64 1, .int .u64 0]] w fun e w' => e = .returned (.agg #[.int .u64 (lo (neg 1 1)), .int .u64 (hi (neg 1 1))]) ∧ Below w.heap.size w w' := fun w => fneg_one 1 w
  unfold bitCoefs bitVal
  generalize neg 1 1 = m at *
  replace hneg := Lib.hid hneg
  go_enter Tryz.func60, Tryz.ntmps60
  go_wp2_with fail
  refine name_calls (fun w1 => Below w.heap.size w w1 ∧ w1.heap[w.heap.size]? = some (.cells #[.int .u8 0, .slice none 0 0, .int .i64 0] 43 (0, 0))) ⟨(Below.refl _ _).alloc (Nat.le_refl _) _, alloc_at rfl⟩ ?_
  rintro w1 ⟨hb, k0⟩
  refine call_then (hone.out _) ?_
  intro w2 hb2
  replace hb := below_next hb hb.size hb2
  replace k0 := keeps hb2 k0
  clear hb2
  go_wp2_with fail
  refine call_then (hneg.out _) ?_
  intro w2 hb2
  replace hb := below_next hb hb.size hb2
  replace k0 := keeps hb2 k0
  clear hb2
  go_wp2_with fail
  refine call_then (hone.out _) ?_
  intro w2 hb2
  replace hb := below_next hb hb.size hb2
  replace k0 := keeps hb2 k0
  clear hb2
  obtain ⟨c0, c1, c2, f0, f1, f2⟩ := blk3 k0
  have l0 := lt_of_get k0
  have l1 := Nat.ne_of_lt l0
  go_wp2
  have k1 : ((((w2.setCell ⟨w.heap.size, 0, none⟩ (.int .u8 2)).setCell ⟨w.heap.size, 1, none⟩ (.slice (some ⟨w2.heap.size, 0, none⟩) 3 3)).setCell ⟨w.heap.size, 2, none⟩ (.int .i64 0))).heap[w.heap.size]? = some (.cells #[.int .u8 2, .slice (some ⟨w2.heap.size, 0, none⟩) 3 3, .int .i64 0] 43 (0, 0)) :=
    (store1 (store1 (store1 k0 (o := 0) (v := .int .u8 2)) (o := 1) (v := .slice (some ⟨w2.heap.size, 0, none⟩) 3 3)) (o := 2) (v := .int .i64 0)).trans rfl
  have hb3 := ((hb.setCell (p := ⟨w.heap.size, 0, none⟩) (Nat.le_refl _) (.int .u8 2)).setCell (p := ⟨w.heap.size, 1, none⟩) (Nat.le_refl _) (.slice (some ⟨w2.heap.size, 0, none⟩) 3 3)).setCell (p := ⟨w.heap.size, 2, none⟩) (Nat.le_refl _) (.int .i64 0)
  have k2 := alloc_keeps (o := .cells #[.int .u64 0, .int .u64 0, .int .u64 (lo m), .int .u64 (hi m), .int .u64 1, .int .u64 0] 28 (0, 0)) k1
  obtain ⟨p0, p1, p2, _⟩ := blk3 k2
  refine bodyPost_ret (v := .agg #[.int .u8 2, .slice (some ⟨w2.heap.size, 0, none⟩) 3 3, .int .i64 0]) (by simp [results, Tryz.results60, go_sem, p0, p1, p2]) rfl ⟨w2.heap.size, rfl, hb3.alloc hb3.size _, alloc_at (by simp), hb.size⟩
set_option maxHeartbeats 2000000 in
theorem gbitn_two (w : World) : Calls Tryz.prog 60 #[.int .u8 2] w fun e w' => ∃ g, e = .returned (bitVal g) ∧ Below w.heap.size w w' ∧ Row w' g (bitCoefs 2) ∧ w.heap.size ≤ g := by
  have hone := Lib.hid (fone_any 2 (by omega))
  have hneg : ∀ w, Calls Tryz.prog 108 #[.int .u8 2, .agg #[.int .u64 1, .int .u64 0]] w fun e w' => e = .returned (.agg #[.int .u64 (lo (neg 2 1)), .int .u64 (hi (neg 2 1))]) ∧ Below w.heap.size w w' := fun w => fneg_two 1 (by decide) (by decide) w
  unfold bitCoefs bitVal
  generalize neg 2 1 = m at *
  replace hneg := Lib.hid hneg
  go_enter Tryz.func60, Tryz.ntmps60
  go_wp2_with fail
  refine name_calls (fun w1 => Below w.heap.size w w1 ∧ w1.heap[w.heap.size]? = some (.cells #[.int .u8 0, .slice none 0 0, .int .i64 0] 43 (0, 0))) ⟨(Below.refl _ _).alloc (Nat.le_refl _) _, alloc_at rfl⟩ ?_
  rintro w1 ⟨hb, k0⟩
  refine call_then (hone.out _) ?_
  intro w2 hb2
  replace hb := below_next hb hb.size hb2
  replace k0 := keeps hb2 k0
  clear hb2
  go_wp2_with fail
  refine call_then (hneg.out _) ?_
  intro w2 hb2
  replace hb := below_next hb hb.size hb2
  replace k0 := keeps hb2 k0
  clear hb2
  go_wp2_with fail
  refine call_then (hone.out _) ?_
  intro w2 hb2
  replace hb := below_next hb hb.size hb2
  replace k0 := keeps hb2 k0
  clear hb2
  obtain ⟨c0, c1, c2, f0, f1, f2⟩ := blk3 k0
  have l0 := lt_of_get k0
  have l1 := Nat.ne_of_lt l0
  go_wp2
  have k1 : ((((w2.setCell ⟨w.heap.size, 0, none⟩ (.int .u8 2)).setCell ⟨w.heap.size, 1, none⟩ (.slice (some ⟨w2.heap.size, 0, none⟩) 3 3)).setCell ⟨w.heap.size, 2, none⟩ (.int .i64 0))).heap[w.heap.size]? = some (.cells #[.int .u8 2, .slice (some ⟨w2.heap.size, 0, none⟩) 3 3, .int .i64 0] 43 (0, 0)) :=
    (store1 (store1 (store1 k0 (o := 0) (v := .int .u8 2)) (o := 1) (v := .slice (some ⟨w2.heap.size, 0, none⟩) 3 3)) (o := 2) (v := .int .i64 0)).trans rfl
  have hb3 := ((hb.setCell (p := ⟨w.heap.size, 0, none⟩) (Nat.le_refl _) (.int .u8 2)).setCell (p := ⟨w.heap.size, 1, none⟩) (Nat.le_refl _) (.slice (some ⟨w2.heap.size, 0, none⟩) 3 3)).setCell (p := ⟨w.heap.size, 2, none⟩) (Nat.le_refl _) (.int .i64 0)
  have k2 := alloc_keeps (o := .cells #[.int .u64 0, .int .u64 0, .int .u64 (lo m), .int .u64 (hi m), .int .u64 1, .int .u64 0] 28 (0, 0)) k1
  obtain ⟨p0, p1, p2, _⟩ := blk3 k2
  refine bodyPost_ret (v := .agg #[.int .u8 2, .slice (some ⟨w2.heap.size, 0, none⟩) 3 3, .int .i64 0]) (by simp [results, Tryz.results60, go_sem, p0, p1, p2]) rfl ⟨w2.heap.size, rfl, hb3.alloc hb3.size _, alloc_at (by simp), hb.size⟩
def GadNew (x : Ci) (w : World) (e : Ending) (w' : World) : Prop := ∃ a A n d c, e = .returned (.agg #[.int .u8 a, .slice A n d, .int .i64 c]) ∧ Below w.heap.size w w' ∧ GadIs x (.agg #[.int .u8 a, .slice A n d, .int .i64 c]) w' ∧ ∀ b o, A = some ⟨b, o, none⟩ → w.heap.size ≤ b
theorem gbitn_any (f : Int) (hf : f = 1 ∨ f = 2) (w : World) : Calls Tryz.prog 60 #[.int .u8 f] w fun e w' => ∃ g, e = .returned (bitVal g) ∧ Below w.heap.size w w' ∧ Row w' g (bitCoefs f) ∧ w.heap.size ≤ g := by
  rcases hf with rfl | rfl
  · exact gbitn_one w
  · exact gbitn_two w
set_option maxHeartbeats 1000000 in
theorem gadget_two (f b l W c : Int) (h : (Ci.mk 2 f b l W c).Good) (w : World) : Calls Tryz.prog 15 #[cvl (Ci.mk 2 f b l W c)] w (GadNew (Ci.mk 2 f b l W c) w) := by
  have hR := Lib.hid (right_good h)
  have hB := Lib.hid (gbitn_any f h.f)
  clear h
  unfold cvl bitVal at *
  go_enter Tryz.func15, Tryz.ntmps15
  go_upto_region 1 with (fail)
  refine name_wp (fun w1 => Below w.heap.size w w1 ∧ w1.heap[w.heap.size]? = some (.cells #[.int .u8 2, .int .u8 f, .int .i64 b, .int .i64 l, .int .i64 W, .int .i64 c] 33 (0, 0)) ∧ w1.heap[w.heap.size + 1]? = some (.cells #[.int .u8 0, .slice none 0 0, .int .i64 0] 43 (0, 0))) ⟨((Below.refl _ _).alloc (Nat.le_refl _) _).alloc (by simp) _, alloc_keeps (alloc_at rfl), alloc_at (by simp)⟩ ?_
  rintro w1 ⟨hb, k0, k1⟩
  obtain ⟨c0, c1, c2, c3, c4, c5⟩ := blk6 k0
  go_wp2_with fail
  refine call_then (hR.out _) ?_
  intro w2 hb2
  replace hb := below_next hb hb.size hb2
  replace k0 := keeps hb2 k0
  replace k1 := keeps hb2 k1
  clear hb2 c0 c1 c2 c3 c4 c5
  obtain ⟨c0, c1, c2, c3, c4, c5⟩ := blk6 k0
  obtain ⟨d0, d1, d2, f0, f1, f2⟩ := blk3 k1
  go_wp2_with fail
  refine (hB.out _).mono ?_
  rintro e w3 ⟨g, rfl, hv, hrow, hgs⟩
  replace hgs := Nat.le_trans hb.size hgs
  have hgl := lt_of_get hrow
  have hgn : g ≠ w.heap.size + 1 := by
    intro e
    subst e
    have h1 := keeps hv k1
    have h2 : w3.heap[w.heap.size + 1]? = some (.cells (ecells (bitCoefs f)).toArray 28 (0, 0)) := hrow
    rw [h1] at h2
    cases h2
  replace hb := below_next hb hb.size hv
  replace k1 := keeps hv k1
  clear hv c0 c1 c2 c3 c4 c5 d0 d1 d2 f0 f1 f2 k0
  obtain ⟨d0, d1, d2, f0, f1, f2⟩ := blk3 k1
  go_wp2
  have kk := (store1 (store1 (store1 k1 (o := 0) (v := .int .u8 2)) (o := 1) (v := .slice (some ⟨g, 0, none⟩) 3 3)) (o := 2) (v := .int .i64 0)).trans rfl
  obtain ⟨z0, z1, z2, _⟩ := blk3 (u := .int .u8 2) (v := .slice (some ⟨g, 0, none⟩) 3 3) (x := .int .i64 0) kk
  have hb4 := ((hb.setCell (p := ⟨w.heap.size + 1, 0, none⟩) (by show w.heap.size ≤ w.heap.size + 1; omega) (.int .u8 2)).setCell (p := ⟨w.heap.size + 1, 1, none⟩) (by show w.heap.size ≤ w.heap.size + 1; omega) (.slice (some ⟨g, 0, none⟩) 3 3)).setCell (p := ⟨w.heap.size + 1, 2, none⟩) (by show w.heap.size ≤ w.heap.size + 1; omega) (.int .i64 0)
  exact bodyPost_ret (v := .agg #[.int .u8 2, .slice (some ⟨g, 0, none⟩) 3 3, .int .i64 0]) (by simp [results, Tryz.results15, go_sem, z0, z1, z2]) rfl ⟨_, _, _, _, _, rfl, hb4, .inr (.inl ⟨rfl, g, rfl, store_far (store_far (store_far hrow hgn) hgn) hgn⟩), fun b o e => by cases e; exact hgs⟩

theorem gadget_new (x : Ci) (h : x.Good) (w : World) : Calls Tryz.prog 15 #[cvl x] w (GadNew x w) := by
  by_cases h2 : x.k = 2
  · obtain ⟨k, f, b, l, W, c⟩ := x
    obtain rfl : k = 2 := h2
    exact gadget_two f b l W c h w
  · refine (gadget_any x h w).mono ?_
    rintro e w' ⟨a, A, n, d, c, he, hb, hg⟩
    refine ⟨a, A, n, d, c, he, hb, hg, fun b o hA => ?_⟩
    rcases hg with ⟨_, e⟩ | ⟨hk, _⟩ | ⟨_, e⟩
    · subst hA; cases e
    · exact absurd hk h2
    · subst hA; cases e
end Go.Proofs.YtebgfelbffgnbaaGreatDoor
/-
  A list of elements copied into the midst of a row.
-/
namespace Go.Proofs.YtebgfelbffgnbaaGreatDoor
open Go.RowKit Flow F
set_option linter.unusedVariables false
set_option linter.unusedSimpArgs false

section
variable {P : Program}
theorem run_copy_twoAt (w : World) (dT sT ty elem : TypeId) (g o dLen dCap : Nat) (a : Addr) (sLen sCap K : Nat) (cur : Array Value) (t : TypeId) (cs : List Value)
    (hu : P.underlying dT = some (.slice elem)) (hs : (P.info? elem).map (·.size) = some 2)
    (hg : w.heap[g]? = some (.cells cur t (0, 0))) (hK : Nat.min sLen dLen = K) (hn : cs.length = K * 2)
    (hsrc : ∀ j v, cs[j]? = some v → w.cell? (a.add j) = some v) (hfit : o + cs.length ≤ cur.size) (h1 : ∀ v ∈ cs, v.oneCell' = true) :
    (Builtin.copy_ #[dT, sT] ty #[.slice (some ⟨g, o, none⟩) dLen dCap, .slice (some a) sLen sCap]).run P w =
      .ok (goInt K) (w.setRow g (cur.toList.take o ++ cs ++ cur.toList.drop (o + cs.length)).toArray) := by
  have hl := run_loadCells_list (P := P) w a cs hsrc
  have hst := run_storeCells_at P g o t cs 0 cur w hg (by simpa using hfit) h1
  rw [hn] at hl
  cases hq : P.info? elem with
  | none => simp [hq] at hs
  | some i =>
    have hi : i.size = 2 := by simpa [hq] using hs
    simp [Builtin.copy_, run_underlying hu, Builtin.lenOf, Builtin.firstCells, sizeOf, typeInfo, hq, hi, hK, hl, hst]
end
theorem ecells_app : ∀ a b, ecells (a ++ b) = ecells a ++ ecells b
  | [], _ => rfl
  | x :: a, b => by simp [ecells, ecells_app a b]
theorem ecells_take2 : ∀ xs k, (ecells xs).take (k * 2) = ecells (xs.take k)
  | [], k => by simp [ecells]
  | x :: xs, 0 => by simp [ecells]
  | x :: xs, k + 1 => by
    rw [show (k + 1) * 2 = k * 2 + 1 + 1 by omega]
    simp [ecells, ecells_take2 xs k]
theorem ecells_drop2 : ∀ xs k, (ecells xs).drop (k * 2) = ecells (xs.drop k)
  | [], k => by simp [ecells]
  | x :: xs, 0 => by simp [ecells]
  | x :: xs, k + 1 => by
    rw [show (k + 1) * 2 = k * 2 + 1 + 1 by omega]
    simp [ecells, ecells_drop2 xs k]
theorem setRow_but (w : World) (g : Nat) (cs : Array Value) {k : Nat} (hk : k ≠ g) : (w.setRow g cs).heap[k]? = w.heap[k]? := by
  unfold World.setRow
  have e : ¬ g = k := fun h => hk h.symm
  simp [Array.getElem?_modify, e]
theorem below_row {B : Nat} {a w : World} (h : Below B a w) {g : Nat} (hg : B ≤ g) (cs : Array Value) : Below B a (w.setRow g cs) :=
  ⟨h.os, h.tape, h.output, by unfold World.setRow; simpa using h.size, fun k hk => (setRow_but w g cs (by omega)).trans (h.block k hk)⟩
/-- The row behind a copy. -/
def copied (F G : Nat → Int) (n L t : Nat) : Int := if t < n then F t else if t - n < L then G (t - n) else F t
theorem copied_lst (F G : Nat → Int) (n L N : Nat) (h : n + L ≤ N) : (lst F N).take n ++ lst G L ++ (lst F N).drop (n + L) = lst (copied F G n L) N := by
  apply List.ext_getElem
  · simp [lst]; omega
  intro i h1 h2
  have hi2 : i < N := by simpa [lst] using h2
  have e2 : (lst (copied F G n L) N)[i] = copied F G n L i := by simp [lst]
  rw [e2]
  unfold copied
  by_cases c1 : i < n
  · rw [if_pos c1, List.getElem_append_left (by simp [lst]; omega), List.getElem_append_left (by simp [lst]; omega)]
    simp [lst]
  · rw [if_neg c1]
    by_cases c2 : i - n < L
    · rw [if_pos c2, List.getElem_append_left (by simp [lst]; omega), List.getElem_append_right (by simp [lst]; omega)]
      simp [lst]
      congr 1
      omega
    · rw [if_neg c2, List.getElem_append_right (by simp [lst]; omega)]
      simp [lst]
      congr 1
      omega
/-- A list copied behind so many elements of a row. -/
theorem copy_lies {B : Nat} {w : World} {A : Option Addr} {F G : Nat → Int} {n L N : Nat} {g : Nat} (hl : Lies B w A G L) (hr : Row w g (lst F N)) (hN : n + L ≤ N) :
    ∃ w', (Builtin.copy_ #[25, 25] 3 #[.slice (some ⟨g, n * 2, none⟩) (N - n) (N - n), .slice A L L]).run Tryz.prog w = .ok (goInt L) w' ∧ Row w' g (lst (copied F G n L) N) ∧ ∀ B0 a, Below B0 a w → B0 ≤ g → Below B0 a w' := by
  rcases hl with ⟨rfl, rfl⟩ | ⟨h0, b, hb, rfl, hrow⟩
  · refine ⟨w, run_copy_nil Tryz.prog w 25 25 3 28 _ _ _ Tryz.underlying25 (by kernel_rfl), ?_, fun _ _ hb _ => hb⟩
    have e : lst (copied F G n 0) N = lst F N := lst_congr (fun t _ => by
      unfold copied
      split
      · rfl
      · rw [if_neg (Nat.not_lt_zero _)])
    rw [e]
    exact hr
  · have h := run_copy_twoAt (P := Tryz.prog) w 25 25 3 28 g (n * 2) (N - n) (N - n) ⟨b, 0, none⟩ L L L _ 28 (ecells (lst G L)) Tryz.underlying25 (by kernel_rfl) hr (by show min L (N - n) = L; omega) (by rw [ecells_length, lst_length]) (ecells_came hrow.elems) (by rw [ecells_length, lst_length]; simp [ecells_length, lst_length]; omega) (ecells_oneG _)
    refine ⟨_, h, ?_, fun B0 a hb hg => below_row hb hg _⟩
    have e1 : ((ecells (lst F N)).toArray.toList.take (n * 2) ++ ecells (lst G L) ++ (ecells (lst F N)).toArray.toList.drop (n * 2 + (ecells (lst G L)).length)) = ecells (lst (copied F G n L) N) := by
      rw [ecells_length, lst_length, ← Nat.add_mul]
      show (ecells (lst F N)).take (n * 2) ++ ecells (lst G L) ++ (ecells (lst F N)).drop ((n + L) * 2) = _
      rw [ecells_take2, ecells_drop2, ← ecells_app, ← ecells_app, copied_lst F G n L N hN]
    rw [e1]
    exact setRow_heap w g _ _ _ _ hr
end Go.Proofs.YtebgfelbffgnbaaGreatDoor
/-
  How many elements a proof, a verifier has; CircuitSizes' walk.
-/
namespace Go.Proofs.YtebgfelbffgnbaaGreatDoor
open Go.RowKit Flow F
set_option linter.unusedVariables false
set_option linter.unusedSimpArgs false
attribute [local go_sem] eql_elem

def Ci.proofN (x : Ci) : Nat := x.arityN + 2 * (pow2 (x.callsN + 1) - 1) + 1
theorem arityN_le {x : Ci} (h : x.Good) : x.arityN ≤ 32 := by
  unfold Ci.arityN
  have := h.fits.k1
  have := h.fits.c
  split
  · omega
  · split <;> omega
set_option maxHeartbeats 1000000 in
theorem proof_any (x : Ci) (h : x.Good) : NumBy 19 (cvl x) x.proofN := by
  intro w
  have hle := arityN_le h
  have hp := pow2_le (n := x.callsN + 1)
  have hG := Lib.hid (fun w => gadget_any x h w)
  have hAr := Lib.hid (fun (v : Value) (w : World) hv => garity_any x h (v := v) (w := w) hv)
  have hDe := Lib.hid (fun (v : Value) (w : World) hv => gdegree_any x (v := v) (w := w) hv)
  have hDo := Lib.hid (domain_any x h)
  have hR := Lib.hid (right_good h)
  unfold Ci.proofN
  generalize pow2 (x.callsN + 1) = D at *
  generalize x.arityN = R at *
  obtain ⟨k, f, b, l, W, c⟩ := x
  unfold cvl NumBy at *
  have z1 : IntKind.i64.wrap ((D : Int) - 1) = ((D - 1 : Nat) : Int) := wrap_i (by omega) (by omega)
  obtain ⟨T, hT⟩ : ∃ T, 2 * (D - 1) = T := ⟨_, rfl⟩
  obtain ⟨D1, hD1⟩ : ∃ D1, D - 1 = D1 := ⟨_, rfl⟩
  rw [hD1] at z1 hT
  have z1b : (D : Int) - 1 = (D1 : Int) := by omega
  have z2 : IntKind.i64.wrap (2 * (D1 : Int)) = (T : Int) := wrap_i (by omega) (by omega)
  have z2b : 2 * (D1 : Int) = (T : Int) := by omega
  obtain ⟨U, hU⟩ : ∃ U, R + T = U := ⟨_, rfl⟩
  have z3 : IntKind.i64.wrap ((R : Int) + (T : Int)) = (U : Int) := wrap_i (by omega) (by omega)
  have z3b : (R : Int) + (T : Int) = (U : Int) := by omega
  obtain ⟨V, hV⟩ : ∃ V, U + 1 = V := ⟨_, rfl⟩
  have z4 : IntKind.i64.wrap ((U : Int) + 1) = (V : Int) := wrap_i (by omega) (by omega)
  have z4b : (U : Int) + 1 = (V : Int) := by omega
  rw [hD1, hT, hU, hV]
  replace hT := Lib.hid hT
  replace hD1 := Lib.hid hD1
  replace hU := Lib.hid hU
  replace hV := Lib.hid hV
  clear h
  go_enter Tryz.func19, Tryz.ntmps19
  go_upto_region 1 with (fail)
  refine name_wp (fun w1 => Below w.heap.size w w1 ∧ w1.heap[w.heap.size]? = some (.cells #[.int .u8 k, .int .u8 f, .int .i64 b, .int .i64 l, .int .i64 W, .int .i64 c] 33 (0, 0))) ⟨(Below.refl _ _).alloc (Nat.le_refl _) _, alloc_at rfl⟩ ?_
  rintro w1 ⟨hb, k0⟩
  obtain ⟨c0, c1, c2, c3, c4, c5⟩ := blk6 k0
  go_wp2_with fail
  refine call_then (hR.out _) ?_
  intro w2 hb2
  replace hb := below_next hb hb.size hb2
  replace k0 := keeps hb2 k0
  clear hb2 c0 c1 c2 c3 c4 c5
  obtain ⟨c0, c1, c2, c3, c4, c5⟩ := blk6 k0
  go_wp2_with fail
  refine (hG.out _).mono ?_
  rintro e w2 ⟨a, gA, gn, gd, vc, rfl, hb2, hg⟩
  replace hb := below_next hb hb.size hb2
  replace k0 := keeps hb2 k0
  clear hb2 c0 c1 c2 c3 c4 c5
  have hbA := hb.alloc hb.size (.cells #[.int .u8 a, .slice gA gn gd, .int .i64 vc] 43)
  have k0A := alloc_keeps (o := .cells #[.int .u8 a, .slice gA gn gd, .int .i64 vc] 43) k0
  have k1A : (w2.alloc (.cells #[.int .u8 a, .slice gA gn gd, .int .i64 vc] 43)).heap[w2.heap.size]? = some (.cells #[.int .u8 a, .slice gA gn gd, .int .i64 vc] 43 (0, 0)) := alloc_at rfl
  have hgA : GadIs ⟨k, f, b, l, W, c⟩ (.agg #[.int .u8 a, .slice gA gn gd, .int .i64 vc]) (w2.alloc (.cells #[.int .u8 a, .slice gA gn gd, .int .i64 vc] 43)) := hg.up ((Below.refl _ _).alloc (Nat.le_refl _) _)
  go_upto_region 4 with (fail)
  refine name_wp (fun w3 => Below w.heap.size w w3 ∧ w3.heap[w.heap.size]? = some (.cells #[.int .u8 k, .int .u8 f, .int .i64 b, .int .i64 l, .int .i64 W, .int .i64 c] 33 (0, 0)) ∧ w3.heap[w2.heap.size]? = some (.cells #[.int .u8 a, .slice gA gn gd, .int .i64 vc] 43 (0, 0)) ∧ GadIs ⟨k, f, b, l, W, c⟩ (.agg #[.int .u8 a, .slice gA gn gd, .int .i64 vc]) w3) ⟨hbA, k0A, k1A, hgA⟩ ?_
  clear hb k0 hg hbA k0A k1A hgA
  generalize w2.heap.size = q at *
  rintro w3 ⟨hb, k0, k1, hg⟩
  refine wp_region_flow0 (by kernel_rfl) (by kernel_rfl) ?_
  intro ι _ φ hφ
  have q := fun i => blk6 (keeps (hφ.old i) k0)
  have q0 := fun i => (q i).1
  have q1 := fun i => (q i).2.1
  have q2 := fun i => (q i).2.2.1
  have q3 := fun i => (q i).2.2.2.1
  have q4 := fun i => (q i).2.2.2.2.1
  have q5 := fun i => (q i).2.2.2.2.2
  clear q
  have p0 := fun i => (blk3 (keeps (hφ.old i) k1)).1
  have p1 := fun i => (blk3 (keeps (hφ.old i) k1)).2.1
  have p2 := fun i => (blk3 (keeps (hφ.old i) k1)).2.2.1
  have hgi := Lib.hid (fun i => hg.up (hφ.old i))
  repeat (go_big_quiet_step ((first
    | (go_at_call 16; exact flow_call hφ (hAr.out _ _ (hgi.out _)))
    | (go_at_call 66; exact flow_call hφ (hDe.out _ _ (hgi.out _)))
    | (go_at_call 24; exact flow_call hφ (hDo.out _)))))
  refine wpQuiet_nil ?_
  intro w4 hv
  replace hb := below_next hb hb.size hv
  clear q0 q1 q2 q3 q4 q5 p0 p1 p2 hφ hgi
  go_wp2
  go_ret
  exact ⟨rfl, hb⟩
theorem verifier_any (x : Ci) (h : x.Good) : NumBy 27 (cvl x) (x.arityN + 2) := by
  intro w
  have hle := arityN_le h
  have hG := Lib.hid (fun w => gadget_any x h w)
  have hAr := Lib.hid (fun (v : Value) (w : World) hv => garity_any x h (v := v) (w := w) hv)
  have hR := Lib.hid (right_good h)
  generalize x.arityN = R at *
  obtain ⟨k, f, b, l, W, c⟩ := x
  unfold cvl at *
  have z1 : IntKind.i64.wrap ((R : Int) + 2) = ((R + 2 : Nat) : Int) := wrap_i (by omega) (by omega)
  clear h
  go_enter Tryz.func27, Tryz.ntmps27
  go_upto_region 1 with (fail)
  refine name_wp (fun w1 => Below w.heap.size w w1 ∧ w1.heap[w.heap.size]? = some (.cells #[.int .u8 k, .int .u8 f, .int .i64 b, .int .i64 l, .int .i64 W, .int .i64 c] 33 (0, 0))) ⟨(Below.refl _ _).alloc (Nat.le_refl _) _, alloc_at rfl⟩ ?_
  rintro w1 ⟨hb, k0⟩
  obtain ⟨c0, c1, c2, c3, c4, c5⟩ := blk6 k0
  go_wp2_with fail
  refine call_then (hR.out _) ?_
  intro w2 hb2
  replace hb := below_next hb hb.size hb2
  replace k0 := keeps hb2 k0
  clear hb2 c0 c1 c2 c3 c4 c5
  obtain ⟨c0, c1, c2, c3, c4, c5⟩ := blk6 k0
  go_wp2_with fail
  refine (hG.out _).mono ?_
  rintro e w2 ⟨a, gA, gn, gd, vc, rfl, hb2, hg⟩
  replace hb := below_next hb hb.size hb2
  clear hb2 c0 c1 c2 c3 c4 c5 k0
  go_wp2_with fail
  refine call_then (hAr.out _ _ hg) ?_
  intro w3 hv
  replace hb := below_next hb hb.size hv
  go_wp2
  go_ret
  exact ⟨rfl, hb⟩
end Go.Proofs.YtebgfelbffgnbaaGreatDoor
