/-
  Letters on their way: one is taken off.
-/
import Derived.Test.YtjkbinpgclnedaaNetB
import Derived.Deep.Upon
namespace Go.Proofs.Ytjkbinpgclnedaa
open Go.RowKit Flow
set_option linter.unusedVariables false

theorem lcells_take : ∀ (L : List (Int × Int × Value)) (i : Nat), (lcells L).take (i * 3) = lcells (L.take i)
  | _, 0 => by simp [lcells]
  | [], i + 1 => by simp [lcells]
  | (f, t, v) :: r, i + 1 => by
    rw [show (i + 1) * 3 = i * 3 + 1 + 1 + 1 by omega]
    simp [lcells, lcells_take r i]
theorem lcells_drop : ∀ (L : List (Int × Int × Value)) (i : Nat), (lcells L).drop (i * 3) = lcells (L.drop i)
  | _, 0 => by simp
  | [], i + 1 => by simp [lcells]
  | (f, t, v) :: r, i + 1 => by
    rw [show (i + 1) * 3 = i * 3 + 1 + 1 + 1 by omega]
    simp [lcells, lcells_drop r i]
theorem lcells_erase (L : List (Int × Int × Value)) (i : Nat) : (lcells L).take (i * 3) ++ (lcells L).drop ((i + 1) * 3) = lcells (L.eraseIdx i) := by
  rw [lcells_take, lcells_drop, ← lcells_append, List.eraseIdx_eq_take_drop_succ]
theorem run_clear_rows {P : Program} {w : World} {t e : TypeId} {ty : TypeId} {z : Value} (ht : P.underlying t = some (.slice e)) (hz : ∀ w, (zeroValue e).run P w = .ok z w) (b o n c : Nat) (hn : 0 < n)
    (hc : ∀ j, j < (Builtin.zeroCells z.cells n).size → (w.cell? ⟨b, o + j, none⟩).isSome = true) (hf : ∀ j, j < (Builtin.zeroCells z.cells n).size → w.frozen? ⟨b, o + j, none⟩ = false) (h1 : ∀ v ∈ (Builtin.zeroCells z.cells n).toList, v.oneCell' = true) :
    (Builtin.clear_ #[t] ty #[.slice (some ⟨b, o, none⟩) n c]).run P w = .ok (.tuple #[]) (w.setCells b o (Builtin.zeroCells z.cells n).toList) := by
  have hst := run_storeCells_cells (P := P) b o (Builtin.zeroCells z.cells n).toList 0 w (fun j hj => by simpa using hc j (by simpa using hj)) (fun j hj => by simpa using hf j (by simpa using hj)) h1
  simp only [Nat.add_zero] at hst
  obtain ⟨m, rfl⟩ : ∃ m, n = m + 1 := ⟨n - 1, by omega⟩
  simp [Builtin.clear_, run_underlying ht, hz, hst]
theorem zero_letter (w : World) : (zeroValue 32).run Try.prog w = .ok (.agg #[.int .i64 0, .int .i64 0, .slice none 0 0]) w := by kernel_rfl
def zeros3 : List Value := [.int .i64 0, .int .i64 0, .slice none 0 0]
theorem zeroCells_one : (Builtin.zeroCells (Value.agg #[.int .i64 0, .int .i64 0, .slice none 0 0]).cells 1).toList = zeros3 := by simp [Builtin.zeroCells, Value.cells, zeros3]; rfl
/-- What a row owns is as it was where cells behind it are written. -/
theorem owns_behind {w : World} {base g n cap : Nat} {e : TypeId} {size : Nat} {xs : List Value} (h : w.ownsRow base e size (.slice (some ⟨g, 0, none⟩) n cap) n xs) (vs : List Value) (o : Nat) (ho : n * size ≤ o) : (w.setCells g o vs).ownsRow base e size (.slice (some ⟨g, 0, none⟩) n cap) n xs := by
  refine ⟨h.1, ?_⟩
  rcases h.2 with ⟨h0, _⟩ | ⟨g', cap', cur, e1, hb, hg, hn, hc, hs, ht⟩
  · cases h0
  · cases e1
    obtain ⟨q1, q2⟩ := build_get vs o cur
    refine .inr ⟨g, cap, _, rfl, hb, heap_setCells vs o g w cur e (0, 0) hg, hn, hc, q1.trans hs, ?_⟩
    rw [← ht]
    refine List.ext_getElem? fun i => ?_
    by_cases hi : i < n * size
    · rw [List.getElem?_take, if_pos hi, List.getElem?_take, if_pos hi, Array.getElem?_toList, Array.getElem?_toList]
      by_cases hic : i < cur.size
      · rw [q2 i hic, if_neg (by omega)]
      · rw [Array.getElem?_eq_none (by rw [q1]; omega), Array.getElem?_eq_none (by omega)]
    · rw [List.getElem?_take, if_neg hi, List.getElem?_take, if_neg hi]
/-- An append within a row of the call's own, where there is room. -/
theorem wp_append_within {P : Program} {w : World} {o : Oper} {a : Act} {K : Act → World → Prop} {Q : Exit → Act → World → Prop} (s x : Operand) (t : TypeId)
    (ho : o.op = .call { callee := .builtin .append, args := #[s, x], argTypes := #[t, t] }) (e : TypeId) (i : TypeInfo) (ht : P.underlying t = some (.slice e)) (hi : P.info? e = some i)
    (g n cap : Nat) (cur : Array Value) (hs : a.eval s = .slice (some ⟨g, 0, none⟩) n cap) (hg : w.heap[g]? = some (.cells cur e (0, 0)))
    (ad : Addr) (m c : Nat) (news : List Value) (hx : a.eval x = .slice (some ad) m c) (hl : news.length = m * i.size) (hnews : ∀ j u, news[j]? = some u → w.cell? (ad.add j) = some u) (h1 : ∀ u ∈ news, u.oneCell' = true)
    (hroom : n + m ≤ cap) (hfit : n * i.size + news.length ≤ cur.size)
    (h : K (a.put o.dst (.slice (some ⟨g, 0, none⟩) (n + m) cap)) (w.setRow g (cur.toList.take (n * i.size) ++ news ++ cur.toList.drop (n * i.size + news.length)).toArray)) : o.wp P a w K Q := by
  have hr := run_append_room (P := P) w t o.type e i ht hi g n cap cur hg ad m c news hl hnews h1 hroom hfit
  unfold Oper.wp execOp
  simp only [ho, resolve, invoke, builtin, Sem.run_bind, Sem.run_pure, Result.andThen_ok, List.map_toArray, List.map_cons, List.map_nil, hs, hx, hr]
  exact h
set_option maxHeartbeats 4000000 in
theorem delete_any (base g cap i : Nat) (L : List (Int × Int × Value)) (hi : i < L.length) (hL : L.length ≤ 5000) (h1 : ∀ u ∈ lcells L, u.oneCell' = true) (w : World) (hown : w.ownsRow base 32 3 (.slice (some ⟨g, 0, none⟩) L.length cap) L.length (lcells L)) :
    Calls Try.prog 22 #[.slice (some ⟨g, 0, none⟩) L.length cap, .int .i64 i, .int .i64 (i + 1)] w fun e w' => e = .returned (.slice (some ⟨g, 0, none⟩) (L.length - 1) cap) ∧ Gone (some g) w w' ∧ w'.ownsRow base 32 3 (.slice (some ⟨g, 0, none⟩) (L.length - 1) cap) (L.length - 1) (lcells (L.eraseIdx i)) := by
  obtain ⟨i0, z0, hinf, hz0, hz1, hz2, hz3⟩ := info_partsN info_letter
  obtain ⟨cur, hbg, hg, hnc, hcm, hcs, htk⟩ : ∃ cur, base ≤ g ∧ w.heap[g]? = some (.cells cur 32 (0, 0)) ∧ L.length ≤ cap ∧ cap ≤ maxLen ∧ cur.size = cap * 3 ∧ cur.toList.take (L.length * 3) = lcells L := by
    rcases hown.2 with ⟨h0, _⟩ | ⟨g', cap', cur, e, h2⟩
    · cases h0
    · cases e; exact ⟨cur, h2⟩
  replace hown := Lib.hid hown
  generalize hn : L.length = n at *
  have b0 : (0 : Int) ≤ (i : Int) := by omega
  have b1 : (i : Int) ≤ (i : Int) + 1 := by omega
  have b2 : (i : Int) + 1 ≤ (n : Int) := by omega
  have b3 : (n : Int) ≤ (cap : Int) := by omega
  have b4 : (i : Int) ≤ (cap : Int) := by omega
  have b5 : (i : Int) + 1 ≤ (cap : Int) := by omega
  have ne : ((i : Int) == (i : Int) + 1) = false := by rw [beq_eq_false_iff_ne]; omega
  have hdr : ∀ o2, (o2 = (i + 1) * 3 ∨ n = i + 1) → ∀ j u, (lcells (L.drop (i + 1)))[j]? = some u → ∀ w' : World, w'.heap[g]? = some (.cells cur 32 (0, 0)) → w'.cell? ((⟨g, o2, none⟩ : Addr).add j) = some u := by
    intro o2 ho j u hj w' hw'
    rw [Addr.add_mid]
    have hjl : j < (lcells (L.drop (i + 1))).length := (List.getElem?_eq_some_iff.1 hj).1
    rw [lcells_length, List.length_drop, hn] at hjl
    have ho2 : o2 = (i + 1) * 3 := by rcases ho with h | h; exact h; omega
    subst ho2
    rw [← lcells_drop, ← htk, List.getElem?_drop, List.getElem?_take, if_pos (by omega), Array.getElem?_toList] at hj
    simp [World.cell?, hw', hj]
  have hnl : (lcells (L.drop (i + 1))).length = (n - (i + 1)) * i0.size := by rw [lcells_length, List.length_drop, hn, hz1]
  have h1' : ∀ u ∈ lcells (L.drop (i + 1)), u.oneCell' = true := fun u hu => h1 u (by rw [← lcells_drop] at hu; exact List.mem_of_mem_drop hu)
  have htk2 : cur.toList.take (i * 3) ++ lcells (L.drop (i + 1)) = lcells (L.eraseIdx i) := by
    rw [← lcells_erase, lcells_drop, ← htk, List.take_take, Nat.min_eq_left (by omega)]
  have hlen2 : (lcells (L.eraseIdx i)).length = (n - 1) * 3 := by rw [lcells_length, List.length_eraseIdx, hn, if_pos hi]
  replace hdr := Lib.hid hdr
  replace hnl := Lib.hid hnl
  replace h1' := Lib.hid h1'
  replace htk2 := Lib.hid htk2
  replace hlen2 := Lib.hid hlen2
  clear h1 htk
  go_enter Try.func22, Try.ntmps22
  go_wp2
  by_cases hcap : cap = i + 1
  · subst hcap
    obtain rfl : n = i + 1 := by omega
    refine segG_start (gb := some g) 7 (by kernel_rfl) (by decide) ?_
    intro v0 hv0
    refine segG_batch 1 [0, 1, 2, 3, 4, 5] (by kernel_rfl) rfl (by kernel_rfl) (by kernel_rfl) (by kernel_rfl) ?_
    apply Exists.intro
    refine ⟨fun ι _ φ hφ => ?_, fun v1 hv1 => ?_⟩
    · repeat (refine pick_step rfl ?_; go_big_quiet_step (fail))
      exact pick_end
    refine segG_one 6 _ (by decide) rfl (by kernel_rfl) ?_
    intro v2 K hv2 hK
    replace hv2 := below_next (below_next hv0 hv0.size hv1) (below_next hv0 hv0.size hv1).size hv2
    clear hv0 hv1
    have hgv := keeps hv2 hg
    rw [if_pos (by rfl : Region.wanted _ _ = true)]
    refine wp_append_within _ _ 26 rfl 32 i0 Try.underlying26 hinf g i (i + 1) cur rfl hgv ⟨g, 0, none⟩ 0 _ (lcells (L.drop (i + 1))) rfl (by first | exact hnl.out | exact hnl.out.trans (by congr 1; omega)) (fun j u hj => hdr.out 0 (.inr rfl) j u hj _ hgv) h1'.out (by omega) (by rw [hnl.out, hz1, hcs]; omega) ?_
    rw [hz1, hnl.out, hz1, show i + 0 = i by omega, show i * 3 + ((i + 1) - (i + 1)) * 3 = i * 3 by omega, htk2.out]
    have hrow := setRow_heap v2 g cur (lcells (L.eraseIdx i) ++ List.drop (i * 3) cur.toList).toArray 32 (0, 0) hgv
    have hGone : Gone (some g) w (v2.setRow g (lcells (L.eraseIdx i) ++ List.drop (i * 3) cur.toList).toArray) :=
      (Gone.of_below hv2).trans ⟨rfl, rfl, rfl, by simp, fun k hk hne => setRow_other _ _ _ _ (fun e => hne (by rw [e]))⟩
    refine hK _ _ ⟨rfl, rfl, rfl, by simp, fun k hk hne => setRow_other _ _ _ _ (fun e => hne (by rw [e]))⟩ ?_
    clear hK K hgv hv2
    generalize v2.setRow g (lcells (L.eraseIdx i) ++ List.drop (i * 3) cur.toList).toArray = v3 at *
    have hown3 : v3.ownsRow base 32 3 (.slice (some ⟨g, 0, none⟩) i (i + 1)) i (lcells (L.eraseIdx i)) := by
      refine ⟨hlen2.out, .inr ⟨g, _, _, rfl, hbg, hrow, by omega, hcm, ?_, ?_⟩⟩
      · simp only [List.size_toArray, List.length_append, hlen2.out, List.length_drop, Array.length_toList, hcs]
        omega
      · show List.take _ (lcells (L.eraseIdx i) ++ List.drop (i * 3) cur.toList) = _
        exact List.take_left' (by rw [hlen2.out]; try omega)
    simp only [Act.put, List.setIfInBounds_toArray, List.set_cons_succ, List.set_cons_zero]
    refine segG_tail (by kernel_rfl) ?_
    intro v4 hv4
    have hrow4 := keeps hv4 hrow
    replace hGone := hGone.trans (Gone.of_below hv4)
    replace hown3 := hown3.kept ⟨hv4.os, hv4.tape, hv4.output, hv4.size, fun k hk _ => hv4.block k hk⟩ (row := none) (by simp [Value.ownBlock])
    clear hrow hv4
    have hsz : (lcells (L.eraseIdx i) ++ List.drop (i * 3) cur.toList).length = (i + 1) * 3 := by
      simp only [List.length_append, hlen2.out, List.length_drop, Array.length_toList, hcs]
      omega
    generalize lcells (L.eraseIdx i) ++ List.drop (i * 3) cur.toList = X at hsz hrow4
    have hcl : ∀ ty, (Builtin.clear_ #[26] ty #[.slice (some ⟨g, i * 3, none⟩) 1 1]).run Try.prog v4 = .ok (.tuple #[]) (v4.setCells g (i * 3) zeros3) := fun ty => by
      have := run_clear_rows (P := Try.prog) (w := v4) (ty := ty) Try.underlying26 zero_letter g (i * 3) 1 1 (by decide) (fun j hj => by
          have hj' : j < 3 := by simpa [Builtin.zeroCells, Value.cells] using hj
          have hh : v4.cell? ⟨g, i * 3 + j, none⟩ = X[i * 3 + j]? := by simp [World.cell?, hrow4]
          rw [hh, List.getElem?_eq_getElem (by rw [hsz]; omega)]
          rfl) (fun j hj => by simp [World.frozen?, hrow4]) (by rw [zeroCells_one]; unfold zeros3; simp [Value.oneCell'])
      rw [zeroCells_one] at this
      exact this
    have hown5 := owns_behind hown3 zeros3 (i * 3) (Nat.le_refl _)
    have hGone5 : Gone (some g) w (v4.setCells g (i * 3) zeros3) := hGone.trans ⟨World.os_setCells _ _ _ _, rfl, World.output_setCells _ _ _ _, by simp [zeros3, World.setCells, World.setCell], fun k hk hne => World.heap_setCells_other _ _ _ _ hk (fun e => hne (by rw [e]))⟩
    generalize v4.setCells g (i * 3) zeros3 = v5 at *
    clear hrow4 hsz
    simp only [List.drop_succ_cons, List.drop_zero]
    have d0 : (0 : Int) ≤ ((i : Nat) : Int) := by omega
    have d1 : ((i : Nat) : Int) ≤ ((i + 1) : Int) := by omega
    have d2 : ((i : Nat) : Int) ≤ ((i + 1) : Int) := by omega
    have d3 : (i + 1) ≠ i := by omega
    have d4 : (i + 1) - i = 1 := by omega
    go_wp2
    refine calm_normal ?_
    go_wp2
    go_ret
    exact ⟨rfl, hGone5, hown5⟩
  · refine segG_start (gb := some g) 7 (by kernel_rfl) (by decide) ?_
    intro v0 hv0
    refine segG_batch 1 [0, 1, 2, 3, 4, 5] (by kernel_rfl) rfl (by kernel_rfl) (by kernel_rfl) (by kernel_rfl) ?_
    apply Exists.intro
    refine ⟨fun ι _ φ hφ => ?_, fun v1 hv1 => ?_⟩
    · repeat (refine pick_step rfl ?_; go_big_quiet_step (fail))
      exact pick_end
    refine segG_one 6 _ (by decide) rfl (by kernel_rfl) ?_
    intro v2 K hv2 hK
    replace hv2 := below_next (below_next hv0 hv0.size hv1) (below_next hv0 hv0.size hv1).size hv2
    clear hv0 hv1
    have hgv := keeps hv2 hg
    rw [if_pos (by rfl : Region.wanted _ _ = true)]
    refine wp_append_within _ _ 26 rfl 32 i0 Try.underlying26 hinf g i cap cur rfl hgv ⟨g, ((i + 1) * 3), none⟩ (n - (i + 1)) _ (lcells (L.drop (i + 1))) rfl (by first | exact hnl.out | exact hnl.out.trans (by congr 1; omega)) (fun j u hj => hdr.out ((i + 1) * 3) (.inl rfl) j u hj _ hgv) h1'.out (by omega) (by rw [hnl.out, hz1, hcs]; omega) ?_
    rw [hz1, hnl.out, hz1, show i + (n - (i + 1)) = (n - 1) by omega, show i * 3 + (n - (i + 1)) * 3 = (n - 1) * 3 by omega, htk2.out]
    have hrow := setRow_heap v2 g cur (lcells (L.eraseIdx i) ++ List.drop ((n - 1) * 3) cur.toList).toArray 32 (0, 0) hgv
    have hGone : Gone (some g) w (v2.setRow g (lcells (L.eraseIdx i) ++ List.drop ((n - 1) * 3) cur.toList).toArray) :=
      (Gone.of_below hv2).trans ⟨rfl, rfl, rfl, by simp, fun k hk hne => setRow_other _ _ _ _ (fun e => hne (by rw [e]))⟩
    refine hK _ _ ⟨rfl, rfl, rfl, by simp, fun k hk hne => setRow_other _ _ _ _ (fun e => hne (by rw [e]))⟩ ?_
    clear hK K hgv hv2
    generalize v2.setRow g (lcells (L.eraseIdx i) ++ List.drop ((n - 1) * 3) cur.toList).toArray = v3 at *
    have hown3 : v3.ownsRow base 32 3 (.slice (some ⟨g, 0, none⟩) (n - 1) cap) (n - 1) (lcells (L.eraseIdx i)) := by
      refine ⟨hlen2.out, .inr ⟨g, _, _, rfl, hbg, hrow, by omega, hcm, ?_, ?_⟩⟩
      · simp only [List.size_toArray, List.length_append, hlen2.out, List.length_drop, Array.length_toList, hcs]
        omega
      · show List.take _ (lcells (L.eraseIdx i) ++ List.drop ((n - 1) * 3) cur.toList) = _
        exact List.take_left' (by rw [hlen2.out]; try omega)
    simp only [Act.put, List.setIfInBounds_toArray, List.set_cons_succ, List.set_cons_zero]
    refine segG_tail (by kernel_rfl) ?_
    intro v4 hv4
    have hrow4 := keeps hv4 hrow
    replace hGone := hGone.trans (Gone.of_below hv4)
    replace hown3 := hown3.kept ⟨hv4.os, hv4.tape, hv4.output, hv4.size, fun k hk _ => hv4.block k hk⟩ (row := none) (by simp [Value.ownBlock])
    clear hrow hv4
    have hsz : (lcells (L.eraseIdx i) ++ List.drop ((n - 1) * 3) cur.toList).length = cap * 3 := by
      simp only [List.length_append, hlen2.out, List.length_drop, Array.length_toList, hcs]
      omega
    generalize lcells (L.eraseIdx i) ++ List.drop ((n - 1) * 3) cur.toList = X at hsz hrow4
    have hcl : ∀ ty, (Builtin.clear_ #[26] ty #[.slice (some ⟨g, (n - 1) * 3, none⟩) 1 (cap - (n - 1))]).run Try.prog v4 = .ok (.tuple #[]) (v4.setCells g ((n - 1) * 3) zeros3) := fun ty => by
      have := run_clear_rows (P := Try.prog) (w := v4) (ty := ty) Try.underlying26 zero_letter g ((n - 1) * 3) 1 (cap - (n - 1)) (by decide) (fun j hj => by
          have hj' : j < 3 := by simpa [Builtin.zeroCells, Value.cells] using hj
          have hh : v4.cell? ⟨g, (n - 1) * 3 + j, none⟩ = X[(n - 1) * 3 + j]? := by simp [World.cell?, hrow4]
          rw [hh, List.getElem?_eq_getElem (by rw [hsz]; omega)]
          rfl) (fun j hj => by simp [World.frozen?, hrow4]) (by rw [zeroCells_one]; unfold zeros3; simp [Value.oneCell'])
      rw [zeroCells_one] at this
      exact this
    have hown5 := owns_behind hown3 zeros3 ((n - 1) * 3) (Nat.le_refl _)
    have hGone5 : Gone (some g) w (v4.setCells g ((n - 1) * 3) zeros3) := hGone.trans ⟨World.os_setCells _ _ _ _, rfl, World.output_setCells _ _ _ _, by simp [zeros3, World.setCells, World.setCell], fun k hk hne => World.heap_setCells_other _ _ _ _ hk (fun e => hne (by rw [e]))⟩
    generalize v4.setCells g ((n - 1) * 3) zeros3 = v5 at *
    clear hrow4 hsz
    simp only [List.drop_succ_cons, List.drop_zero]
    have d0 : (0 : Int) ≤ (((n - 1) : Nat) : Int) := by omega
    have d1 : (((n - 1) : Nat) : Int) ≤ (n : Int) := by omega
    have d2 : (((n - 1) : Nat) : Int) ≤ (cap : Int) := by omega
    have d3 : n ≠ (n - 1) := by omega
    have d4 : n - (n - 1) = 1 := by omega
    go_wp2
    refine calm_normal ?_
    go_wp2
    go_ret
    exact ⟨rfl, hGone5, hown5⟩
end Go.Proofs.Ytjkbinpgclnedaa
