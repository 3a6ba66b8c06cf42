/-
  Bytes hashed, as it is meant.
-/
import Derived.Test.YtfklkplnbmhddaaDoorKkO
import Derived.Laws.AppendOwn
import Derived.OwnWalk
namespace Go.Proofs.YtfklkplnbmhddaaDoor
open Go.RowKit Flow
set_option linter.unusedVariables false
set_option linter.unusedSimpArgs false

def slen : Value → Nat
  | .slice _ n _ => n
  | _ => 0
theorem Bys.up {w w' : World} {b : Nat} {A : Option Addr} {ns : List Nat} (h : Bys w b A ns) (hb : Below w.heap.size w w') : Bys w' b A ns := fun i hi => by
  obtain ⟨q, o, h1, h2, h3⟩ := h i hi
  exact ⟨q, o, h1, h2, (hb.cell (World.block_lt_of_cell? _ _ h3)).trans h3⟩
theorem Bys.drop {w : World} {b q o : Nat} {ns : List Nat} (h : Bys w b (some ⟨q, o, none⟩) ns) (k : Nat) : Bys w b (some ⟨q, o + k, none⟩) (ns.drop k) := fun i hi => by
  obtain ⟨q', o', h1, h2, h3⟩ := h (k + i) (by simp at hi; omega)
  cases h1
  refine ⟨q, o + k, rfl, h2, ?_⟩
  rw [Nat.add_assoc, h3]
  simp [List.getD_eq_getElem?_getD, List.getElem?_drop]
theorem owns_slice {w : World} {base n size : Nat} {e : TypeId} {v : Value} {xs : List Value} (h : w.ownsRow base e size v n xs) : ∃ a c, v = .slice a n c := by
  rcases h.2 with ⟨rfl, rfl⟩ | ⟨g, cap, cur, rfl, _⟩
  · exact ⟨_, _, rfl⟩
  · exact ⟨_, _, rfl⟩
theorem arr8_succ (h : Nat → Nat) (n : Nat) : arr8 h (n + 1) = arr8 h n ++ [.int .u8 ((h n : Nat) : Int)] := by
  unfold arr8
  rw [List.range_succ, List.map_append]
  rfl
theorem owns_far {w : World} {base n size p o : Nat} {e : TypeId} {v u : Value} {xs : List Value} (h : w.ownsRow base e size v n xs) (hp : p < base) : (w.setCell ⟨p, o, none⟩ u).ownsRow base e size v n xs := by
  refine ⟨h.1, ?_⟩
  rcases h.2 with hn | ⟨g, cap, cur, rfl, hbb, hgg, rest⟩
  · exact .inl hn
  · exact .inr ⟨g, cap, cur, rfl, hbb, store_far hgg (by show g ≠ p; omega), rest⟩
theorem owns_but {w w' : World} {base n size p : Nat} {e : TypeId} {v : Value} {xs : List Value} (h : w.ownsRow base e size v n xs) (hb : But p w w') (hp : p < base) : w'.ownsRow base e size v n xs := by
  refine ⟨h.1, ?_⟩
  rcases h.2 with hn | ⟨g, cap, cur, rfl, hbb, hgg, rest⟩
  · exact .inl hn
  · exact .inr ⟨g, cap, cur, rfl, hbb, (hb.block g (lt_of_get hgg) (by omega)).trans hgg, rest⟩
theorem owns_up {w w' : World} {base n size : Nat} {e : TypeId} {v : Value} {xs : List Value} (h : w.ownsRow base e size v n xs) (hb : Below w.heap.size w w') : w'.ownsRow base e size v n xs := by
  refine ⟨h.1, ?_⟩
  rcases h.2 with hn | ⟨g, cap, cur, rfl, hbb, hgg, rest⟩
  · exact .inl hn
  · exact .inr ⟨g, cap, cur, rfl, hbb, (hb.block g (lt_of_get hgg)).trans hgg, rest⟩
/-- What is handed back. -/
def Meant (w : World) (m : Nat) (h : Nat → Nat) (e : Ending) (w' : World) : Prop := ∃ a c, e = .returned (.slice a m c) ∧ w'.ownsRow (w.heap.size + 1) 5 1 (.slice a m c) m (arr8 h m) ∧ Below w.heap.size w w'
set_option maxRecDepth 100000 in
set_option maxHeartbeats 16000000 in
theorem refHash_any (d : Nat) (hd : d < 256) (A : Option Addr) (c : Nat) (ns : List Nat) (hns : ∀ x, x ∈ ns → x < 256) (hcap : ns.length ≤ c) (hc2 : ns.length ≤ 1073741824) (m : Nat) (hm : m ≤ 65536) (w : World) (hB : Bys w w.heap.size A ns) :
    Calls Tryd.prog 11 #[.int .u8 (d : Int), .slice A ns.length c, .int .i64 (m : Int)] w (Meant w m (hashP d ns)) := by
  have m0 : (0 : Int) ≤ (m : Int) := by omega
  have m1 : (m : Int) ≤ 65536 := by omega
  obtain ⟨H, hH⟩ : ∃ H, hashP d ns = H := ⟨_, rfl⟩
  rw [hH]
  obtain ⟨S0, hS0⟩ : ∃ S0, absF (fun _ => 0, 0) ns = S0 := ⟨_, rfl⟩
  have hHS : H = sqB (finF d S0, 0) := by rw [← hH, ← hS0]; rfl
  have hb0 := (Below.refl w.heap.size w).alloc (Nat.le_refl _) (.cells (arr (fun _ => 0) 25).toArray 79 (0, 0))
  have hs0 : Nums (w.alloc (.cells (arr (fun _ => 0) 25).toArray 79 (0, 0))) w.heap.size 79 25 (fun _ => 0) := alloc_at rfl
  replace hd := Lib.hid hd
  replace hH := Lib.hid hH
  replace hHS := Lib.hid hHS
  replace hb0 := Lib.hid hb0
  replace hs0 := Lib.hid hs0
  obtain ⟨i0, hinf, hz0, hz1, hz2⟩ := info_parts info_byte
  go_enter Tryd.func11, Tryd.ntmps11
  go_wp2
  go_loopw [1] (fun bv wr => ∃ (A' : Option Addr) (c' N' : Nat) (ns' : List Nat) (f' : Nat → Nat), bv = .slice A' N' c' ∧ Hid (ns'.length = N') ∧ Lim f' ∧ (∀ x, x ∈ ns' → x < 256) ∧ N' ≤ c' ∧ N' ≤ 1073741824 ∧ Bys w w.heap.size A' ns' ∧ Hid (absF (f', 0) ns' = S0) ∧ Below w.heap.size w wr ∧ Nums wr w.heap.size 79 25 f') (fun bv _ => slen bv)
  case atStart => exact ⟨A, c, ns.length, ns, fun _ => 0, rfl, Lib.hid rfl, good_zero.1, hns, hcap, hc2, hB, Lib.hid hS0, hb0.out, hs0.out⟩
  case round =>
    clear hb0 hs0 hB hns hcap hc2
    obtain ⟨A', c', N, ns', f', rfl, hN, hL, hnb, hcap, hc2, hB, hS, hb, hs⟩ := hrel
    have n0 : (0 : Int) ≤ (N : Int) := by omega
    have n1 : (N : Int) ≤ 1073741824 := by omega
    replace hL := Lib.hid hL
    replace hnb := Lib.hid hnb
    replace hB := Lib.hid hB
    by_cases hbig : 168 < N
    · have b0 : decide ((168 : Int) < (N : Int)) = true := by rw [decide_eq_true_eq]; omega
      have hs' : Nums wr w.heap.size 79 25 (addAll f' ns' 0) := hs
      go_wp2
      go_loopw [8] (fun i wr => ∃ k : Nat, k ≤ 168 ∧ i = .int .i64 (k : Int) ∧ Below w.heap.size w wr ∧ Nums wr w.heap.size 79 25 (addAll f' ns' k)) (fun i _ => 168 - (intOf i).toNat)
      case atStart => exact ⟨0, by omega, rfl, hb, hs'⟩
      case round =>
        clear hb hs hs'
        obtain ⟨k, hk, rfl, hb, hs⟩ := hrel
        by_cases hlt : k < 168
        · have k0 : (0 : Int) ≤ (k : Int) := by omega
          have k1 : (k : Int) < 168 := by omega
          have k2 : (k : Int) < (N : Int) := by omega
          have hlt' : k < ns'.length := by rw [hN.out]; omega
          have hcx : ns'.getD k 0 < 256 := by
            rw [List.getD_eq_getElem?_getD, List.getElem?_eq_getElem hlt']
            exact hnb.out _ (List.getElem_mem _)
          obtain ⟨q, o, rfl, -, hcell⟩ := (hB.out.up hb) k hlt'
          have hLk := addAll_lim hL.out hnb.out k (by omega) (by omega)
          have hst : addF (addAll f' ns' k) k (ns'.getD k 0) = addAll f' ns' (k + 1) := rfl
          have hAdd := fun w => refAdd_ok (addAll f' ns' k) hLk k (ns'.getD k 0) (by omega) hcx w
          rw [hst] at hAdd
          generalize ns'.getD k 0 = x at *
          have hsa := hs.at0
          have hl := cells25 (addAll f' ns' k)
          have hl2 := cells25 (addAll f' ns' (k + 1))
          have hone := arr_one (addAll f' ns' (k + 1)) 25
          replace hAdd := Lib.hid hAdd
          replace hl := Lib.hid hl
          replace hl2 := Lib.hid hl2
          replace hone := Lib.hid hone
          replace hcx := Lib.hid hcx
          replace hLk := Lib.hid hLk
          clear hst hlt'
          go_wp2
          refine wp_region_flow1 7 (by kernel_rfl) (by kernel_rfl) (by kernel_rfl) ?_
          apply Exists.intro
          refine ⟨fun ι _ φ hφ => ?_, fun wt hwt => ?_⟩
          · have b0 := hφ.cell hcell
            simp only [List.take_succ_cons, List.take_zero]
            repeat (first
              | (refine quiet_load_mid _ _ _ 0 _ _ rfl rfl rfl (mid_family hφ hsa) Tryd.underlying79 rfl (by rw [hl.out]; kernel_rfl) ?_; simp only [Act.put, List.setIfInBounds_toArray, List.set_cons_succ, List.set_cons_zero])
              | go_big_quiet_step ((go_at_call 30; exact flow_call hφ (hAdd.out _))))
            exact wpQuiet_nil rfl
          replace hb := below_next hb hb.size hwt
          replace hs := hs.up hwt
          unfold Nums at hs
          clear hwt hsa hcell
          simp only [List.drop_succ_cons, List.drop_zero]
          go_wp2_with (refine list_store_whole _ _ _ _ (arr (addAll f' ns' (k + 1)) 25) (arr (addAll f' ns' k) 25) 79 rfl rfl rfl rfl hs (by rw [hl.out, hl2.out]) (by rw [hl2.out]; kernel_rfl) hone.out ?_; intro w6 hbut kz)
          exact ⟨⟨k + 1, by omega, by go_num, hbut.below hb (Nat.le_refl _) hb.size, kz⟩, left_u (by assumption)⟩
        · obtain rfl : k = 168 := by omega
          have hLk := addAll_lim hL.out hnb.out 168 (by omega) (by rw [hN.out]; omega)
          have hbl := abs_block f' ns' (by rw [hN.out]; exact hbig)
          rw [hS.out] at hbl
          generalize addAll f' ns' 168 = g at *
          have hR := fun w => refPerm_ok g hLk w
          have hsa := hs.at0
          have hl := cells25 g
          have hl2 := cells25 (permP g 12)
          have hone := arr_one (permP g 12) 25
          have hLp := permP_lim hLk 12
          obtain ⟨q, o, hA, -⟩ := hB.out 0 (by rw [hN.out]; omega)
          subst hA
          have hB2 := hB.out.drop 168
          have hc0 : (168 : Int) < (c' : Int) := by omega
          have hc1 : c' ≠ 168 := by omega
          have hc3 : ¬ (c' = 168) := hc1
          replace hR := Lib.hid hR
          replace hl := Lib.hid hl
          replace hl2 := Lib.hid hl2
          replace hone := Lib.hid hone
          replace hLp := Lib.hid hLp
          replace hB2 := Lib.hid hB2
          replace hbl := Lib.hid hbl
          replace hLk := Lib.hid hLk
          go_wp2_with (refine list_load_mid _ _ _ 0 _ _ rfl rfl rfl hsa Tryd.underlying79 rfl (by rw [hl.out]; kernel_rfl) ?_)
          refine call_then (hR.out _) ?_
          intro w5 hb5
          replace hb := below_next hb hb.size hb5
          replace hs := hs.up hb5
          unfold Nums at hs
          clear hb5 hsa hR
          go_wp2_with (refine list_store_whole _ _ _ _ (arr (permP g 12) 25) (arr g 25) 79 rfl rfl rfl rfl hs (by rw [hl.out, hl2.out]) (by rw [hl2.out]; kernel_rfl) hone.out ?_; intro w6 hbut kz)
          exact ⟨⟨some ⟨q, o + 168, none⟩, c' - 168, N - 168, ns'.drop 168, permP g 12, rfl, Lib.hid (by rw [List.length_drop, hN.out]), hLp.out, fun x hx => hnb.out x (List.mem_of_mem_drop hx), by omega, by omega, hB2.out, Lib.hid hbl.out.symm, hbut.below hb (Nat.le_refl _) hb.size, kz⟩, by show N - 168 < N; omega⟩
    · have b0 : decide ((168 : Int) < (N : Int)) = false := by rw [decide_eq_false_iff_not]; omega
      have n168 : (N : Int) ≤ 168 := by omega
      have hs' : Nums wr w.heap.size 79 25 (addAll f' ns' 0) := hs
      go_wp2
      go_loopw [9] (fun i wr => ∃ k : Nat, k ≤ N ∧ i = .int .i64 (k : Int) ∧ Below w.heap.size w wr ∧ Nums wr w.heap.size 79 25 (addAll f' ns' k)) (fun i _ => N - (intOf i).toNat)
      case atStart => exact ⟨0, by omega, rfl, hb, hs'⟩
      case round =>
        clear hb hs hs'
        obtain ⟨k, hk, rfl, hb, hs⟩ := hrel
        by_cases hlt : k < N
        · have k0 : (0 : Int) ≤ (k : Int) := by omega
          have k2 : (k : Int) < (N : Int) := by omega
          have hlt' : k < ns'.length := by rw [hN.out]; omega
          have hcx : ns'.getD k 0 < 256 := by
            rw [List.getD_eq_getElem?_getD, List.getElem?_eq_getElem hlt']
            exact hnb.out _ (List.getElem_mem _)
          obtain ⟨q, o, rfl, -, hcell⟩ := (hB.out.up hb) k hlt'
          have hLk := addAll_lim hL.out hnb.out k (by omega) (by omega)
          have hst : addF (addAll f' ns' k) k (ns'.getD k 0) = addAll f' ns' (k + 1) := rfl
          have hAdd := fun w => refAdd_ok (addAll f' ns' k) hLk k (ns'.getD k 0) (by omega) hcx w
          rw [hst] at hAdd
          generalize ns'.getD k 0 = x at *
          have hsa := hs.at0
          have hl := cells25 (addAll f' ns' k)
          have hl2 := cells25 (addAll f' ns' (k + 1))
          have hone := arr_one (addAll f' ns' (k + 1)) 25
          replace hAdd := Lib.hid hAdd
          replace hl := Lib.hid hl
          replace hl2 := Lib.hid hl2
          replace hone := Lib.hid hone
          replace hcx := Lib.hid hcx
          replace hLk := Lib.hid hLk
          clear hst hlt'
          go_wp2
          refine wp_region_flow1 7 (by kernel_rfl) (by kernel_rfl) (by kernel_rfl) ?_
          apply Exists.intro
          refine ⟨fun ι _ φ hφ => ?_, fun wt hwt => ?_⟩
          · have b0 := hφ.cell hcell
            simp only [List.take_succ_cons, List.take_zero]
            repeat (first
              | (refine quiet_load_mid _ _ _ 0 _ _ rfl rfl rfl (mid_family hφ hsa) Tryd.underlying79 rfl (by rw [hl.out]; kernel_rfl) ?_; simp only [Act.put, List.setIfInBounds_toArray, List.set_cons_succ, List.set_cons_zero])
              | go_big_quiet_step ((go_at_call 30; exact flow_call hφ (hAdd.out _))))
            exact wpQuiet_nil rfl
          replace hb := below_next hb hb.size hwt
          replace hs := hs.up hwt
          unfold Nums at hs
          clear hwt hsa hcell
          simp only [List.drop_succ_cons, List.drop_zero]
          go_wp2_with (refine list_store_whole _ _ _ _ (arr (addAll f' ns' (k + 1)) 25) (arr (addAll f' ns' k) 25) 79 rfl rfl rfl rfl hs (by rw [hl.out, hl2.out]) (by rw [hl2.out]; kernel_rfl) hone.out ?_; intro w6 hbut kz)
          exact ⟨⟨k + 1, by omega, by go_num, hbut.below hb (Nat.le_refl _) hb.size, kz⟩, left_u (by assumption)⟩
        · obtain rfl : k = N := by omega
          have hLk := addAll_lim hL.out hnb.out k (by omega) (by rw [hN.out]; omega)
          have hfp := fin_pre d f' ns' (by rw [hN.out]; omega)
          rw [hS.out, hN.out] at hfp
          generalize addAll f' ns' k = g at *
          -- the end of the taking: one way
          go_upto_if 47 with (fail)
          have hd256 := hd.out
          obtain ⟨P1, hP1⟩ : ∃ P1, (if k = 168 then addF (permP g 12) 0 d else addF g k d) = P1 := ⟨_, rfl⟩
          have hLP1 : Lim P1 := by
            rw [← hP1]
            split
            · exact addF_lim (permP_lim hLk 12) (by decide) hd256
            · exact addF_lim hLk (by omega) hd256
          have hpre : permP (addF P1 167 128) 12 = finF d S0 := by rw [hfp, ← hP1]; rfl
          replace hpre := Lib.hid hpre
          replace hLP1 := Lib.hid hLP1
          replace hLk := Lib.hid hLk
          replace hP1 := Lib.hid hP1
          replace hd256 := Lib.hid hd256
          clear hfp
          go_cut [] (fun w' => Below w.heap.size w w' ∧ Nums w' w.heap.size 79 25 P1)
          case first =>
            by_cases he : k = 168
            · subst he
              have hP1' : P1 = addF (permP g 12) 0 d := by rw [← hP1.out]; rfl
              replace hP1' := Lib.hid hP1'
              clear hP1
              have hsa := hs.at0
              have hl := Lib.hid (cells25 (g))
              have hl2 := Lib.hid (cells25 (permP g 12))
              have hone := Lib.hid (arr_one (permP g 12) 25)
              have hcall := Lib.hid (fun w => refPerm_ok g hLk.out w)
              go_wp2_with (refine list_load_mid _ _ _ 0 _ _ rfl rfl rfl hsa Tryd.underlying79 rfl (by rw [hl.out]; kernel_rfl) ?_)
              refine call_then (hcall.out _) ?_
              intro w5 hb5
              replace hb := below_next hb hb.size hb5
              replace hs := hs.up hb5
              unfold Nums at hs
              clear hsa hcall
              skip
              clear hb5
              go_upto_region 15 with (refine list_store_whole _ _ _ _ (arr (permP g 12) 25) (arr (g) 25) 79 rfl rfl rfl rfl hs (by rw [hl.out, hl2.out]) (by rw [hl2.out]; kernel_rfl) hone.out ?_; intro w6 hbut kz)
              replace hb := hbut.below hb (Nat.le_refl _) hb.size
              replace hs : Nums w6 w.heap.size 79 25 (permP g 12) := kz
              clear kz hl hl2 hone
              clear hbut
              have hsa := hs.at0
              have hl := Lib.hid (cells25 (permP g 12))
              have hl2 := Lib.hid (cells25 (addF (permP g 12) 0 d))
              have hone := Lib.hid (arr_one (addF (permP g 12) 0 d) 25)
              have hcall : ∀ w, Calls Tryd.prog 30 #[.agg (arr (permP g 12) 25).toArray, .int .i64 0, .int .u8 (d : Int)] w fun e w' => e = .returned (.agg (arr (addF (permP g 12) 0 d) 25).toArray) ∧ Below w.heap.size w w' := fun w => refAdd_ok (permP g 12) (permP_lim hLk.out 12) 0 d (by decide) hd256.out w
              replace hcall := Lib.hid hcall
              go_wp2_with (refine list_load_mid _ _ _ 0 _ _ rfl rfl rfl hsa Tryd.underlying79 rfl (by rw [hl.out]; kernel_rfl) ?_)
              refine call_then (hcall.out _) ?_
              intro w7 hb7
              replace hb := below_next hb hb.size hb7
              replace hs := hs.up hb7
              unfold Nums at hs
              clear hb7 hsa hcall
              go_wp2_with (refine list_store_whole _ _ _ _ (arr (addF (permP g 12) 0 d) 25) (arr (permP g 12) 25) 79 rfl rfl rfl rfl hs (by rw [hl.out, hl2.out]) (by rw [hl2.out]; kernel_rfl) hone.out ?_; intro w8 hbut kz)
              go_meet
              exact ⟨hbut.below hb (Nat.le_refl _) hb.size, by rw [hP1'.out]; exact kz⟩
            · have hP1' : P1 = addF g k d := by rw [← hP1.out, if_neg he]
              replace hP1' := Lib.hid hP1'
              clear hP1
              have hne : ((k : Int) == 168) = false := by rw [beq_eq_false_iff_ne]; omega
              replace he := Lib.hid he
              have hsa := hs.at0
              have hl := Lib.hid (cells25 g)
              have hl2 := Lib.hid (cells25 (addF g k d))
              have hone := Lib.hid (arr_one (addF g k d) 25)
              have hcall := Lib.hid (fun w => refAdd_ok g hLk.out k d (by omega) hd256.out w)
              go_wp2_with (refine list_load_mid _ _ _ 0 _ _ rfl rfl rfl hsa Tryd.underlying79 rfl (by rw [hl.out]; kernel_rfl) ?_)
              refine call_then (hcall.out _) ?_
              intro w7 hb7
              replace hb := below_next hb hb.size hb7
              replace hs := hs.up hb7
              unfold Nums at hs
              clear hb7 hsa hcall
              go_wp2_with (refine list_store_whole _ _ _ _ (arr (addF g k d) 25) (arr g 25) 79 rfl rfl rfl rfl hs (by rw [hl.out, hl2.out]) (by rw [hl2.out]; kernel_rfl) hone.out ?_; intro w8 hbut kz)
              go_meet
              exact ⟨hbut.below hb (Nat.le_refl _) hb.size, by rw [hP1'.out]; exact kz⟩
          case rest =>
            clear hb hs hP1 hL hnb hB hS hN hLk
            obtain ⟨hb, hs⟩ := hcut
            have hsa := hs.at0
            have hl := Lib.hid (cells25 P1)
            have hl2 := Lib.hid (cells25 (addF P1 167 128))
            have hone := Lib.hid (arr_one (addF P1 167 128) 25)
            have hcall : ∀ w, Calls Tryd.prog 30 #[.agg (arr P1 25).toArray, .int .i64 167, .int .u8 128] w fun e w' => e = .returned (.agg (arr (addF P1 167 128) 25).toArray) ∧ Below w.heap.size w w' := fun w => refAdd_ok P1 hLP1.out 167 128 (by decide) (by decide) w
            replace hcall := Lib.hid hcall
            have hLpre := Lib.hid (addF_lim (at' := 167) (c := 128) hLP1.out (by decide) (by decide))
            go_wp2_with (refine list_load_mid _ _ _ 0 _ _ rfl rfl rfl hsa Tryd.underlying79 rfl (by rw [hl.out]; kernel_rfl) ?_)
            refine call_then (hcall.out _) ?_
            intro w7 hb7
            replace hb := below_next hb hb.size hb7
            replace hs := hs.up hb7
            unfold Nums at hs
            clear hb7 hsa hcall
            go_upto_region 18 with (refine list_store_whole _ _ _ _ (arr (addF P1 167 128) 25) (arr P1 25) 79 rfl rfl rfl rfl hs (by rw [hl.out, hl2.out]) (by rw [hl2.out]; kernel_rfl) hone.out ?_; intro w8 hbut kz)
            replace hb := hbut.below hb (Nat.le_refl _) hb.size
            have hs8 : Nums w8 w.heap.size 79 25 (addF P1 167 128) := kz
            clear kz hbut hs hl hl2 hone
            generalize addF P1 167 128 = pre at *
            have hLF : Lim (finF d S0) := by rw [← hpre.out]; exact permP_lim hLpre.out 12
            generalize finF d S0 = F0 at *
            replace hLF := Lib.hid hLF
            clear hLP1
            have hown0 : w8.ownsRow (w.heap.size + 1) 5 1 (.slice none 0 0) 0 (arr8 H 0) := World.ownsRow_nil _ _ _ _
            go_wp2
            go_loopw [10] (fun ov wr => ∃ (L : Nat) (g : Nat → Nat), L ≤ m ∧ Hid (Lim g) ∧ Hid (L < m → ∃ q, L = 168 * q ∧ permP g 12 = itP F0 q) ∧ wr.ownsRow (w.heap.size + 1) 5 1 ov L (arr8 H L) ∧ Below w.heap.size w wr ∧ Nums wr w.heap.size 79 25 g) (fun ov _ => m - slen ov)
            case atStart => exact ⟨0, pre, by omega, hLpre, Lib.hid (fun _ => ⟨0, rfl, hpre.out⟩), hown0, hb, hs8⟩
            case round =>
              clear hb hs8 hown0
              obtain ⟨L, g, hLm, hLg, hq, hown, hb, hs⟩ := hrel
              obtain ⟨oa, oc, rfl⟩ := owns_slice hown
              by_cases hlt : L < m
              · obtain ⟨q, hLq, hgq⟩ := hq.out hlt
                have l1 : (L : Int) < (m : Int) := by omega
                have hR := fun w => refPerm_ok g hLg.out w
                rw [hgq] at hR
                have hLG := itP_lim hLF.out q
                have hnext : itP F0 (q + 1) = permP (itP F0 q) 12 := rfl
                have hbyte := fun i hi => sqB_at F0 q i hi
                generalize itP F0 q = G at *
                have hsa := hs.at0
                have hl := Lib.hid (cells25 g)
                have hl2 := Lib.hid (cells25 G)
                have hone := Lib.hid (arr_one G 25)
                have hcall := Lib.hid hR
                replace hown := Lib.hid hown
                replace hLG := Lib.hid hLG
                replace hnext := Lib.hid hnext
                replace hbyte := Lib.hid hbyte
                replace hLq := Lib.hid hLq
                clear hR hgq hq hLg
                go_wp2_with (refine list_load_mid _ _ _ 0 _ _ rfl rfl rfl hsa Tryd.underlying79 rfl (by rw [hl.out]; kernel_rfl) ?_)
                refine call_then (hcall.out _) ?_
                intro w9 hb9
                replace hb := below_next hb hb.size hb9
                replace hs := hs.up hb9
                replace hown := Lib.hid (owns_up hown.out hb9)
                unfold Nums at hs
                clear hb9 hsa hcall
                go_upto_region 21 with (refine list_store_whole _ _ _ _ (arr G 25) (arr g 25) 79 rfl rfl rfl rfl hs (by rw [hl.out, hl2.out]) (by rw [hl2.out]; kernel_rfl) hone.out ?_; intro w10 hbut kz)
                replace hb := hbut.below hb (Nat.le_refl _) hb.size
                have hs10 : Nums w10 w.heap.size 79 25 G := kz
                have hown10 := owns_but hown.out hbut (Nat.lt_succ_self _)
                clear kz hbut hs hl hl2 hone hown
                go_wp2
                go_loopw [10, 11] (fun ov iv wr => ∃ i L2 : Nat, i ≤ 168 ∧ Hid (L2 = 168 * q + i) ∧ L2 ≤ m ∧ iv = .int .i64 (i : Int) ∧ wr.ownsRow (w.heap.size + 1) 5 1 ov L2 (arr8 H L2) ∧ Below w.heap.size w wr ∧ Nums wr w.heap.size 79 25 G) (fun _ iv _ => 168 - (intOf iv).toNat)
                case atStart => exact ⟨0, L, by omega, Lib.hid (by rw [hLq.out]; rfl), hLm, rfl, hown10, hb, hs10⟩
                case round =>
                  clear hb hs10 hown10
                  obtain ⟨i, L2, hi, hL2, hL2m, rfl, hown, hb, hs⟩ := hrel
                  obtain ⟨oa2, oc2, rfl⟩ := owns_slice hown
                  have ii0 : (0 : Int) ≤ (i : Int) := by omega
                  by_cases hi8 : i < 168
                  · have ii1 : (i : Int) < 168 := by omega
                    by_cases hlt2 : L2 < m
                    · have l2 : (L2 : Int) < (m : Int) := by omega
                      have hj : i / 8 < 25 := by omega
                      have c0 := hs.cell hj
                      have hGl := hLG.out _ hj
                      have hB := hbyte.out i hi8
                      obtain ⟨X0, hX0⟩ : ∃ X0, G (i / 8) = X0 := ⟨_, rfl⟩
                      rw [hX0] at c0 hGl hB
                      obtain ⟨r, hr⟩ : ∃ r, i % 8 = r := ⟨_, rfl⟩
                      rw [hr] at hB
                      have er : (i : Int) % 8 = (r : Int) := by omega
                      have r1 : (r : Int) < 8 := by omega
                      have r0 : (0 : Int) ≤ (r : Int) := by omega
                      obtain ⟨B, hBB⟩ : ∃ B, X0 / 256 ^ r % 256 = B := ⟨_, rfl⟩
                      rw [hBB] at hB
                      have hHL : H L2 = B := by rw [hL2.out, hHS.out]; exact hB
                      have harr := arr8_succ H L2
                      rw [hHL] at harr
                      replace hown := Lib.hid hown
                      replace harr := Lib.hid harr
                      replace hGl := Lib.hid hGl
                      replace hBB := Lib.hid hBB
                      replace hX0 := Lib.hid hX0
                      replace hr := Lib.hid hr
                      clear hB hHL
                      go_wp2
                      clear c0
                      go_loop [12, 13] (fun nv kv => ∃ k Y : Nat, k ≤ r ∧ kv = .int .i64 (k : Int) ∧ nv = .int .u64 (Y : Int) ∧ Hid (Y = X0 / 256 ^ k)) (fun _ kv => r - (intOf kv).toNat)
                      case atStart => exact ⟨0, X0, by omega, rfl, rfl, Lib.hid (by simp)⟩
                      case round =>
                        obtain ⟨k, Y, hk, rfl, rfl, hY⟩ := hrel
                        have k0 : (0 : Int) ≤ (k : Int) := by omega
                        have y0 : (0 : Int) ≤ (Y : Int) := by omega
                        by_cases hkr : k < r
                        · have k1 : (k : Int) < (r : Int) := by omega
                          obtain ⟨Y2, hY2⟩ : ∃ Y2, Y / 256 = Y2 := ⟨_, rfl⟩
                          have eY : (Y : Int) / 256 = (Y2 : Int) := by omega
                          have eY2 : IntKind.u64.wrap (Y2 : Int) = (Y2 : Int) := by
                            have hyl : Y ≤ X0 := by rw [hY.out]; exact Nat.div_le_self _ _
                            have := hGl.out
                            rw [IntKind.wrap_u64]
                            omega
                          have hYn : Y2 = X0 / 256 ^ (k + 1) := by rw [← hY2, hY.out, Nat.div_div_eq_div_mul, Nat.pow_succ]
                          replace hY2 := Lib.hid hY2
                          replace hYn := Lib.hid hYn
                          go_wp2
                          exact ⟨⟨k + 1, Y2, by omega, by go_num, rfl, hYn⟩, left_u (by assumption)⟩
                        · obtain rfl : k = r := by omega
                          have eB : (Y : Int) % 256 = (B : Int) := by have h1 := hY.out; have h2 := hBB.out; rw [← h1] at h2; omega
                          have B1 : B < 256 := by have h2 := hBB.out; omega
                          have eB2 : IntKind.u8.wrap (B : Int) = (B : Int) := by rw [IntKind.wrap_u8']; omega
                          have b0 : (0 : Int) ≤ (B : Int) := by omega
                          have b1 : (B : Int) < 256 := by omega
                          have hbA := hb.alloc (o := .cells #[.int .u8 (B : Int)] 5 (0, 0)) hb.size
                          have hownA := owns_up hown.out ((Below.refl wr.heap.size wr).alloc (Nat.le_refl _) (.cells #[.int .u8 (B : Int)] 5 (0, 0)))
                          have hsA := hs.up ((Below.refl wr.heap.size wr).alloc (Nat.le_refl _) (.cells #[.int .u8 (B : Int)] 5 (0, 0)))
                          have hnw : ∀ q u, [Value.int .u8 (B : Int)][q]? = some u → (wr.alloc (.cells #[.int .u8 (B : Int)] 5 (0, 0))).cell? ((⟨wr.heap.size, 0, none⟩ : Addr).add q) = some u := fun q u hq => by
                            rw [Addr.add_mid]
                            match q with
                            | 0 =>
                              cases hq
                              have h := alloc_at (w := wr) (k := wr.heap.size) (o := .cells #[.int .u8 (B : Int)] 5 (0, 0)) rfl
                              unfold World.cell?
                              rw [h]; rfl
                            | q + 1 => cases hq
                          have hltm : L2 + 1 ≤ maxLen := by unfold maxLen; omega
                          have hbs := hb.size
                          have hpl := hs.lt
                          replace hnw := Lib.hid hnw
                          replace hownA := Lib.hid hownA
                          replace hbA := Lib.hid hbA
                          replace hsA := Lib.hid hsA
                          replace hY := Lib.hid hY
                          replace B1 := Lib.hid B1
                          clear hown hb hs
                          go_wp2_with (at_builtin; refine wpList_append_own _ rfl _ _ 29 rfl (w.heap.size + 1) 5 i0 (.int .u8 0) 1 1 Tryd.underlying29 hinf hz0 hz1 hz2 rfl (by decide) _ _ _ rfl hownA.out ⟨wr.heap.size, 0, none⟩ 1 1 [.int .u8 (B : Int)] rfl rfl hnw.out (by intro u hu; simp at hu; subst hu; rfl) hltm (by omega) (by simp; omega) ?_; intro v1 w6 hown6 hg6 hnn; have hb6 := hbA.out.grown hg6 (by simp; omega) (fun k hk => by first | (have := (hownA.out.lt k hk).1; omega) | (have := (hownA.out.lt k hk.symm).1; omega)); have hs6 : Nums w6 w.heap.size 79 25 G := (hg6.block w.heap.size (by simp; omega) (fun e => by first | (have := (hownA.out.lt _ e).1; omega) | (have := (hownA.out.lt _ e.symm).1; omega))).trans hsA.out; clear hg6)
                          exact ⟨⟨i + 1, L2 + 1, by omega, Lib.hid (by rw [hL2.out]; omega), by omega, by go_num, by rw [harr.out]; exact hown6, hb6, hs6⟩, by simp [intOf]; omega⟩
                    · obtain rfl : L2 = m := by omega
                      have hne : L < L2 := hlt
                      go_wp2
                      exact ⟨⟨L2, G, Nat.le_refl _, hLG, Lib.hid (fun h => absurd h (Nat.lt_irrefl _)), hown, hb, hs⟩, by show L2 - L2 < L2 - L; omega⟩
                  · obtain rfl : i = 168 := by omega
                    have h1 := hL2.out
                    have h2 := hLq.out
                    have hne : L < L2 := by omega
                    have hq1 : L2 = 168 * (q + 1) := by omega
                    replace h1 := Lib.hid h1
                    replace h2 := Lib.hid h2
                    replace hq1 := Lib.hid hq1
                    go_wp2
                    exact ⟨⟨L2, G, hL2m, hLG, Lib.hid (fun _ => ⟨q + 1, hq1.out, hnext.out.symm⟩), hown, hb, hs⟩, by show m - L2 < m - L; omega⟩
              · obtain rfl : L = m := by omega
                go_wp2
                go_ret
                exact ⟨oa, oc, rfl, hown, hb⟩
theorem refHash_ok (d : Nat) (hd : d < 256) (A : Option Addr) (c : Nat) (ns : List Nat) (hns : ∀ x, x ∈ ns → x < 256) (hcap : ns.length ≤ c) (hc2 : c ≤ 1073741824) (m : Nat) (hm : m ≤ 65536) (w : World) (hB : Bys w w.heap.size A ns) :
    Calls Tryd.prog 11 #[.int .u8 (d : Int), .slice A ns.length c, .int .i64 (m : Int)] w (Meant w m (hashP d ns)) :=
  refHash_any d hd A c ns hns hcap (Nat.le_trans hcap hc2) m hm w hB
end Go.Proofs.YtfklkplnbmhddaaDoor
