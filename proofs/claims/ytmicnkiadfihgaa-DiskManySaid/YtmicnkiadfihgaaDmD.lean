/-
  A disk of many files with nothing in them: an append of nothing makes one more.
-/
import Derived.Test.YtmicnkiadfihgaaDmC
namespace Go.Proofs.Ytmicnkiadfihgaa
open Go.RowKit Flow Go.Maps
set_option linter.unusedVariables false
set_option linter.unusedSimpArgs false

theorem DsE.same {B d m n : Nat} {lim : Int} {D : DataW Value} {w w' : World} (h : DsE B d m n lim D w) (hk : ∀ k, k < w.heap.size → w'.heap[k]? = w.heap[k]?) : DsE B d m n lim D w' :=
  ⟨(hk d (lt_of_get h.kd)).trans h.kd, map_keepK h.hm (hk m (map_ltK h.hm)), fun kl hl => by obtain ⟨f, h1, h2, h3⟩ := h.ptr kl hl; exact ⟨f, h1, h2, (hk f (lt_of_get h3)).trans h3⟩, h.lows⟩
set_option maxRecDepth 20000 in
set_option maxHeartbeats 4000000 in
theorem append_E (B d m n k : Nat) (D : DataW Value) (s : ByteArray) (hsz : s.size ≤ maxLen) (hnm : ∀ w, Calls Try.prog 24 #[.string s] w fun e w' => e = .returned (.bool true) ∧ Below w.heap.size w w') (hno : Maps.has D (klitK s) = false) (hk : Maps.size D = k) (hk64 : k < 64) (hn : n < maxLen) (w0 w : World) (hb : Below B w0 w) (hs : B ≤ w.heap.size) (h : DsE B d m n 1000 D w) :
    Calls Try.prog 10 #[.pointer (some ⟨d, 0, none⟩), .string s, .slice none 0 0] w fun e w' => ∃ f, e = .returned (.int .i64 0) ∧ Below B w0 w' ∧ DsE B d m (n + 1) 1000 (D.put (klitK s) (.held (.pointer (some ⟨f, 0, none⟩)))) w' := by
  have hNm := Lib.hid hnm
  have hFi := Lib.hid (fun w h => find_E0 B d m n 1000 D s hsz w h hno)
  have hUs := Lib.hid (fun w h => used_E B d m n 1000 D w h)
  have hCr := Lib.hid (fun w hb hs h => create_E B d m n 1000 D s hsz hno hn w0 w hb hs h)
  clear hnm
  replace h := Lib.hid h
  replace hb := Lib.hid hb
  have hk' : ¬ (64 : Int) ≤ (k : Int) := by omega
  go_enter Try.func10, Try.ntmps10
  go_wp2_with fail
  refine call_then (hNm.out _) ?_
  intro w1 hv
  replace h := Lib.hid (h.out.up hv)
  replace hb := Lib.hid (below_next hb.out hs hv)
  replace hs := Nat.le_trans hs hv.size
  clear hv hNm
  go_wp2_with fail
  refine call_then (hFi.out _ h.out) ?_
  intro w2 hv
  replace h := Lib.hid (h.out.up hv)
  replace hb := Lib.hid (below_next hb.out hs hv)
  replace hs := Nat.le_trans hs hv.size
  clear hv hFi
  obtain ⟨c0, c1⟩ := disk_cells h.out.kd
  have hlen := fun ty => h.out.hm.len (t := 51) Try.underlying51 ty
  rw [hk] at hlen
  go_upto_region 8 with (fail)
  refine wp_region_flow0 (by kernel_rfl) (by kernel_rfl) ?_
  intro ι _ φ hφ
  have e1 := fun i => hφ.cell c1 i
  repeat (go_big_quiet_step ((go_at_call 15; exact flow_call hφ (hUs.out _ (h.out.up (hφ.old _))))))
  refine wpQuiet_nil ?_
  intro w3 hv
  replace h := Lib.hid (h.out.up hv)
  replace hb := Lib.hid (below_next hb.out hs hv)
  replace hs := Nat.le_trans hs hv.size
  clear hv hUs e1 c0 c1 hφ hlen
  go_upto_region 11 with (fail)
  go_wp2_with fail
  refine (hCr.out _ hb.out hs h.out).mono ?_
  clear hCr
  rintro e4 w4 ⟨f, rfl, hb4, h4, kf, hBf, hs4⟩
  obtain ⟨y0, y1, yf0, yf1⟩ := file_cells (S := 0) kf
  replace h4 := Lib.hid h4
  replace hb4 := Lib.hid hb4
  have hs5 := Nat.le_trans hs hs4
  clear h hb hs hs4
  go_wp2_with (fail)
  go_ret
  have hbut : But f w4 (w4.setCell ⟨f, 0, none⟩ (.slice none 0 0)) := (But.refl f w4).set _
  refine ⟨f, rfl, hbut.below hb4.out hBf hs5, h4.out.same fun k hk => ?_⟩
  by_cases e : k = f
  · subst e
    rw [kf]
    exact (store1 (b := k) (o := 0) (v := .slice none 0 0) kf).trans rfl
  · exact hbut.block k hk e
set_option maxRecDepth 20000 in
set_option maxHeartbeats 4000000 in
theorem append_full (B d m n k : Nat) (D : DataW Value) (s : ByteArray) (hsz : s.size ≤ maxLen) (hnm : ∀ w, Calls Try.prog 24 #[.string s] w fun e w' => e = .returned (.bool true) ∧ Below w.heap.size w w') (hno : Maps.has D (klitK s) = false) (hk : Maps.size D = k) (hk64 : 64 ≤ k) (w : World) (h : DsE B d m n 1000 D w) :
    Calls Try.prog 10 #[.pointer (some ⟨d, 0, none⟩), .string s, .slice none 0 0] w fun e w' => e = .returned (.int .i64 5) ∧ Below w.heap.size w w' := by
  have hNm := Lib.hid hnm
  have hFi := Lib.hid (fun w h => find_E0 B d m n 1000 D s hsz w h hno)
  clear hnm
  replace h := Lib.hid h
  have hk' : (64 : Int) ≤ (k : Int) := by omega
  go_enter Try.func10, Try.ntmps10
  go_wp2_with fail
  refine call_then (hNm.out _) ?_
  intro w1 hv
  replace h := Lib.hid (h.out.up hv)
  have hb := Lib.hid hv
  have hs := hv.size
  clear hv hNm
  go_wp2_with fail
  refine call_then (hFi.out _ h.out) ?_
  intro w2 hv
  replace h := Lib.hid (h.out.up hv)
  replace hb := Lib.hid (below_next hb.out hs hv)
  clear hv hFi
  obtain ⟨c0, c1⟩ := disk_cells h.out.kd
  have hlen := fun ty => h.out.hm.len (t := 51) Try.underlying51 ty
  rw [hk] at hlen
  go_wp2_with (fail)
  go_ret
  exact ⟨rfl, hb.out⟩
end Go.Proofs.Ytmicnkiadfihgaa
