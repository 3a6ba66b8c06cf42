/-
  The law's example: a disk whose file is torn.
-/
import Derived.Test.YtmicnkiadfihgaaDkF
import Derived.Test.YtmicnkiadfihgaaBytesArg
import Derived.Lib.SlBytesConst
namespace Go.Proofs.Ytmicnkiadfihgaa
open Go.RowKit Flow Go.Maps
set_option linter.unusedVariables false
set_option linter.unusedSimpArgs false

theorem news_litK {w : World} {g n : Nat} {ys : List Int} {cur : Array Value} {t : TypeId} {fr : Nat × Nat} (h : w.heap[g]? = some (.cells cur t fr)) (e : cur.toList = ys.map (Value.int .u8)) (hn : ys.length = n) : News w (some ⟨g, 0, none⟩) n n 1 (ys.map (Value.int .u8)) := by
  refine ⟨by simp [hn], (fun e => (by cases e)), fun ad ha j u hj => ?_⟩
  cases ha
  rw [← e] at hj
  rw [Addr.add_mid, Nat.zero_add]
  simp only [World.cell?, h]
  simpa using hj
theorem news_argK {w : World} {A : Option Addr} {c n : Nat} {xs : List Int} (h : News w A n c 1 (xs.map (Value.int .u8))) : ArgBytes w A xs :=
  ⟨fun e => List.eq_nil_of_length_eq_zero (by have h1 := h.len; have h2 := (h.none e).1; rw [List.length_map] at h1; omega), fun ad ha j u hj => h.lies ad ha j u hj⟩
set_option maxRecDepth 20000 in
set_option maxHeartbeats 4000000 in
theorem awake_ok (w : World) : Calls Try.prog 7 #[] w fun e w' => e = .returned (.bool true) ∧ Below w.heap.size w w' := by
  have kc := fun (w : World) (C : Array Value) (n c : Nat) => Lib.run_convert_bytes_const (P := Try.prog) w 22 5 C n c Try.underlying22 Try.underlying5
  go_enter Try.func7, Try.ntmps7
  go_wp2_with (fail)
  refine (new_100 w).mono ?_
  rintro e w1 ⟨d, m, rfl, hb, hm, hd, h⟩
  have hs := hb.size
  replace h := Lib.hid h
  replace hb := Lib.hid hb
  go_wp2_with (fail)
  have hal : ∀ o, Below w1.heap.size w1 (w1.alloc o) := fun o => (Below.refl _ _).alloc (Nat.le_refl _) _
  refine (append_0 w.heap.size d m 100 _ _ 2 2 [120, 121] rfl (by decide) (by decide) (by decide) ⟨hd, hm⟩ w _ (below_next hb.out hs (hal _)) (Nat.le_trans hs (hal _).size) (h.out.up (hal _)) (news_litK (alloc_at rfl) rfl rfl) (fun ad e _ => by cases e; have := map_ltK h.out.hm; simp; omega)).mono ?_
  clear h hb hal
  rintro e w2 ⟨n, f, D, V, rfl, hb, h, hn2⟩
  have hs2 := hb.size
  replace h := Lib.hid h
  replace hb := Lib.hid hb
  go_wp2_with (fail)
  refine (sync_1 w.heap.size d m n f 100 D V [120, 121] 0 w w2 hb.out hs2 h.out).mono ?_
  clear h hb
  rintro e w3 ⟨rfl, hb, h, hz⟩
  have hs3 := hb.size
  replace h : Hid (Ds1 w.heap.size d m n f 100 D V [120, 121] 2 w3) := Lib.hid h
  replace hb := Lib.hid hb
  go_wp2_with (fail)
  have hal : ∀ o, Below w3.heap.size w3 (w3.alloc o) := fun o => (Below.refl _ _).alloc (Nat.le_refl _) _
  refine (append_1 w.heap.size d m n f 100 D V [120, 121] 2 _ 2 2 [122, 122] rfl (by decide) (by decide) (by decide) (by decide) hn2 w _ (below_next hb.out hs3 (hal _)) (Nat.le_trans hs3 (hal _).size) (h.out.up (hal _)) (news_litK (alloc_at rfl) rfl rfl)).mono ?_
  clear h hb hal
  rintro e w4 ⟨n1, f1, D1, V1, rfl, hb, h, hn3⟩
  have hs4 := hb.size
  replace h := Lib.hid h
  replace hb := Lib.hid hb
  go_wp2_with (fail)
  refine (crash_1 w.heap.size d m n1 f1 100 D1 V1 ([120, 121] ++ [122, 122]) 2 3 1 rfl (by decide) (by decide) w w4 hb.out hs4 h.out).mono ?_
  clear h hb
  rintro e w5 ⟨V2, rfl, hb, h, -⟩
  have hs5 := hb.size
  replace h := Lib.hid h
  replace hb := Lib.hid hb
  go_wp2_with (fail)
  refine (read_1 w.heap.size d m n1 f1 100 D1 V2 [120, 121, 122] 3 (by decide) w5 h.out).mono ?_
  clear h
  rintro e w6 ⟨A, c, rfl, hv, hrow⟩
  have hcs := (news_argK (owns_newsU hrow)).conv Try.underlying22 Try.underlying5 Try.underlying9 c
  replace hb := Lib.hid (below_next hb.out hs5 hv)
  have hstr : strOfNums [120, 121, 122] = ⟨#[120, 121, 122]⟩ := by decide
  rw [hstr] at hcs
  clear hv hrow hstr
  have hcs2 : (convert 22 9 (.slice A 3 c)).run Try.prog w6 = .ok (.string ⟨#[120, 121, 122]⟩) w6 := hcs
  clear hcs
  go_wp2_with (fail)
  go_ret
  exact ⟨rfl, hb.out⟩
end Go.Proofs.Ytmicnkiadfihgaa
