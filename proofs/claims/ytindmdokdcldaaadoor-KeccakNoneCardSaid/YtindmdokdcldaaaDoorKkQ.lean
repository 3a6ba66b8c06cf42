/-
  KeccakEdges: its walk.
-/
import Derived.Test.YtindmdokdcldaaaDoorKkM
import Derived.Test.YtindmdokdcldaaaDoorKkP
import Derived.Test.YtindmdokdcldaaaDoorOwn
import Derived.Deep.RegionWith
namespace Go.Proofs.YtindmdokdcldaaaDoor
open Go.RowKit Flow
set_option linter.unusedVariables false
set_option linter.unusedSimpArgs false

def txt (h : Nat → Nat) (n : Nat) : ByteArray := strOfNums ((List.range n).map (fun i => ((h i : Nat) : Int)))
theorem arr8_ints (h : Nat → Nat) (n : Nat) : arr8 h n = ((List.range n).map (fun i => ((h i : Nat) : Int))).map (Value.int .u8) := by
  unfold arr8
  rw [List.map_map]
  rfl
theorem conv_oct {w : World} {g n : Nat} {h : Nat → Nat} (o : Oct w g n h) : (convert 28 9 (.slice (some ⟨g, 0, none⟩) n n)).run Tryd.prog w = .ok (.string (txt h n)) w := by
  refine run_convert_bytes_arg w 28 5 Tryd.underlying28 Tryd.underlying5 g 0 n n _ (by simp) (fun i hi => ?_) 9 Tryd.underlying9
  rw [Nat.zero_add, o.cell hi]
  simp [hi]
theorem conv_own {w : World} {base n : Nat} {v : Value} {h : Nat → Nat} (o : w.ownsRow base 5 1 v n (arr8 h n)) : (convert 28 9 v).run Tryd.prog w = .ok (.string (txt h n)) w := by
  rw [arr8_ints] at o
  exact ownsRow_string o 28 5 9 Tryd.underlying28 Tryd.underlying5 Tryd.underlying9
theorem Oct.bys {w : World} {g n b : Nat} {h : Nat → Nat} (o : Oct w g n h) (hgb : g ≠ b) : Bys w b (some ⟨g, 0, none⟩) ((List.range n).map h) := fun i hi => by
  have hi' : i < n := by simpa using hi
  refine ⟨g, 0, rfl, hgb, ?_⟩
  rw [Nat.zero_add, o.cell hi']
  simp [hi']
set_option maxRecDepth 100000 in
set_option maxHeartbeats 8000000 in
theorem edges_walk (n : Nat) (tw : Bool) (c d0 : Nat) (hn : n < 256) (hc : c < 256) (hd0 : d0 < 256) (w : World) (hT : Tabs w) : Calls Tryd.prog 4 #[.int .u8 (n : Int), .bool tw, .int .u8 (c : Int), .int .u8 (d0 : Int)] w fun e w' => e = .returned (.bool true) ∧ Below w.heap.size w w' := by
  have n0 : (0 : Int) ≤ (n : Int) := by omega
  have nn1 : (n : Int) < 256 := by omega
  have c0 : (0 : Int) ≤ (c : Int) := by omega
  have c1 : (c : Int) < 256 := by omega
  have d00 : (0 : Int) ≤ (d0 : Int) := by omega
  have d01 : (d0 : Int) < 256 := by omega
  obtain ⟨N, hN⟩ : ∃ N, (if tw = true then 160 + n % 16 + 168 else 160 + n % 16) = N := ⟨_, rfl⟩
  have hNb : N ≤ 400 := by rw [← hN]; split <;> omega
  have hA := Lib.hid (awake_ok w hT)
  replace hT := Lib.hid hT
  go_enter Tryd.func4, Tryd.ntmps4
  go_wp2_with fail
  refine call_then hA.out ?_
  intro w1 hb1
  clear hA
  go_upto_region 4 with (fail)
  obtain ⟨M, hM⟩ : ∃ M, 160 + n % 16 = M := ⟨_, rfl⟩
  have eM : 160 + (n : Int) % 16 = (M : Int) := by omega
  have hMb : M < 200 := by omega
  have M0 : (0 : Int) ≤ (M : Int) := by omega
  have M1 : (M : Int) < 200 := by omega
  rw [hM] at hN
  rw [eM]
  replace hM := Lib.hid hM
  replace hN := Lib.hid hN
  clear eM nn1 n0
  go_upto_if 19 with (fail)
  go_cut [9] (fun s w' => s = .int .i64 (N : Int) ∧ w' = w1)
  case first =>
    cases tw with
    | true =>
      have e : (M : Int) + 168 = (N : Int) := by have := hN.out; rw [if_pos rfl] at this; omega
      go_wp2
      go_meet
      exact ⟨rfl, rfl⟩
    | false =>
      have e : (M : Int) = (N : Int) := by have := hN.out; rw [if_neg (by decide)] at this; omega
      replace e := Lib.hid e
      go_wp2
      go_meet
      exact ⟨by rw [e.out], rfl⟩
  case rest =>
    obtain ⟨rfl, hwc⟩ := hcut
    rw [hwc]
    clear hwc
    have N0 : (0 : Int) ≤ (N : Int) := by omega
    have N1 : (N : Int) ≤ 400 := by omega
    have hmk := fun w => make_bytes N (by omega) w
    obtain ⟨h, hh⟩ : ∃ h : Nat → Nat, h = fun i => (c + i) % 256 := ⟨_, rfl⟩
    replace hh := Lib.hid hh
    have hT1 := hT.out.up hb1
    go_upto_region 7 with (fail)
    refine name_wp (fun w2 => Below w.heap.size w w2 ∧ Oct w2 w1.heap.size N (part h (fun _ => 0) 0) ∧ Tabs w2)
      ⟨hb1.alloc hb1.size _, Oct.congr (h := fun _ => 0) (alloc_at rfl) fun i _ => part_zero h (fun _ => 0) i, hT1.up ((Below.refl _ _).alloc (Nat.le_refl _) _)⟩ ?_
    have hgw : w.heap.size ≤ w1.heap.size := hb1.size
    have h1g := hT1.two
    clear hb1 hT1 hmk
    rintro w2 ⟨hb, ho, hT2⟩
    generalize w1.heap.size = g at *
    go_wp2
    go_loopw [26] (fun i wr => ∃ k : Nat, k ≤ N ∧ i = .int .i64 (k : Int) ∧ Below w.heap.size w wr ∧ Oct wr g N (part h (fun _ => 0) k)) (fun i _ => N - (intOf i).toNat)
    case atStart => exact ⟨0, by omega, rfl, hb, ho⟩
    case round =>
      clear hb ho hT2
      obtain ⟨k, hk, rfl, hb, ho⟩ := hrel
      by_cases hlt : k < N
      · have k0 : (0 : Int) ≤ (k : Int) := by omega
        have k1 : (k : Int) < (N : Int) := by omega
        have r0 := ho.cell hlt
        have r1 : wr.frozen? ⟨g, k, none⟩ = false := ho.free
        obtain ⟨K, hK⟩ : ∃ K, k % 256 = K := ⟨_, rfl⟩
        obtain ⟨V, hV⟩ : ∃ V, (c + k) % 256 = V := ⟨_, rfl⟩
        have z1 : IntKind.u8.wrap (k : Int) = (K : Int) := by rw [IntKind.wrap_u8']; omega
        have z2 : IntKind.u8.wrap ((c : Int) + (K : Int)) = (V : Int) := by rw [IntKind.wrap_u8']; omega
        have hps : upd (part h (fun _ => 0) k) k (h k) = part h (fun _ => 0) (k + 1) := funext fun i => part_step _ _ _ _
        have hhk : h k = V := by rw [hh.out]; exact hV
        rw [hhk] at hps
        have ho2 := ho.set (k := k) V
        rw [hps] at ho2
        replace ho2 := Lib.hid ho2
        replace hK := Lib.hid hK
        replace hV := Lib.hid hV
        replace hhk := Lib.hid hhk
        replace hps := Lib.hid hps
        clear ho
        go_wp2
        exact ⟨⟨k + 1, by omega, by go_num, hb.setCell (p := ⟨g, k, none⟩) hgw _, ho2.out⟩, left_u (by assumption)⟩
      · obtain rfl : k = N := by omega
        replace ho := ho.congr fun i hi => part_all h (fun _ => 0) hi
        obtain ⟨D, hD⟩ : ∃ D, 1 + d0 % 127 = D := ⟨_, rfl⟩
        have eD : 1 + (d0 : Int) % 127 = (D : Int) := by omega
        have D1 : 1 ≤ D ∧ D ≤ 127 := by omega
        replace hD := Lib.hid hD
        have hTw : Tabs wr := hT.out.up hb
        have hns : ∀ x, x ∈ (List.range k).map h → x < 256 := fun x hx => by
          obtain ⟨i, _, rfl⟩ := List.mem_map.1 hx
          rw [hh.out]
          exact Nat.mod_lt _ (by decide)
        have hlen : ((List.range k).map h).length = k := by simp
        obtain ⟨ns, hnse⟩ : ∃ ns, (List.range k).map h = ns := ⟨_, rfl⟩
        have hby : Bys wr wr.heap.size (some ⟨g, 0, none⟩) ns := by rw [← hnse]; exact ho.bys (Nat.ne_of_lt ho.lt)
        rw [hnse] at hns hlen
        have hH : Calls Tryd.prog 9 #[.int .u8 (D : Int), .slice (some ⟨g, 0, none⟩) k k, .int .i64 200] wr.drew fun e w' => ∃ g2, e = .returned (.slice (some ⟨g2, 0, none⟩) 200 200) ∧ Below wr.heap.size wr.drew w' ∧ wr.heap.size ≤ g2 ∧ Oct w' g2 200 (hashP D ns) := by
          have := hash_ok D D1.1 D1.2 (some ⟨g, 0, none⟩) k ns hns (by omega) 200 200 (by decide) (by decide) wr.drew (hTw.up (Below.refl _ _).drew) (hby.up (Below.refl _ _).drew)
          rw [hlen] at this
          exact this
        have hR : ∀ w2, Below wr.heap.size wr w2 → Calls Tryd.prog 10 #[.int .u8 (D : Int), .slice (some ⟨g, 0, none⟩) k k, .int .i64 200] w2 (Meant w2 200 (hashP D ns)) := fun w2 hb2 => by
          have := refHash_ok D (by omega) (some ⟨g, 0, none⟩) k ns hns (by omega) (by omega) 200 (by decide) w2 (fun i hi => by
            obtain ⟨q, o, e1, e2, e3⟩ := (hby.up hb2) i hi
            refine ⟨q, o, e1, ?_, e3⟩
            have := World.block_lt_of_cell? _ _ e3
            exact Nat.ne_of_lt this)
          rw [hlen] at this
          exact this
        generalize hashP D ns = HH at *
        replace hH := Lib.hid hH
        replace hR := Lib.hid hR
        replace hnse := Lib.hid hnse
        replace hns := Lib.hid hns
        replace hlen := Lib.hid hlen
        replace hby := Lib.hid hby
        replace hTw := Lib.hid hTw
        replace D1 := Lib.hid D1
        clear ho
        go_upto_region 13 with (fail)
        clear eD
        go_region_with ((first
          | (go_at_call 9; refine hH.out.mono ?_; rintro e w3 ⟨g3, rfl, hb3, hg3, ho3⟩; have hcv3 := conv_oct ho3; have hR3 := Lib.hid (hR.out w3 ((Below.refl wr.heap.size wr).drew.trans hb3)))
          | (go_at_call 10; refine hR3.out.mono ?_; rintro e w4 ⟨a4, c4, rfl, hown4, hb4⟩; have hcv4 := conv_own hown4; have hcv5 := conv_oct (ho3.up hb4))))
        all_goals go_wp2
        all_goals go_ret
        all_goals exact ⟨rfl, (below_next hb hb.size ((Below.refl wr.heap.size wr).drew.trans hb3)).trans (hb4.mono (Nat.le_trans hb.size hb3.size))⟩
end Go.Proofs.YtindmdokdcldaaaDoor
