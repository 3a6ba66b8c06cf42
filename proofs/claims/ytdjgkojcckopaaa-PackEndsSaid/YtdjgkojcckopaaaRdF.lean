/-
  The reader of bytes: the example of its chapter; numbers there and back.
-/
import Derived.Test.YtdjgkojcckopaaaRdE
import Derived.Test.YtdjgkojcckopaaaFrame
import Derived.Laws.BytesArg
import Derived.Lib.SlBytesConst
namespace Go.Proofs.Ytdjgkojcckopaaa
open Go.RowKit Flow
set_option linter.unusedVariables false
set_option linter.unusedSimpArgs false

theorem Tx.conv {P : Program} {w : World} {v : Value} {xs : List Int} (h : Tx w v xs) {src e dst : TypeId} (hs : P.underlying src = some (.slice e)) (he : P.underlying e = some (.int .u8)) (hd : P.underlying dst = some .string) :
    (convert src dst v).run P w = .ok (.string (strOfNums xs)) w := by
  rcases h with ⟨rfl, rfl⟩ | ⟨b, o, c, rfl, _, hc⟩
  · exact run_convert_bytes_nil w src e hs he 0 0 dst hd
  · exact run_convert_bytes_arg w src e hs he b o _ c xs rfl (fun i hi => hc i hi) dst hd
theorem ubytes_lo (n : Int) : ∀ k, ubytes n k = F.loBytes k n
  | 0 => rfl
  | k + 1 => by
    rw [ubytes_succ, F.loBytes_succ, ubytes_lo n k, Int.pow_mul]
    rfl
theorem loVal_mod : ∀ (k : Nat) (x : Int), 0 ≤ x → F.loVal (F.loBytes k x) = x % 256 ^ k
  | 0, x, _ => by simp [F.loBytes, F.loVal]
  | k + 1, x, h => by
    have ih := loVal_mod k (x / 256) (by omega)
    obtain ⟨n, rfl⟩ := Int.eq_ofNat_of_zero_le h
    have e1 : ((n : Int) / 256) = ((n / 256 : Nat) : Int) := by omega
    have e2 : ((256 : Int) ^ k) = ((256 ^ k : Nat) : Int) := by simp
    have e3 : ((256 : Int) ^ (k + 1)) = ((256 * 256 ^ k : Nat) : Int) := by rw [Int.pow_succ']; simp
    rw [F.loBytes, F.loVal, ih, e1, e2, e3]
    have := Nat.mod_mul (x := n) (a := 256) (b := 256 ^ k)
    omega
def abs12 : List Int := [2, 0, 0, 0, 97, 98]
theorem abs12_is : [] ++ ubytes (([97, 98] : List Int).length : Int) 4 ++ [97, 98] = abs12 := by decide
set_option maxHeartbeats 2000000 in
theorem awake12 (w : World) : Calls Try.prog 7 #[] w fun e w' => e = .returned (.bool true) ∧ Below w.heap.size w w' := by
  have hcv : (convert 23 23 (.slice (some ⟨w.heap.size + 1, 0, none⟩) 2 2)).run Try.prog ((w.alloc (.cells #[.slice none 0 0] 26 (0, 0))).alloc (.cells #[.int .u8 97, .int .u8 98] 5 (0, 0))) =
      .ok (.slice (some ⟨w.heap.size + 1, 0, none⟩) 2 2) ((w.alloc (.cells #[.slice none 0 0] 26 (0, 0))).alloc (.cells #[.int .u8 97, .int .u8 98] 5 (2, 3))) := by
    have h := Lib.run_convert_bytes_const (P := Try.prog) (w.alloc (.cells #[.slice none 0 0] 26 (0, 0))) 23 5 #[.int .u8 97, .int .u8 98] 2 2 Try.underlying23 Try.underlying5
    simpa using h
  go_enter Try.func7, Try.ntmps7
  go_wp2_with fail
  have hbA : Below w.heap.size w (w.alloc (.cells #[.slice none 0 0] 26 (0, 0))) := (Below.refl _ _).alloc (Nat.le_refl _) _
  have hW : Wr (w.alloc (.cells #[.slice none 0 0] 26 (0, 0))) w.heap.size [] := ⟨_, alloc_at rfl, World.ownsRow_nil _ _ _ _⟩
  have hbB := (Below.refl (w.alloc (.cells #[.slice none 0 0] 26 (0, 0))).heap.size (w.alloc (.cells #[.slice none 0 0] 26 (0, 0)))).alloc (Nat.le_refl _) (.cells #[.int .u8 97, .int .u8 98] 5 (2, 3))
  have hs := hW.safe_new hbB (Nat.le_refl _) (by simp)
  have hL := long_any w.heap.size [] [97, 98] (some ⟨w.heap.size + 1, 0, none⟩) 2 (by decide) _ (hW.up hbB) ⟨rfl, (fun h => by cases h), fun ad ha j u hj => by
    cases ha
    rw [Addr.add_mid]
    have hk : ((w.alloc (.cells #[.slice none 0 0] 26 (0, 0))).alloc (.cells #[.int .u8 97, .int .u8 98] 5 (2, 3))).heap[w.heap.size + 1]? = some (.cells #[.int .u8 97, .int .u8 98] 5 (2, 3)) := alloc_at (by simp)
    unfold World.cell?
    rw [hk]
    simpa using hj⟩ (fun ad ha => by cases ha; simpa using hs)
  refine hL.mono ?_
  rintro e w1 ⟨rfl, hW1, hS1⟩
  have hb1 : Below w.heap.size w w1 := hbA.trans ((hbB.mono (by simp)).trans (Step.below hS1 (hW.up hbB)))
  have e0 : ([] : List Int) ++ ubytes (([97, 98] : List Int).length : Int) 4 ++ [97, 98] = abs12 := abs12_is
  rw [e0] at hW1
  clear e0 hS1 hL hs hbB hW hbA hcv
  have hB := bytes_txt w.heap.size abs12 (by decide) w1 hW1
  go_wp2_with fail
  refine hB.mono ?_
  rintro e w2 ⟨v2, rfl, hb2, hf2⟩
  have hb := below_next hb1 hb1.size hb2
  have hc := Tx.conv (P := Try.prog) hf2.tx (src := 23) (e := 5) (dst := 9) Try.underlying23 Try.underlying5 Try.underlying9
  have hs : strOfNums abs12 = ⟨#[2, 0, 0, 0, 97, 98]⟩ := by decide
  rw [hs] at hc
  clear hB hW1 hb1 hb2 hf2 hs
  go_wp2
  go_ret
  exact ⟨rfl, hb⟩
end Go.Proofs.Ytdjgkojcckopaaa
