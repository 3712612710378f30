/- What is proved here: a contract of the laws' helper 'known' of layer 2: it answers true. -/
import Derived.Test.YtaiclombimdkmaaCrcSum
namespace Go.Proofs.Ytaiclombimdkmaa
open Go.RowKit
set_option linter.unusedVariables false

theorem check1 : moreC 0 [49, 50, 51, 52, 53, 54, 55, 56, 57] = 3421780262 := by decide +kernel
theorem check2 : moreC 0 [] = 0 := by decide +kernel
theorem check3 : half8 1 = 1996959894 := by decide +kernel
theorem check4 : strB (fourB 16909060) = ⟨#[4, 3, 2, 1]⟩ := by decide +kernel


theorem knownC1 (W : World) (fr : Nat × Nat) : Calls Try.prog 9 #[.slice (some ⟨W.heap.size, 0, none⟩) 9 9] (W.alloc (.cells #[.int .u8 49, .int .u8 50, .int .u8 51, .int .u8 52, .int .u8 53, .int .u8 54, .int .u8 55, .int .u8 56, .int .u8 57] 5 fr))
    fun e w' => e = .returned (.int .u32 3421780262) ∧ Below W.heap.size W w' := by
  have hb := BS.litM W [49, 50, 51, 52, 53, 54, 55, 56, 57] 9 #[.int .u8 49, .int .u8 50, .int .u8 51, .int .u8 52, .int .u8 53, .int .u8 54, .int .u8 55, .int .u8 56, .int .u8 57] 5 fr rfl (by simp [vBs, vB]) (by simp)
  refine (sum_any _ _ _ _ hb (by simp) (by simp)).mono ?_
  rintro e w' ⟨rfl, hbel⟩
  rw [check1]
  exact ⟨rfl, ((Below.refl _ _).alloc (Nat.le_refl _) _).trans (hbel.mono (by simp))⟩

set_option maxHeartbeats 1000000 in
set_option maxRecDepth 100000 in
theorem knownC_any (w : World) : Calls Try.prog 7 #[] w fun e w' => e = .returned (.bool true) ∧ Below w.heap.size w w' := by
  have hst := w3_store w
  have hz := zero_run
  have hk := Lib.run_convert_bytes_const (P := Try.prog) (w3 w) 22 5 #[.int .u8 49, .int .u8 50, .int .u8 51, .int .u8 52, .int .u8 53, .int .u8 54, .int .u8 55, .int .u8 56, .int .u8 57] 9 9 Try.underlying22 Try.underlying5
  go_enter Try.func7, Try.ntmps7
  go_wp2_with (first
    | (go_at_call 8; refine (table_any _).mono ?_; rintro e w' ⟨rfl, rfl⟩)
    | (refine wpl_store_run (o := ⟨none, _, _, _, _, _⟩) rfl 25 (.tmp 1) (.tmp 2) rfl rfl rfl hst ?_))
  refine (knownC1 _ _).mono ?_
  rintro e w1 ⟨rfl, hb1⟩
  clear hst hk hz
  have hb0 := w3_below w
  have hc := w3_cell w 1 (by omega)
  rw [check3] at hc
  have hz3 := w3_size w
  have hc1 : w1.cell? ⟨w.heap.size + 1 + 1, 1, none⟩ = some (.int .u32 1996959894) := (hb1.cell (p := ⟨w.heap.size + 1 + 1, 1, none⟩) (by simp only [hz3]; omega)).trans hc
  have hbA := hb0.trans (hb1.mono hb0.size)
  have hs1 := hb1.size
  rw [hz3] at hs1
  clear hc hb0 hb1 hz3
  go_wp2_with fail
  refine (sum_any _ [] _ _ (BS.nil _ _) (Nat.zero_le _) (by simp)).mono ?_
  rintro e w2 ⟨rfl, hb2⟩
  rw [check2]
  have hc2 : w2.cell? ⟨w.heap.size + 1 + 1, 1, none⟩ = some (.int .u32 1996959894) := (hb2.cell (p := ⟨w.heap.size + 1 + 1, 1, none⟩) (by simp only []; omega)).trans hc1
  have hbB := hbA.trans (hb2.mono hbA.size)
  clear hc1 hb2 hbA hs1
  go_wp2_with fail
  refine (four_any 16909060 (by omega) _).mono ?_
  rintro e w3' ⟨v, rfl, hv, hb3⟩
  have hbC := hbB.trans (hb3.mono hbB.size)
  have hs := run_str hv
  rw [check4] at hs
  clear hb3 hbB hc2 hv
  go_wp2
  go_ret
  exact ⟨rfl, hbC⟩
end Go.Proofs.Ytaiclombimdkmaa
