/- What is proved here: the law LebSigns, called with any two int64 numbers, returns true and leaves alone whatever memory was there. -/
import Derived.Test.YtgnonicglkoikaaLebKnown
namespace Go.Proofs.Ytgnonicglkoikaa
open Go.RowKit
set_option linter.unusedVariables false

theorem zig_low_neg {a : Int} (h : a < 0) : zigV a % 2 = 1 := by rw [zig_neg h]; omega
theorem zig_low_pos {a : Int} (h : ¬ a < 0) : zigV a % 2 = 0 := by rw [zig_pos h]; omega
theorem high_neg {a : Int} (h0 : -9223372036854775808 ≤ a) (h : a < 0) : IntKind.u64.wrap a / 9223372036854775808 = 1 := by rw [IntKind.wrap_u64]; omega
theorem zig_eq (a b : Int) : (zigV a == zigV b) = (a == b) := by
  rw [Bool.eq_iff_iff]
  simp only [beq_iff_eq]
  constructor
  · intro h; rw [← zag_zig a, h, zag_zig]
  · intro h; rw [h]

set_option maxHeartbeats 400000 in
theorem lebSigns_walk (a b : Int) (wa : (Lit.int .i64 a).wf = true) (wb : (Lit.int .i64 b).wf = true) (w : World) :
    Calls Try.prog 7 #[.int .i64 a, .int .i64 b] w fun e w' => e = .returned (.bool true) ∧ Below w.heap.size w w' := by
  obtain ⟨a0, a1⟩ := bounds_i64 wa
  obtain ⟨b0, b1⟩ := bounds_i64 wb
  clear wa wb
  have e1 := zig_eq a b
  obtain ⟨z0, z1⟩ := zigV_bd a a0 (by omega)
  by_cases hneg : a < 0
  · have l1 := zig_low_neg hneg
    have L2 := Lib.hid (high_neg a0 hneg)
    go_enter Try.func7, Try.ntmps7
    go_wp2_with fail
    refine (known_any _).mono ?_
    rintro e w1 ⟨rfl, hb⟩
    go_wp2_with fail
    refine (zig_any a a0 (by omega) _).mono ?_
    rintro e w2 ⟨rfl, rfl⟩
    go_wp2_with fail
    refine (zig_any b b0 (by omega) _).mono ?_
    rintro e w2 ⟨rfl, rfl⟩
    go_wp2_with fail
    refine (zag_any (zigV a) z0 z1 _).mono ?_
    rintro e w2 ⟨rfl, rfl⟩
    rw [zag_zig]
    go_wp2
    all_goals first | (exact absurd L2.out.symm (by assumption)) | (go_ret; exact ⟨rfl, hb⟩)
  · have l1 := zig_low_pos hneg
    have l2 : (zigV a == 2 * a) = true := by rw [zig_pos hneg]; simp
    have L2 : Hid (a / 9223372036854775808 = 0) := by show a / 9223372036854775808 = 0; omega
    go_enter Try.func7, Try.ntmps7
    go_wp2_with fail
    refine (known_any _).mono ?_
    rintro e w1 ⟨rfl, hb⟩
    go_wp2_with fail
    refine (zig_any a a0 (by omega) _).mono ?_
    rintro e w2 ⟨rfl, rfl⟩
    go_wp2_with fail
    refine (zig_any b b0 (by omega) _).mono ?_
    rintro e w2 ⟨rfl, rfl⟩
    go_wp2_with fail
    refine (zag_any (zigV a) z0 z1 _).mono ?_
    rintro e w2 ⟨rfl, rfl⟩
    rw [zag_zig]
    go_wp2
    all_goals first | (exact absurd L2.out.symm (by assumption)) | (go_ret; exact ⟨rfl, hb⟩)
end Go.Proofs.Ytgnonicglkoikaa
