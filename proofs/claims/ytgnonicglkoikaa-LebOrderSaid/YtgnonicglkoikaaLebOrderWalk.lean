/- What is proved here: the law LebOrder, called with any two uint64 numbers and any two bytes, returns true and leaves alone whatever memory was there. -/
import Derived.Test.YtgnonicglkoikaaLebKnown
import Derived.Test.YtgnonicglkoikaaLebEdge
namespace Go.Proofs.Ytgnonicglkoikaa
open Go.RowKit
set_option linter.unusedVariables false

theorem lebP_eq (x y : Int) (hx0 : 0 ≤ x) (hx1 : x < 18446744073709551616) (hy0 : 0 ≤ y) (hy1 : y < 18446744073709551616) : (lebP x.toNat == lebP y.toNat) = (x == y) := by
  rw [Bool.eq_iff_iff]
  simp only [beq_iff_eq]
  constructor
  · intro h
    have := lebP_inj _ _ (by omega) (by omega) h
    omega
  · intro h; rw [h]
theorem str_eq (x y : Int) (hx0 : 0 ≤ x) (hx1 : x < 18446744073709551616) (hy0 : 0 ≤ y) (hy1 : y < 18446744073709551616) : ((strB (lebP x.toNat)).toList == (strB (lebP y.toNat)).toList) = (x == y) := by
  rw [strB_toList, strB_toList, lebP_eq x y hx0 hx1 hy0 hy1]
theorem lebP_le (x y : Int) (h : ¬ y < x) : (lebP x.toNat).length ≤ (lebP y.toNat).length := lebF_mono 9 _ _ (by omega)

set_option maxHeartbeats 400000 in
theorem lebOrder_walk (a b k j : Int) (wa : (Lit.int .u64 a).wf = true) (wb : (Lit.int .u64 b).wf = true) (wk : (Lit.int .u8 k).wf = true) (wj : (Lit.int .u8 j).wf = true) (w : World) :
    Calls Try.prog 5 #[.int .u64 a, .int .u64 b, .int .u8 k, .int .u8 j] w fun e w' => e = .returned (.bool true) ∧ Below w.heap.size w w' := by
  obtain ⟨a0, a1⟩ := bounds_u64 wa
  obtain ⟨b0, b1⟩ := bounds_u64 wb
  obtain ⟨k0, k1⟩ := bounds_u8 wk
  obtain ⟨j0, j1⟩ := bounds_u8 wj
  clear wa wb wk wj
  go_enter Try.func5, Try.ntmps5
  go_wp2_with fail
  refine (known_any _).mono ?_
  rintro e w1 ⟨rfl, hb1⟩
  go_wp2_with fail
  refine (edge_any a k a0 (by omega) k0 (by omega) _).mono ?_
  rintro e w2 ⟨x, x0, x1, rfl, hb⟩
  have hb2 := hb1.trans (hb.mono hb1.size)
  clear hb hb1 a0 a1 k0 k1
  go_wp2_with fail
  refine (edge_any b j b0 (by omega) j0 (by omega) _).mono ?_
  rintro e w3 ⟨y, y0, y1, rfl, hb⟩
  have hb3 := hb2.trans (hb.mono hb2.size)
  clear hb hb2 b0 b1 j0 j1
  go_wp2_with fail
  refine (put_any x x0 x1 _).mono ?_
  rintro e w4 ⟨p, rfl, hp, hb⟩
  have hb4 := hb3.trans (hb.mono hb3.size)
  clear hb hb3
  go_wp2_with fail
  refine (put_any y y0 y1 _).mono ?_
  rintro e w5 ⟨q, rfl, hq, hb⟩
  have hb5 := hb4.trans (hb.mono hb4.size)
  have hp5 := hp.below hb
  obtain ⟨P, pc, rfl, _⟩ := hp5.bs
  obtain ⟨Q, qc, rfl, _⟩ := hq.bs
  have hs1 := run_str hp5.bs
  have hs2 := run_str hq.bs
  have e1 := str_eq x y x0 x1 y0 y1
  obtain ⟨n1, n2⟩ := lebP_length x.toNat
  obtain ⟨m1, m2⟩ := lebP_length y.toNat
  clear hp hq hp5 hb hb4
  have d1 : decide (((lebP x.toNat).length : Int) ≤ 10) = true := by simp; omega
  by_cases h : y < x
  · go_wp2
    go_ret
    exact ⟨rfl, hb5⟩
  · have e2 : decide ((lebP x.toNat).length ≤ (lebP y.toNat).length) = true := by simpa using lebP_le x y h
    have e3 : decide (y < x) = false := by simpa using h
    go_wp2
    go_ret
    exact ⟨rfl, hb5⟩
end Go.Proofs.Ytgnonicglkoikaa
