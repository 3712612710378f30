/- What is proved here: the law CrcParts, called with any slice of bytes and any cut, returns true and leaves alone whatever memory was there. -/
import Derived.Test.YtaiclombimdkmaaCrcKnown
import Derived.Deep.RegionHeld3
namespace Go.Proofs.Ytaiclombimdkmaa
open Go.RowKit
set_option linter.unusedVariables false

theorem parts_eq (l : List UInt8) (j : Nat) : moreC (moreC 0 (l.take j)) ((l.drop j).take (l.length - j)) = moreC 0 l := by
  rw [List.take_of_length_le (l := l.drop j) (by simp), moreC_parts, List.take_append_drop]

set_option maxHeartbeats 4000000 in
set_option maxRecDepth 100000 in
theorem crcParts_walk (a0 : Option Addr) (len0 cap0 : Nat) (l : List UInt8) (a1 : Int) (w : World) (h0 : BS w w.heap.size (.slice a0 len0 cap0) l) (w1 : (Lit.int .u16 a1).wf = true) :
    Calls Try.prog 4 #[.slice a0 len0 cap0, .int .u16 a1] w fun e w' => e = .returned (.bool true) ∧ Below w.heap.size w w' := by
  obtain ⟨c0, c1⟩ := bounds_u16 w1
  clear w1
  obtain rfl := h0.lenC
  obtain ⟨g1, g2⟩ := h0.capC
  unfold maxLen at g2
  by_cases hlong : 300 < l.length
  · have d1 : decide (300 < (l.length : Int)) = true := by simp; omega
    go_enter Try.func4, Try.ntmps4
    go_wp2_with fail
    refine (knownC_any _).mono ?_
    rintro e w1 ⟨rfl, hb1⟩
    go_wp2
    go_ret
    exact ⟨rfl, hb1⟩
  have d1 : decide (300 < (l.length : Int)) = false := by simp; omega
  go_enter Try.func4, Try.ntmps4
  go_wp2_with fail
  refine (knownC_any _).mono ?_
  rintro e w1 ⟨rfl, hb1⟩
  obtain ⟨j, hj⟩ : ∃ j : Nat, a1 % ((l.length : Int) + 1) = (j : Int) := ⟨(a1 % ((l.length : Int) + 1)).toNat, by have := Int.emod_nonneg a1 (show ((l.length : Int) + 1) ≠ 0 by omega); omega⟩
  have hjl : j ≤ l.length := by
    have := Int.emod_lt_of_pos a1 (show (0 : Int) < (l.length : Int) + 1 by omega)
    omega
  go_wp2_with fail
  rw [hj]
  have hbw : BS w1.drew w1.drew.heap.size (.slice a0 l.length cap0) l := (h0.below hb1).more hb1.size
  have hcut := hbw.cutH j j hjl rfl
  have hcut2 := hbw.cut j (l.length - j) (l.length - j) (by omega) rfl
  have hb0 : Below w1.drew.heap.size w1.drew w1.drew := Below.refl _ _
  have hbA : Below w.heap.size w w1.drew := hb1.drew
  have hl : l.length ≤ 300 := by omega
  have n1 : (l.take j).length ≤ 1099511627776 := by simp; omega
  have n2 : ((l.drop j).take (l.length - j)).length ≤ 1099511627776 := by simp; omega
  have n0 : l.length ≤ 1099511627776 := by omega
  have n3 : ([] : List UInt8).length ≤ 1099511627776 := by simp
  have hnil := BS.nil w1.drew w1.drew.heap.size
  have q1 : (0 : Int) ≤ (j : Int) := by omega
  have q2 : (j : Int) ≤ (cap0 : Int) := by omega
  have q3 : (j : Int) ≤ (l.length : Int) := by omega
  have q4 : j ≤ cap0 := by omega
  have hm1 := moreC_lt 0 (l.take j)
  have hm2 := moreC_lt 0 l
  have hsz := hbA.size
  clear h0 hj hlong d1 hb1
  have e3 := parts_eq l j
  have e4 := moreC_nil 0 l
  obtain ⟨c1', e1⟩ : ∃ c, moreC 0 (l.take j) = c := ⟨_, rfl⟩
  obtain ⟨c2', e2⟩ : ∃ c, moreC 0 l = c := ⟨_, rfl⟩
  rw [e1] at e3 hm1
  rw [e2] at e3 e4 hm2
  have E1 := Lib.hid e1
  have E2 := Lib.hid e2
  have E3 := Lib.hid e3
  have E4 := Lib.hid e4
  clear e1 e2 e3 e4
  by_cases hcj : cap0 = j
  · obtain rfl : j = cap0 := hcj.symm
    rw [if_pos rfl] at hcut2
    have hcut3 : BS w1.drew w1.drew.heap.size (.slice a0 0 0) ((l.drop j).take (l.length - j)) := by
      have h := hcut2
      rw [Nat.sub_self] at h
      revert h
      generalize (l.drop j).take (l.length - j) = z
      rw [show l.length - j = 0 by omega]
      exact id
    clear hcut2
    go_region_held3 (fun _ => True) (trivial)
      (first
       | (go_at_call 9; (with_reducible refine (sum_in (W := w1.drew) (by assumption) hcut n1 E1.out).mono ?_); rintro e w4 ⟨rfl, hb4⟩)
       | (go_at_call 9; (with_reducible refine (sum_in (W := w1.drew) (by assumption) hbw n0 E2.out).mono ?_); rintro e w4 ⟨rfl, hb4⟩)
       | (go_at_call 11; (with_reducible refine (more_in (W := w1.drew) (by assumption) hm1 hcut3 n2 E3.out).mono ?_); rintro e w4 ⟨rfl, hb4⟩)
       | (go_at_call 11; (with_reducible refine (more_in (W := w1.drew) (by assumption) hm2 hnil n3 E4.out).mono ?_); rintro e w4 ⟨rfl, hb4⟩))
    all_goals
      go_wp2
      go_ret
      exact ⟨rfl, hbA.trans (hb4.mono hsz)⟩
  · rw [if_neg hcj] at hcut2
    go_region_held3 (fun _ => True) (trivial)
      (first
       | (go_at_call 9; (with_reducible refine (sum_in (W := w1.drew) (by assumption) hcut n1 E1.out).mono ?_); rintro e w4 ⟨rfl, hb4⟩)
       | (go_at_call 9; (with_reducible refine (sum_in (W := w1.drew) (by assumption) hbw n0 E2.out).mono ?_); rintro e w4 ⟨rfl, hb4⟩)
       | (go_at_call 11; (with_reducible refine (more_in (W := w1.drew) (by assumption) hm1 hcut2 n2 E3.out).mono ?_); rintro e w4 ⟨rfl, hb4⟩)
       | (go_at_call 11; (with_reducible refine (more_in (W := w1.drew) (by assumption) hm2 hnil n3 E4.out).mono ?_); rintro e w4 ⟨rfl, hb4⟩))
    all_goals
      go_wp2
      go_ret
      exact ⟨rfl, hbA.trans (hb4.mono hsz)⟩
end Go.Proofs.Ytaiclombimdkmaa
