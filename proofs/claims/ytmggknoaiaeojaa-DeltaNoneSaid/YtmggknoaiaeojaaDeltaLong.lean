/- What is proved here: a contract of the document's function that finds the longest match: memory is left alone. -/
import Derived.Test.YtmggknoaiaeojaaDeltaPlain
import Derived.Test.YtmggknoaiaeojaaBytesOwn
import Derived.Deep.QuietTactic
import Derived.BigQuiet
import Derived.IntWalk
namespace Go.Proofs.Ytmggknoaiaeojaa
open Go.RowKit
set_option linter.unusedVariables false

theorem below_drewN {B : Nat} {w w' : World} (h : Below B w w') (n : Nat) : Below B w (w'.drewN n) := ⟨h.os, h.tape, h.output, h.size, h.block⟩
theorem common_stop (a b : List UInt8) (k : Nat) (h : commonL a b = k) (h1 : k < a.length) (h2 : k < b.length) : a[k] ≠ b[k] := by
  intro e
  induction k generalizing a b with
  | zero =>
    cases a with
    | nil => simp at h1
    | cons x a =>
      cases b with
      | nil => simp at h2
      | cons y b =>
        simp at e
        unfold commonL at h
        rw [if_pos e] at h
        omega
  | succ k ih =>
    cases a with
    | nil => simp at h1
    | cons x a =>
      cases b with
      | nil => simp at h2
      | cons y b =>
        unfold commonL at h
        split at h
        · exact ih a b (by omega) (by simpa using h1) (by simpa using h2) (by simpa using e)
        · omega

/-- At the outer loop's head: j places have been looked at. -/
def LongRel (old b : List UInt8) (w0 : World) (n at_ i : Value) (wr : World) : Prop :=
  ∃ j : Nat, j ≤ old.length ∧ i = .int .i64 (j : Int) ∧ n = .int .i64 ((longG old b j).1 : Int) ∧ at_ = .int .i64 ((longG old b j).2 : Int) ∧ Below w0.heap.size w0 wr
def ComRel (C : Nat) (w0 : World) (k : Value) (wr : World) : Prop := ∃ i : Nat, i ≤ C ∧ k = .int .i64 (i : Int) ∧ Below w0.heap.size w0 wr
def LongPost (old b : List UInt8) (w : World) (e : Ending) (w' : World) : Prop := e = .returned (.tuple #[.int .i64 ((longL old b).1 : Int), .int .i64 ((longL old b).2 : Int)]) ∧ Below w.heap.size w w'
theorem longG_yes (old b : List UInt8) (j C : Nat) (hC : commonL (old.drop j) b = C) (h : (longG old b j).1 < C) : longG old b (j + 1) = (C, j) := by rw [longG, hC, if_pos h]
theorem longG_not (old b : List UInt8) (j C : Nat) (hC : commonL (old.drop j) b = C) (h : ¬ (longG old b j).1 < C) : longG old b (j + 1) = longG old b j := by rw [longG, hC, if_neg h]

set_option maxHeartbeats 1000000 in
set_option maxRecDepth 100000 in
theorem longr_any (v1 v2 : Value) (old b : List UInt8) (w : World) (h1 : BS w w.heap.size v1 old) (h2 : BS w w.heap.size v2 b) (hl1 : old.length ≤ 1099511627776) (hl2 : b.length ≤ 1099511627776) :
    Calls Try.prog 17 #[v1, v2] w (LongPost old b w) := by
  have HO := Lib.hid h1
  have HB := Lib.hid h2
  obtain ⟨A1, c1, rfl, g1, g2, -⟩ := h1.at_
  obtain ⟨A2, c2, rfl, g3, g4, -⟩ := h2.at_
  unfold maxLen at g2 g4
  clear h1 h2
  go_enter Try.func17, Try.ntmps17
  go_wp2
  go_loopw [6, 7, 8] (fun n a i wr => LongRel old b w n a i wr) (fun _ _ i _ => old.length - (intOf i).toNat)
  case atStart => exact ⟨0, Nat.zero_le _, rfl, rfl, rfl, Below.refl _ _⟩
  case round =>
    obtain ⟨j, hj, rfl, rfl, rfl, hbel⟩ := hrel
    by_cases hlt : j < old.length
    · obtain ⟨C, hC⟩ : ∃ C, commonL (old.drop j) b = C := ⟨_, rfl⟩
      have hCl := common_le (old.drop j) b
      simp only [List.length_drop] at hCl
      rw [hC] at hCl
      have hy := longG_yes old b j C hC
      have hn := longG_not old b j C hC
      have hlo := longG_ok old b j
      have HC := Lib.hid hC
      have HY := Lib.hid hy
      have HN := Lib.hid hn
      clear hC hy hn
      obtain ⟨hl3, hl4, -⟩ := hlo
      generalize hN : (longG old b j).1 = N at *
      generalize hA : (longG old b j).2 = A at *
      have HEN := Lib.hid hN
      have HEA := Lib.hid hA
      clear hN hA
      go_wp2
      go_loopw [9] (fun k wr => ComRel C w k wr) (fun k _ => C - (intOf k).toNat)
      case atStart => exact ⟨0, Nat.zero_le _, rfl, hbel⟩
      case round =>
        obtain ⟨k, hk, rfl, hbel2⟩ := hrel
        have hlim : (C : Int) ≤ 1099511627776 := by omega
        have s1 : (0 : Int) ≤ (j : Int) + (k : Int) := by omega
        have s3 : ((j : Int) + (k : Int)).toNat = j + k := by omega
        by_cases hkC : k < C
        · have hkb : k < b.length := by omega
          have hjk : j + k < old.length := by omega
          obtain ⟨q1, q2, hab⟩ := common_at (old.drop j) b k (by rw [HC.out]; exact hkC)
          rw [List.getElem_drop] at hab
          obtain ⟨ad1, rfl, hc1⟩ := (HO.out.below hbel2).cellC (j + k) hjk
          obtain ⟨ad2, rfl, hc2⟩ := (HB.out.below hbel2).cellC k hkb
          rw [hab] at hc1
          unfold vB at hc1 hc2
          have d1 : decide (k < b.length) = true := by simp; omega
          have d2 : decide ((j : Int) + (k : Int) < (old.length : Int)) = true := by simp; omega
          have d2' : (j : Int) + (k : Int) < (old.length : Int) := by omega
          have s2 : IntKind.i64.wrap ((j : Int) + (k : Int)) = (j : Int) + (k : Int) := IntWalk.i64_in _ (by omega)
          clear hab
          go_wp2
          go_quiet (fail)
          go_wp2
          go_roundw
          case rel => exact ⟨k + 1, hkC, by go_num, below_drewN hbel2 _⟩
          case measure => simp [intOf]; omega
        · obtain rfl : k = C := by omega
          have s2 : IntKind.i64.wrap ((j : Int) + (k : Int)) = (j : Int) + (k : Int) := IntWalk.i64_in _ (by omega)
          by_cases hkb : k < b.length
          · by_cases hjk : j + k < old.length
            · have hne := common_stop (old.drop j) b k HC.out (by simp; omega) hkb
              rw [List.getElem_drop] at hne
              obtain ⟨ad1, rfl, hc1⟩ := (HO.out.below hbel2).cellC (j + k) hjk
              obtain ⟨ad2, rfl, hc2⟩ := (HB.out.below hbel2).cellC k hkb
              unfold vB at hc1 hc2
              have hne' : (((old[j + k]).toNat : Int) == ((b[k]).toNat : Int)) = false := beq_eq_false_iff_ne.2 (fun e => hne (UInt8.toNat_inj.1 (by omega)))
              generalize ((old[j + k]).toNat : Int) = x at *
              generalize ((b[k]).toNat : Int) = y at *
              have d1 : decide (k < b.length) = true := by simp; omega
              have d2 : decide ((j : Int) + (k : Int) < (old.length : Int)) = true := by simp; omega
              have d2' : (j : Int) + (k : Int) < (old.length : Int) := by omega
              clear hne
              go_wp2
              go_quiet (fail)
              by_cases hNC : N < k
              · have HL := Lib.hid (HY.out hNC)
                go_wp2
                go_roundw
                case rel => exact ⟨j + 1, hlt, by go_num, by rw [HL.out], by rw [HL.out], below_drewN hbel2 _⟩
                case measure => simp [intOf]; omega
              · have HL := Lib.hid (HN.out hNC)
                have hNC' : decide (N < k) = false := by simp; omega
                go_wp2
                go_roundw
                case rel => exact ⟨j + 1, hlt, by go_num, by rw [HL.out, HEN.out], by rw [HL.out, HEA.out], below_drewN hbel2 _⟩
                case measure => simp [intOf]; omega
            · have d1 : decide (k < b.length) = true := by simp; omega
              have d2 : decide ((j : Int) + (k : Int) < (old.length : Int)) = false := by simp; omega
              go_wp2
              go_quiet (fail)
              by_cases hNC : N < k
              · have HL := Lib.hid (HY.out hNC)
                go_wp2
                go_roundw
                case rel => exact ⟨j + 1, hlt, by go_num, by rw [HL.out], by rw [HL.out], below_drewN hbel2 _⟩
                case measure => simp [intOf]; omega
              · have HL := Lib.hid (HN.out hNC)
                have hNC' : decide (N < k) = false := by simp; omega
                go_wp2
                go_roundw
                case rel => exact ⟨j + 1, hlt, by go_num, by rw [HL.out, HEN.out], by rw [HL.out, HEA.out], below_drewN hbel2 _⟩
                case measure => simp [intOf]; omega
          · have d1 : decide (k < b.length) = false := by simp; omega
            go_wp2
            go_quiet (fail)
            by_cases hNC : N < k
            · have HL := Lib.hid (HY.out hNC)
              go_wp2
              go_roundw
              case rel => exact ⟨j + 1, hlt, by go_num, by rw [HL.out], by rw [HL.out], below_drewN hbel2 _⟩
              case measure => simp [intOf]; omega
            · have HL := Lib.hid (HN.out hNC)
              have hNC' : decide (N < k) = false := by simp; omega
              go_wp2
              go_roundw
              case rel => exact ⟨j + 1, hlt, by go_num, by rw [HL.out, HEN.out], by rw [HL.out, HEA.out], below_drewN hbel2 _⟩
              case measure => simp [intOf]; omega
    · obtain rfl : j = old.length := by omega
      go_wp2
      go_ret2
      exact ⟨rfl, hbel⟩
end Go.Proofs.Ytmggknoaiaeojaa
