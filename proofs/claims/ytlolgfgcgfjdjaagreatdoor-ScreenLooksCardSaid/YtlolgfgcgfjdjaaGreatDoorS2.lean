/- What is proved here: the contract of the landed utf's Put: a rune's form, in new memory; the contract of the document's width of a rune; the contract of the landed width's Of: what the document's width tells, over the table that the program's text lays; the package-level table of the landed width, as the row lists it, lies in memory as the plain table has it; the door's own heap meets the row's condition; plain facts on cells and the document's grid calls: what comes of a grid, place by place; no program is named; plain facts on the document's parser of a terminal: what a byte comes to, in each mode; no program is named; plain facts on the document's screen: what each act comes to; no program is named; words for slices of bools in memory over this translation (a slice that reads as a list of bools; a row of bools of the call's own), how they are kept, what append makes of them. -/
import Derived.Test.YtlolgfgcgfjdjaaGreatDoorS1
import Derived.Deep.QuietTactic
import Derived.BigQuiet
import Derived.Test.YtlolgfgcgfjdjaaGreatDoorRows
import Derived.ProofKit
import Derived.LaidMore
import Derived.OpenShut
import Derived.Stop.Joined
import Derived.Deep.Strs
import Derived.Test.YtlolgfgcgfjdjaaGreatDoorLebPlain
import Derived.Laws.OwnMore
import Derived.Laws.MakeOwn
import Derived.Deep.OwnRows
import Derived.WalkKit
import Derived.WalkSpells
import Derived.WalkLawsBesides
import Derived.Below
import Derived.Lib.Hide
import Derived.Maps.AppendAt
import Derived.Deep.AppendLies
import Derived.Deep.Draws
import Derived.OwnWalk
import Derived.Laws.BytesArg
import Derived.Lib.SlBytesConst
namespace Go.Proofs.YtlolgfgcgfjdjaaGreatDoor
open Go.RowKit
set_option linter.unusedVariables false
set_option linter.unusedSimpArgs false
set_option maxHeartbeats 1000000
set_option maxRecDepth 100000
theorem hasform_any (r : Int) (h0 : -2147483648 ≤ r) (h1 : r ≤ 2147483647) (w : World) : Calls Tryz.prog 170 #[.int .i32 r] w fun e w' => e = .returned (.bool (mayR r)) ∧ w = w' := by
 by_cases a1 : r < 0
 ·rw [mayR_false (.inl a1)]
  go_enter Tryz.func170, Tryz.ntmps170
  go_wp2
  go_ret
  exact ⟨rfl, rfl⟩
 have d1 : decide (r < 0) = false := by simp; omega
 by_cases a2 : 1114111 < r
 ·rw [mayR_false (.inr (.inl a2))]
  go_enter Tryz.func170, Tryz.ntmps170
  go_wp2
  go_ret
  exact ⟨rfl, rfl⟩
 have d2 : decide (1114111 < r) = false := by simp; omega
 by_cases a3 : 55296 ≤ r
 ·by_cases a4 : r ≤ 57343
  ·rw [mayR_false (.inr (.inr ⟨a3, a4⟩))]
   go_enter Tryz.func170, Tryz.ntmps170
   go_wp2
   go_ret
   exact ⟨rfl, rfl⟩
  ·have d4 : decide (r ≤ 57343) = false := by simp; omega
   rw [mayR_true (by omega) (by omega) (.inr (by omega))]
   go_enter Tryz.func170, Tryz.ntmps170
   go_wp2
   go_ret
   exact ⟨rfl, rfl⟩
 ·have d3 : decide (55296 ≤ r) = false := by simp; omega
  rw [mayR_true (by omega) (by omega) (.inl (by omega))]
  go_enter Tryz.func170, Tryz.ntmps170
  go_wp2
  go_ret
  exact ⟨rfl, rfl⟩
theorem tail_any (y : Int) (h0 : 0 ≤ y) (h1 : y < 2147483648) (w : World) : Calls Tryz.prog 171 #[.int .i32 y] w fun e w' => e = .returned (.int .u8 (128 + y % 64)) ∧ w = w' := by
 have e1 := a63 y h0 h1
 have e2 := u8_or128 (y % 64) (by omega) (by omega)
 go_enter Tryz.func171, Tryz.ntmps171
 go_wp2
 go_ret
 exact ⟨rfl, rfl⟩
theorem uput_any (r : Int) (h0 : -2147483648 ≤ r) (h1 : r ≤ 2147483647) (w : World) : Calls Tryz.prog 157 #[.int .i32 r] w (FormPost r w) := by
 have hm := hasform_any r h0 h1 w
 cases hmay : mayR r
 ·have ha := asR_not r hmay
  have HA := Lib.hid ha
  rw [hmay] at hm
  clear hmay ha
  have e1 := u8_or224 15 (by omega) (by omega)
  go_enter Tryz.func157, Tryz.ntmps157
  go_wp2_with (first
   | (go_at_call 170; refine hm.mono ?_; rintro e w' ⟨rfl, rfl⟩)
   | (go_at_call 171; refine (tail_any _ (by omega) (by omega) w).mono ?_; rintro e w' ⟨rfl, rfl⟩))
  go_ret
  exact form_post r w _ _ _ (by unfold formL; rw [HA.out]; rfl) (by unfold formL; rw [HA.out]; exact fcells3 65533 (by omega) (by omega) _ _ _ (by decide) (by decide) (by decide))
 ·have ha := asR_may r hmay
  have hok := asR_ok r
  have hnn : 0 ≤ r := by simp [mayR] at hmay; omega
  obtain ⟨n, rfl⟩ : ∃ n : Nat, r = (n : Int) := ⟨r.toNat, by omega⟩
  rw [show ((n : Int)).toNat = n from by omega] at ha
  rw [ha] at hok
  have HA := Lib.hid ha
  rw [hmay] at hm
  clear hmay ha
  have hn := hok.1
  clear hok h0 h1
  by_cases c1 : n < 128
  ·go_enter Tryz.func157, Tryz.ntmps157
   go_wp2_with (go_at_call 170; refine hm.mono ?_; rintro e w' ⟨rfl, rfl⟩)
   go_ret
   exact form_post _ w _ _ _ (by unfold formL; rw [HA.out, formL_len1 n c1]) (by unfold formL; rw [HA.out]; exact fcells1 n c1 _ (by omega))
  have d1 : decide ((n : Int) < 128) = false := by simp; omega
  by_cases c2 : n < 2048
  ·have d2 : (n : Int) < 2048 := by omega
   have e3 := u8_or192 ((n : Int) / 64) (by omega) (by omega)
   go_enter Tryz.func157, Tryz.ntmps157
   go_wp2_with (first
    | (go_at_call 170; refine hm.mono ?_; rintro e w' ⟨rfl, rfl⟩)
    | (go_at_call 171; refine (tail_any _ (by omega) (by omega) w).mono ?_; rintro e w' ⟨rfl, rfl⟩))
   go_ret
   exact form_post _ w _ _ _ (by unfold formL; rw [HA.out, formL_len2 n (by omega) c2]) (by unfold formL; rw [HA.out]; exact fcells2 n (by omega) c2 _ _ (by omega) (by omega))
  have d2 : decide ((n : Int) < 2048) = false := by simp; omega
  by_cases c3 : n < 65536
  ·have d3 : (n : Int) < 65536 := by omega
   have e3 := u8_or224 ((n : Int) / 4096) (by omega) (by omega)
   go_enter Tryz.func157, Tryz.ntmps157
   go_wp2_with (first
    | (go_at_call 170; refine hm.mono ?_; rintro e w' ⟨rfl, rfl⟩)
    | (go_at_call 171; refine (tail_any _ (by omega) (by omega) w).mono ?_; rintro e w' ⟨rfl, rfl⟩))
   go_ret
   exact form_post _ w _ _ _ (by unfold formL; rw [HA.out, formL_len3 n (by omega) c3]) (by unfold formL; rw [HA.out]; exact fcells3 n (by omega) c3 _ _ _ (by omega) (by omega) (by omega))
  have d3 : decide ((n : Int) < 65536) = false := by simp; omega
  have e3 := u8_or240 ((n : Int) / 262144) (by omega) (by omega)
  go_enter Tryz.func157, Tryz.ntmps157
  go_wp2_with (first
   | (go_at_call 170; refine hm.mono ?_; rintro e w' ⟨rfl, rfl⟩)
   | (go_at_call 171; refine (tail_any _ (by omega) (by omega) w).mono ?_; rintro e w' ⟨rfl, rfl⟩))
  go_ret
  exact form_post _ w _ _ _ (by unfold formL; rw [HA.out, formL_len4 n (by omega)]) (by unfold formL; rw [HA.out]; exact fcells4 n (by omega) hn _ _ _ _ (by omega) (by omega) (by omega) (by omega))
end Go.Proofs.YtlolgfgcgfjdjaaGreatDoor

namespace Go.Proofs.YtlolgfgcgfjdjaaGreatDoor
open Go.RowKit
set_option linter.unusedVariables false
set_option linter.unusedSimpArgs false
set_option maxHeartbeats 400000
set_option maxRecDepth 100000
def inB (r a b : Int) : Bool := decide (a ≤ r) && decide (r ≤ b)
def wideT : List Int := [4352, 4447, 11904, 12350, 12353, 13311, 13312, 19903, 19968, 40959, 40960, 42191, 44032, 55203, 63744, 64255, 65072, 65135, 65280, 65376, 65504, 65510, 127744, 128591, 129280, 129535, 131072, 196605, 196608, 262141]
def wideB (r : Int) : Bool := (List.range 15).any fun k => inB r (wideT.getD (2 * k) 0) (wideT.getD (2 * k + 1) 0)
def zeroB (r : Int) : Bool := !mayR r || decide (r < 32) || inB r 127 159 || inB r 768 879 || inB r 8203 8207 || inB r 65024 65039
def widthL (r : Int) : Int := if zeroB r = true then 0 else if wideB r = true then 2 else 1
theorem below_drewW {B : Nat} {w w' : World} (h : Below B w w') (n : Nat) : Below B w (w'.drewN n) := ⟨h.os, h.tape, h.output, h.size, h.block⟩
end Go.Proofs.YtlolgfgcgfjdjaaGreatDoor

namespace Go.Proofs.YtlolgfgcgfjdjaaGreatDoor
open Go.RowKit
set_option linter.unusedVariables false
set_option linter.unusedSimpArgs false
set_option maxHeartbeats 1000000
set_option maxRecDepth 100000
def spanA : List Int := [0, 127, 768, 4352, 8203, 11904, 12353, 13312, 19968, 40960, 44032, 63744, 65024, 65072, 65280, 65504, 127744, 129280, 131072, 196608]
def spanZ : List Int := [31, 159, 879, 4447, 8207, 12350, 13311, 19903, 40959, 42191, 55203, 64255, 65039, 65135, 65376, 65510, 128591, 129535, 196605, 262141]
def spanC : List Int := [0, 0, 0, 2, 0, 2, 2, 2, 2, 2, 2, 2, 0, 2, 2, 2, 2, 2, 2, 2]
def spA (i : Nat) : Int := spanA.getD i 0
def spZ (i : Nat) : Int := spanZ.getD i 0
def spC (i : Nat) : Int := spanC.getD i 0
def Spans (w : World) : Prop := ∀ i, i < 20 → w.cell? ⟨0, i * 3, none⟩ = some (.int .i32 (spA i)) ∧ w.cell? ⟨0, i * 3 + 1, none⟩ = some (.int .i32 (spZ i)) ∧ w.cell? ⟨0, i * 3 + 2, none⟩ = some (.int .i64 (spC i))
theorem spans_order : (List.range 20).all (fun i => decide (spA i ≤ spZ i) && (List.range 20).all (fun j => decide (j ≤ i) || decide (spZ i < spA j))) = true := by decide
theorem span_le {i : Nat} (h : i < 20) : spA i ≤ spZ i := by
 have := List.all_eq_true.1 spans_order i (List.mem_range.2 h)
 simp only [Bool.and_eq_true, decide_eq_true_eq] at this
 exact this.1
theorem span_lt {i j : Nat} (hi : i < 20) (hj : j < 20) (h : i < j) : spZ i < spA j := by
 have := List.all_eq_true.1 spans_order i (List.mem_range.2 hi)
 simp only [Bool.and_eq_true, decide_eq_true_eq] at this
 have h2 := List.all_eq_true.1 this.2 j (List.mem_range.2 hj)
 simp only [Bool.or_eq_true, decide_eq_true_eq] at h2
 omega
theorem wideB_iff (r : Int) : wideB r = true ↔ ((4352 ≤ r ∧ r ≤ 4447) ∨ (11904 ≤ r ∧ r ≤ 12350) ∨ (12353 ≤ r ∧ r ≤ 13311) ∨ (13312 ≤ r ∧ r ≤ 19903) ∨ (19968 ≤ r ∧ r ≤ 40959) ∨ (40960 ≤ r ∧ r ≤ 42191) ∨ (44032 ≤ r ∧ r ≤ 55203) ∨ (63744 ≤ r ∧ r ≤ 64255) ∨ (65072 ≤ r ∧ r ≤ 65135) ∨ (65280 ≤ r ∧ r ≤ 65376) ∨ (65504 ≤ r ∧ r ≤ 65510) ∨ (127744 ≤ r ∧ r ≤ 128591) ∨ (129280 ≤ r ∧ r ≤ 129535) ∨ (131072 ≤ r ∧ r ≤ 196605) ∨ (196608 ≤ r ∧ r ≤ 262141)) := by
 unfold wideB
 rw [List.any_eq_true]
 constructor
 ·rintro ⟨k, hk, h⟩
  rw [List.mem_range] at hk
  have hk2 : k = 0 ∨ k = 1 ∨ k = 2 ∨ k = 3 ∨ k = 4 ∨ k = 5 ∨ k = 6 ∨ k = 7 ∨ k = 8 ∨ k = 9 ∨ k = 10 ∨ k = 11 ∨ k = 12 ∨ k = 13 ∨ k = 14 := by omega
  rcases hk2 with rfl | rfl | rfl | rfl | rfl | rfl | rfl | rfl | rfl | rfl | rfl | rfl | rfl | rfl | rfl <;> (simp [inB, wideT] at h; omega)
 ·intro h
  rcases h with h | h | h | h | h | h | h | h | h | h | h | h | h | h | h
  ·exact ⟨0, by simp, by simp [inB, wideT]; omega⟩
  ·exact ⟨1, by simp, by simp [inB, wideT]; omega⟩
  ·exact ⟨2, by simp, by simp [inB, wideT]; omega⟩
  ·exact ⟨3, by simp, by simp [inB, wideT]; omega⟩
  ·exact ⟨4, by simp, by simp [inB, wideT]; omega⟩
  ·exact ⟨5, by simp, by simp [inB, wideT]; omega⟩
  ·exact ⟨6, by simp, by simp [inB, wideT]; omega⟩
  ·exact ⟨7, by simp, by simp [inB, wideT]; omega⟩
  ·exact ⟨8, by simp, by simp [inB, wideT]; omega⟩
  ·exact ⟨9, by simp, by simp [inB, wideT]; omega⟩
  ·exact ⟨10, by simp, by simp [inB, wideT]; omega⟩
  ·exact ⟨11, by simp, by simp [inB, wideT]; omega⟩
  ·exact ⟨12, by simp, by simp [inB, wideT]; omega⟩
  ·exact ⟨13, by simp, by simp [inB, wideT]; omega⟩
  ·exact ⟨14, by simp, by simp [inB, wideT]; omega⟩
theorem mayR_iff (r : Int) : mayR r = true ↔ (0 ≤ r ∧ r ≤ 1114111 ∧ (r < 55296 ∨ 57343 < r)) := by
 simp [mayR, and_assoc]
theorem zeroB_iff (r : Int) : zeroB r = true ↔ (¬ (mayR r = true) ∨ r < 32 ∨ (127 ≤ r ∧ r ≤ 159) ∨ (768 ≤ r ∧ r ≤ 879) ∨ (8203 ≤ r ∧ r ≤ 8207) ∨ (65024 ≤ r ∧ r ≤ 65039)) := by
 unfold zeroB inB
 simp [or_assoc]
theorem width_of {r : Int} {i : Nat} (hi : i < 20) (h1 : spA i ≤ r) (h2 : r ≤ spZ i) : widthL r = spC i := by
 have hz := zeroB_iff r
 have hw := wideB_iff r
 have hm := mayR_iff r
 rw [hm] at hz
 have hi2 : i = 0 ∨ i = 1 ∨ i = 2 ∨ i = 3 ∨ i = 4 ∨ i = 5 ∨ i = 6 ∨ i = 7 ∨ i = 8 ∨ i = 9 ∨ i = 10 ∨ i = 11 ∨ i = 12 ∨ i = 13 ∨ i = 14 ∨ i = 15 ∨ i = 16 ∨ i = 17 ∨ i = 18 ∨ i = 19 := by omega
 unfold widthL
 rcases hi2 with rfl | rfl | rfl | rfl | rfl | rfl | rfl | rfl | rfl | rfl | rfl | rfl | rfl | rfl | rfl | rfl | rfl | rfl | rfl | rfl <;>
  (simp only [spA, spZ, spanA, spanZ, List.getD_cons_zero, List.getD_cons_succ] at h1 h2
   first
   | (rw [if_pos (hz.2 (by omega))]; rfl)
   | (rw [if_neg (fun e => by have := hz.1 e; omega), if_pos (hw.2 (by omega))]; rfl))
theorem width_none {r : Int} (h : ∀ i, i < 20 → ¬ (spA i ≤ r ∧ r ≤ spZ i)) : widthL r = if mayR r = true then 1 else 0 := by
 have hz := zeroB_iff r
 have hw := wideB_iff r
 have hm := mayR_iff r
 have e0 := h 0 (by omega)
 have e1 := h 1 (by omega)
 have e2 := h 2 (by omega)
 have e3 := h 3 (by omega)
 have e4 := h 4 (by omega)
 have e5 := h 5 (by omega)
 have e6 := h 6 (by omega)
 have e7 := h 7 (by omega)
 have e8 := h 8 (by omega)
 have e9 := h 9 (by omega)
 have e10 := h 10 (by omega)
 have e11 := h 11 (by omega)
 have e12 := h 12 (by omega)
 have e13 := h 13 (by omega)
 have e14 := h 14 (by omega)
 have e15 := h 15 (by omega)
 have e16 := h 16 (by omega)
 have e17 := h 17 (by omega)
 have e18 := h 18 (by omega)
 have e19 := h 19 (by omega)
 clear h
 simp only [spA, spZ, spanA, spanZ, List.getD_cons_zero, List.getD_cons_succ] at e0 e1 e2 e3 e4 e5 e6 e7 e8 e9 e10 e11 e12 e13 e14 e15 e16 e17 e18 e19
 unfold widthL
 by_cases hmm : mayR r = true
 ·rw [if_pos hmm]
  have hm2 := hm.1 hmm
  rw [if_neg (fun e => by rcases hz.1 e with h | h; exact h hmm; omega), if_neg (fun e => by have := hw.1 e; omega)]
 ·rw [if_neg hmm, if_pos (hz.2 (.inl hmm))]
theorem Spans.keep {w w' : World} (h : Spans w) (hk : ∀ p : Addr, p.block = 0 → w'.cell? p = w.cell? p) : Spans w' := fun i hi =>
 ⟨(hk _ rfl).trans (h i hi).1, (hk _ rfl).trans (h i hi).2.1, (hk _ rfl).trans (h i hi).2.2⟩
theorem Spans.below {w w' : World} {B : Nat} (h : Spans w) (hB : 0 < B) (hb : Below B w w') : Spans w' := h.keep (fun p hp => hb.cell (by rw [hp]; exact hB))
def LiRel (r : Int) (w : World) (lo hi : Value) (wr : World) : Prop :=
 ∃ a b : Nat, lo = .int .i64 (a : Int) ∧ hi = .int .i64 (b : Int) ∧ a ≤ b ∧ b ≤ 20 ∧ (∀ i, i < a → spZ i < r) ∧ (∀ i, b ≤ i → i < 20 → r < spA i) ∧ wr = w
def LiPost (r : Int) (w : World) (e : Ending) (w' : World) : Prop :=
 ((∃ i, i < 20 ∧ spA i ≤ r ∧ r ≤ spZ i ∧ e = .returned (.tuple #[.int .i64 (spC i), .bool true])) ∨ ((∀ i, i < 20 → ¬ (spA i ≤ r ∧ r ≤ spZ i)) ∧ e = .returned (.tuple #[.int .i64 0, .bool false]))) ∧ w = w'
theorem listed_any (r : Int) (w : World) (hs : Spans w) : Calls Tryz.prog 139 #[.int .i32 r] w (LiPost r w) := by
 have HS := Lib.hid hs
 clear hs
 go_enter Tryz.func139, Tryz.ntmps139
 go_wp2
 go_loopw [4, 5] (fun lo hi wr => LiRel r w lo hi wr) (fun lo hi _ => (intOf hi).toNat - (intOf lo).toNat)
 case atStart => exact ⟨0, 20, rfl, rfl, by omega, by omega, fun i h => absurd h (by omega), fun i h1 h2 => absurd h1 (by omega), rfl⟩
 case round =>
  obtain ⟨a, b, rfl, rfl, hab, hb, hl, hh, rfl⟩ := hrel
  have HL := Lib.hid hl
  have HH := Lib.hid hh
  clear hl hh
  by_cases hlt : a < b
  ·obtain ⟨m, hm⟩ : ∃ m : Nat, ((a : Int) + (b : Int)) / 2 = (m : Int) := ⟨(a + b) / 2, by omega⟩
   have hm1 : a ≤ m := by omega
   have hm2 : m < b := by omega
   have hm20 : m < 20 := by omega
   obtain ⟨c1, c2, c3⟩ := HS.out m hm20
   have hle := span_le hm20
   have hlti : (a : Int) < (b : Int) := by omega
   have hm20i : (m : Int) < 20 := by omega
   obtain ⟨X, hX⟩ : ∃ X, X = spA m := ⟨_, rfl⟩
   obtain ⟨Z, hZ⟩ : ∃ Z, Z = spZ m := ⟨_, rfl⟩
   obtain ⟨C, hC⟩ : ∃ C, C = spC m := ⟨_, rfl⟩
   rw [← hX] at c1 hle
   rw [← hZ] at c2 hle
   rw [← hC] at c3
   have HX := Lib.hid hX
   have HZ := Lib.hid hZ
   have HC := Lib.hid hC
   have HM := Lib.hid hm
   clear hX hZ hC
   by_cases h1 : r < X
   ·go_wp2
    go_roundw
    case rel =>
     refine ⟨a, m, rfl, by rw [HM.out], hm1, by omega, HL.out, fun i h1' h2' => ?_, rfl⟩
     rcases Nat.eq_or_lt_of_le h1' with e | e
     ·subst e; rw [← HX.out]; exact h1
     ·have := span_lt hm20 h2' e
      have := HX.out
      have := HZ.out
      omega
    case measure => simp [intOf]; omega
   ·have d1 : decide (r < X) = false := by simpa using h1
    by_cases h2 : Z < r
    ·go_wp2
     go_roundw
     case rel =>
      refine ⟨m + 1, b, by go_num, rfl, by omega, hb, fun i h1' => ?_, HH.out, rfl⟩
      rcases Nat.eq_or_lt_of_le (show i ≤ m by omega) with e | e
      ·subst e; rw [← HZ.out]; exact h2
      ·have := span_lt (show i < 20 by omega) hm20 e
       have := HX.out
       have := HZ.out
       omega
     case measure => simp [intOf]; omega
    ·have d2 : decide (Z < r) = false := by simpa using h2
     go_wp2
     go_ret2
     exact ⟨.inl ⟨m, hm20, by rw [← HX.out]; omega, by rw [← HZ.out]; omega, by rw [← HC.out]; rfl⟩, rfl⟩
  ·have hlti : decide ((a : Int) < (b : Int)) = false := by simp; omega
   go_wp2
   go_ret2
   refine ⟨.inr ⟨fun i hi ⟨h1, h2⟩ => ?_, rfl⟩, rfl⟩
   rcases Nat.lt_or_ge i a with h | h
   ·have := HL.out i h; omega
   ·have := HH.out i (by omega) hi; omega
theorem formN_inj {a b : Nat} (h1 : a < 1114112) (h2 : a < 55296 ∨ 57343 < a) (h3 : b < 1114112) (h4 : b < 55296 ∨ 57343 < b) (h : formN a = formN b) : a = b := by
 have e1 := formN_back a h1 h2 []
 have e2 := formN_back b h3 h4 []
 rw [h, e2] at e1
 simpa using e1.symm
theorem strM_eq (r : Int) (hr : r ≠ 65533) : ((strB (formL r)).toList == [239, 191, 189]) = !mayR r := by
 rw [strB_toList, show ([239, 191, 189] : List UInt8) = formN 65533 by decide]
 cases hm : mayR r with
 | true =>
  have hm2 := (mayR_iff r).1 hm
  have hok := asR_ok r
  rw [Bool.not_true, beq_eq_false_iff_ne]
  intro e
  unfold formL at e
  have := formN_inj hok.1 (by rcases hok.2 with h | h <;> omega) (by omega) (by omega) e
  rw [asR_may r hm] at this
  omega
 | false =>
  unfold formL
  rw [asR_not r hm]
  simp
theorem isrune_any (r : Int) (h0 : -2147483648 ≤ r) (h1 : r ≤ 2147483647) (w : World) : Calls Tryz.prog 140 #[.int .i32 r] w fun e w' => e = .returned (.bool (mayR r)) ∧ Below w.heap.size w w' := by
 by_cases hr : r = 65533
 ·subst hr
  go_enter Tryz.func140, Tryz.ntmps140
  go_wp2_with fail
  go_ret
  exact ⟨by rw [show mayR 65533 = true by decide]; rfl, Below.refl _ _⟩
 ·have d1 : (r == 65533) = false := by simpa using hr
  have e1 := strM_eq r hr
  go_enter Tryz.func140, Tryz.ntmps140
  go_wp2_with (go_at_call 157; refine (uput_any r h0 h1 _).mono ?_; rintro e w1 ⟨v1, rfl, hb1, b1⟩; obtain ⟨A1, k1, rfl, p1, q1, _⟩ := hb1.1.at_; have s1 := run_str hb1.1)
  go_ret
  exact ⟨by simp [e1], by assumption⟩
theorem wof_any (r : Int) (h0 : -2147483648 ≤ r) (h1 : r ≤ 2147483647) (w : World) (hs : Spans w) : Calls Tryz.prog 105 #[.int .i32 r] w fun e w' => e = .returned (.int .i64 (widthL r)) ∧ Below w.heap.size w w' := by
 have hl := listed_any r w hs
 have hr := isrune_any r h0 h1 w
 by_cases hex : ∃ i, i < 20 ∧ spA i ≤ r ∧ r ≤ spZ i
 ·have hl2 : Calls Tryz.prog 139 #[.int .i32 r] w fun e w' => e = .returned (.tuple #[.int .i64 (widthL r), .bool true]) ∧ w = w' := by
   refine hl.mono ?_
   rintro e w' ⟨⟨i, hi, a, b, rfl⟩ | ⟨hn, rfl⟩, rfl⟩
   ·exact ⟨by rw [width_of hi a b], rfl⟩
   ·obtain ⟨i, hi, a, b⟩ := hex
    exact absurd ⟨a, b⟩ (hn i hi)
  clear hl hr hex
  generalize widthL r = X at *
  go_enter Tryz.func105, Tryz.ntmps105
  go_wp2_with (refine hl2.mono ?_; rintro e w' ⟨rfl, rfl⟩)
  go_ret
  exact ⟨rfl, Below.refl _ _⟩
 ·have hn : ∀ i, i < 20 → ¬ (spA i ≤ r ∧ r ≤ spZ i) := fun i hi h => hex ⟨i, hi, h.1, h.2⟩
  have hl2 : Calls Tryz.prog 139 #[.int .i32 r] w fun e w' => e = .returned (.tuple #[.int .i64 0, .bool false]) ∧ w = w' := by
   refine hl.mono ?_
   rintro e w' ⟨⟨i, hi, a, b, rfl⟩ | ⟨hn, rfl⟩, rfl⟩
   ·exact absurd ⟨a, b⟩ (hn i hi)
   ·exact ⟨rfl, rfl⟩
  have hw := width_none hn
  rw [hw]
  clear hl hex hn hw
  cases hm : mayR r with
  | true =>
   rw [hm] at hr
   clear hm
   go_enter Tryz.func105, Tryz.ntmps105
   go_wp2_with (first
    | (go_at_call 139; refine hl2.mono ?_; rintro e w' ⟨rfl, rfl⟩)
    | (go_at_call 140; refine hr.mono ?_; rintro e w' ⟨rfl, hb⟩))
   go_ret
   exact ⟨rfl, hb⟩
  | false =>
   rw [hm] at hr
   clear hm
   go_enter Tryz.func105, Tryz.ntmps105
   go_wp2_with (first
    | (go_at_call 139; refine hl2.mono ?_; rintro e w' ⟨rfl, rfl⟩)
    | (go_at_call 140; refine hr.mono ?_; rintro e w' ⟨rfl, hb⟩))
   go_ret
   exact ⟨rfl, hb⟩
end Go.Proofs.YtlolgfgcgfjdjaaGreatDoor

namespace Go.Proofs.YtlolgfgcgfjdjaaGreatDoor
open Go.ChangeShapes Go.WideShapes Go.ChangeAt Go.RowKit
set_option linter.unusedVariables false
set_option linter.unusedSimpArgs false
set_option maxHeartbeats 400000
set_option maxRecDepth 100000
def laidW : List (String × DataW Unit) := [("reprise/width.spans", Rows.laid_reprise_width_spans)]
theorem gSpans : Tryz.prog.globalNamed "reprise/width.spans" = some 0 := by kernel_rfl
theorem tSpans : (Tryz.prog.globals[0]?).map (·.type) = some 136 := by kernel_rfl
theorem door_met (os : Os) (args : Array Value) : laidMetH Tryz.prog laidW ((World.doorLaid Tryz.prog 400 os).forCall (fun _ _ => 0) ⟨#[], args, []⟩).memory :=
 laidMetH_of_parts3 (fuel := 8) (laidMet_of_run' 8 (by kernel_rfl) (by kernel_rfl)) (by kernel_rfl) (by kernel_rfl)
def spanD (i : Nat) : DataW Unit := .agg [.lit (.int .i32 (spA i)), .lit (.int .i32 (spZ i)), .lit (.int .i64 (spC i))]
theorem spanD_all : (Rows.laid_reprise_width_spans : DataW Unit) = .agg ((List.range 20).map spanD) := by kernel_rfl
theorem ld_take {α : Type} {a : List α} {k : Nat} {v : α} (h : (a.drop k).take 1 = [v]) : a[k]? = some v := by
 have h1 : ((a.drop k).take 1)[0]? = some v := by rw [h]; rfl
 rw [List.getElem?_take_of_lt (by omega), List.getElem?_drop] at h1
 exact h1
theorem ld_three {α : Type} {l : List α} {i k : Nat} {v : α} (hk : k < 3) (h : (((l.drop (i * 3)).take 3).drop k).take 1 = [v]) : l[i * 3 + k]? = some v := by
 have h1 := ld_take h
 rw [List.getElem?_take_of_lt hk, List.getElem?_drop] at h1
 exact h1
theorem ld_lt {W : World} {p : Addr} {v : Value} (h : W.cell? p = some v) : p.block < W.heap.size := by
 rcases Nat.lt_or_ge p.block W.heap.size with c | c
 ·exact c
 ·unfold World.cell? at h
  rw [Array.getElem?_eq_none c] at h
  simp at h
theorem spans_of {W : World} (h : laidMetH Tryz.prog laidW W) : Spans W ∧ 0 < W.heap.size := by
 rw [MakeChecks.laidMetH_plain _ _ _ (by kernel_rfl)] at h
 obtain ⟨ps, ⟨g0, t0, cs0, f0, p0, q0, hg0, ht0, hv0, hd0, _, _⟩, _, _⟩ := h
 obtain rfl := Option.some.inj (gSpans.symm.trans hg0)
 obtain rfl := Option.some.inj (tSpans.symm.trans ht0)
 obtain ⟨xs, m, _, ex, hlen, hl, hel⟩ := DataW.trod_array Tryz.underlying136 hd0
 have c3 : Tryz.prog.cellsOf 135 = 3 := by kernel_rfl
 have i1 : Tryz.prog.cellsOf 21 = 1 := by kernel_rfl
 have i2 : Tryz.prog.cellsOf 3 = 1 := by kernel_rfl
 have hx : xs.map (·.1) = (List.range 20).map spanD := by
  have e := (Prod.mk.inj ex).1
  rw [spanD_all] at e
  exact (DataW.agg.inj e).symm
 have hs : Spans W := by
  intro i hi
  have hk := hel i hi
  rw [c3] at hk
  obtain ⟨x, hxi⟩ : ∃ x, xs[i]? = some x := ⟨_, List.getElem?_eq_getElem (by omega)⟩
  rw [hxi] at hk
  obtain ⟨y0, y1, y2, n, rfl, _, t0, t1, t2⟩ := Go.Deep.trod_struct3 Tryz.underlying135 hk
  have hd : DataW.agg [y0.1, y1.1, y2.1] = spanD i := by
   have h1 : (xs.map (·.1))[i]? = some (.agg [y0.1, y1.1, y2.1]) := by rw [List.getElem?_map, hxi]; rfl
   rw [hx, List.getElem?_map, List.getElem?_range hi] at h1
   exact (Option.some.inj h1).symm
  unfold spanD at hd
  simp only [DataW.agg.injEq, List.cons.injEq, and_true] at hd
  obtain ⟨d0, d1, d2⟩ := hd
  simp only [i1, i2] at t0 t1 t2
  obtain ⟨z0, a0, b0, _⟩ := DataW.trod_int Tryz.underlying21 t0
  obtain ⟨z1, a1, b1, _⟩ := DataW.trod_int Tryz.underlying21 t1
  obtain ⟨z2, a2, b2, _⟩ := DataW.trod_int Tryz.underlying3 t2
  have e0 : z0 = spA i := by rw [b0] at d0; simpa using d0
  have e1 : z1 = spZ i := by rw [b1] at d1; simpa using d1
  have e2 : z2 = spC i := by rw [b2] at d2; simpa using d2
  subst e0 e1 e2
  have hc : ∀ off, W.cell? ⟨0, off, none⟩ = cs0[off]? := fun off => World.var?_cell hg0 hv0 off
  obtain ⟨l⟩ := cs0
  refine ⟨?_, ?_, ?_⟩
  ·rw [hc]; have := ld_three (k := 0) (by omega) a0; simpa using this
  ·rw [hc]; have := ld_three (k := 1) (by omega) a1; simpa using this
  ·rw [hc]; have := ld_three (k := 2) (by omega) a2; simpa using this
 exact ⟨hs, ld_lt (hs 0 (by omega)).1⟩
end Go.Proofs.YtlolgfgcgfjdjaaGreatDoor

namespace Go.Proofs.YtlolgfgcgfjdjaaGreatDoor
set_option linter.unusedVariables false
set_option linter.unusedSimpArgs false
set_option maxHeartbeats 400000
set_option maxRecDepth 100000
structure Cl where
 r : Int
 a : Nat
 h : Nat
deriving DecidableEq
def blankC : Cl := ⟨32, 0, 0⟩
def fillL (l : List Cl) (f : Nat → Cl) (lo hi : Nat) : List Cl := l.mapIdx fun i c => if lo ≤ i ∧ i < hi then f i else c
theorem fillL_len (l : List Cl) (f : Nat → Cl) (lo hi : Nat) : (fillL l f lo hi).length = l.length := by simp [fillL]
theorem fillL_get (l : List Cl) (f : Nat → Cl) (lo hi i : Nat) : (fillL l f lo hi)[i]? = if i < l.length then (if lo ≤ i ∧ i < hi then some (f i) else l[i]?) else none := by
 unfold fillL
 rw [List.getElem?_mapIdx]
 by_cases hi2 : i < l.length
 ·rw [if_pos hi2, List.getElem?_eq_getElem hi2]
  simp only [Option.map_some]
  split <;> rfl
 ·rw [if_neg hi2, List.getElem?_eq_none (by omega)]
  rfl
theorem fillL_none (l : List Cl) (f : Nat → Cl) (lo hi : Nat) (h : hi ≤ lo) : fillL l f lo hi = l := by
 apply List.ext_getElem?
 intro i
 rw [fillL_get]
 split
 ·rw [if_neg (by omega)]
 ·rename_i hh; rw [List.getElem?_eq_none (by omega)]
theorem fillL_set (l : List Cl) (f : Nat → Cl) (lo m : Nat) (c : Cl) (h1 : lo ≤ m) (hc : c = f m) : (fillL l f lo m).set m c = fillL l f lo (m + 1) := by
 subst hc
 apply List.ext_getElem?
 intro i
 rw [List.getElem?_set, fillL_len, fillL_get, fillL_get]
 by_cases e : m = i
 ·subst e
  rw [if_pos rfl]
  by_cases hl : m < l.length
  ·rw [if_pos hl, if_pos hl, if_pos (by omega)]
  ·rw [if_neg hl, if_neg hl]
 ·rw [if_neg e]
  split
  ·by_cases hr : lo ≤ i ∧ i < m
   ·rw [if_pos hr, if_pos (by omega)]
   ·rw [if_neg hr, if_neg (by omega)]
  ·rfl
theorem fillL_skip (l : List Cl) (f : Nat → Cl) (lo m : Nat) (hc : l[m]? = some (f m)) : fillL l f lo m = fillL l f lo (m + 1) := by
 apply List.ext_getElem?
 intro i
 rw [fillL_get, fillL_get]
 split
 ·by_cases hr : lo ≤ i ∧ i < m
  ·rw [if_pos hr, if_pos (by omega)]
  ·by_cases hr2 : lo ≤ i ∧ i < m + 1
   ·have e : i = m := by omega
    rw [if_neg hr, if_pos hr2, e, hc]
   ·rw [if_neg hr, if_neg hr2]
 ·rfl
def gOk (n : Nat) (cols : Int) : Bool := decide (1 ≤ cols ∧ cols ≤ 1000 ∧ (n : Int) % cols = 0 ∧ 1 ≤ (n : Int) / cols ∧ (n : Int) / cols ≤ 1000)
structure GOk (n r c : Nat) : Prop where
 c1 : 1 ≤ c
 c2 : c ≤ 1000
 r1 : 1 ≤ r
 r2 : r ≤ 1000
 n : n = r * c
theorem GOk.quo {n r c : Nat} (h : GOk n r c) : (n : Int) / (c : Int) = r ∧ (n : Int) % (c : Int) = 0 := by
 have h1 := h.c1
 rw [h.n]
 constructor
 ·rw [Int.natCast_mul]
  exact Int.mul_ediv_cancel _ (by omega)
 ·rw [Int.natCast_mul]
  exact Int.mul_emod_left _ _
theorem GOk.ok {n r c : Nat} (h : GOk n r c) : gOk n (c : Int) = true := by
 have h1 := h.c1
 have h2 := h.c2
 have h3 := h.r1
 have h4 := h.r2
 unfold gOk
 rw [h.quo.1, h.quo.2]
 simp
 omega
theorem gOk_of {n : Nat} {cols : Int} (h : gOk n cols = true) : ∃ r c : Nat, cols = c ∧ GOk n r c := by
 unfold gOk at h
 simp only [decide_eq_true_eq] at h
 obtain ⟨h1, h2, h3, h4, h5⟩ := h
 refine ⟨((n : Int) / cols).toNat, cols.toNat, by omega, by omega, by omega, by omega, by omega, ?_⟩
 have e1 : ((((n : Int) / cols).toNat : Nat) : Int) = (n : Int) / cols := by omega
 have e2 : ((cols.toNat : Nat) : Int) = cols := by omega
 have := Int.mul_ediv_add_emod (n : Int) cols
 have h6 : ((((n : Int) / cols).toNat * cols.toNat : Nat) : Int) = (n : Int) := by
  rw [Int.natCast_mul, e1, e2, Int.mul_comm]
  omega
 omega
theorem rc_div (y c x : Nat) (h : x < c) : (y * c + x) / c = y ∧ (y * c + x) % c = x := by
 constructor
 ·rw [Nat.mul_comm, Nat.mul_add_div (by omega), Nat.div_eq_of_lt h, Nat.add_zero]
 ·rw [Nat.mul_comm, Nat.mul_add_mod, Nat.mod_eq_of_lt h]
theorem rc_lt {r c y x : Nat} (hy : y < r) (hx : x < c) : y * c + x < r * c := by
 have : (y + 1) * c ≤ r * c := Nat.mul_le_mul_right _ hy
 have e : (y + 1) * c = y * c + c := by rw [Nat.add_mul, Nat.one_mul]
 omega
theorem rc_le {r c : Nat} (hr : r ≤ 1000) (hc : c ≤ 1000) : r * c ≤ 1000000 := Nat.mul_le_mul hr hc
def getC (l : List Cl) (i : Nat) : Cl := l.getD i blankC
theorem getC_of {l : List Cl} {i : Nat} (h : i < l.length) : l[i]? = some (getC l i) := by
 unfold getC List.getD
 rw [List.getElem?_eq_getElem h]
 rfl
def capN (n : Int) : Nat := (min (max n 0) 1000).toNat
def upF (l : List Cl) (c : Nat) (bottom : Nat) (n : Nat) (i : Nat) : Cl := if i / c + n ≤ bottom then getC l (i + n * c) else blankC
def downF (l : List Cl) (c : Nat) (top : Nat) (n : Nat) (i : Nat) : Cl := if top + n ≤ i / c then getC l (i - n * c) else blankC
def upL (l : List Cl) (cols top bottom n : Int) : List Cl :=
 if gOk l.length cols = true ∧ 0 ≤ top ∧ bottom < (l.length : Int) / cols ∧ top ≤ bottom then fillL l (upF l cols.toNat bottom.toNat (capN n)) (top.toNat * cols.toNat) ((bottom.toNat + 1) * cols.toNat) else l
def downL (l : List Cl) (cols top bottom n : Int) : List Cl :=
 if gOk l.length cols = true ∧ 0 ≤ top ∧ bottom < (l.length : Int) / cols ∧ top ≤ bottom then fillL l (downF l cols.toNat top.toNat (capN n)) (top.toNat * cols.toNat) ((bottom.toNat + 1) * cols.toNat) else l
def gPlace (n : Nat) (cols y x : Int) : Bool := gOk n cols && decide (0 ≤ y ∧ y < (n : Int) / cols ∧ 0 ≤ x ∧ x ≤ cols)
def badH (l : List Cl) (c i x : Nat) : Bool :=
 decide ((getC l i).h = 1) && (decide (x + 1 = c) || decide ((getC l (i + 1)).h ≠ 2)) || decide ((getC l i).h = 2) && (decide (x = 0) || decide ((getC l (i - 1)).h ≠ 1))
def mendF (l : List Cl) (c : Nat) (i : Nat) : Cl := if badH l c i (i % c) = true then blankC else getC l i
def mendL (l : List Cl) (cols y : Int) : List Cl :=
 if gPlace l.length cols y 0 = true then fillL l (mendF l cols.toNat) (y.toNat * cols.toNat) (y.toNat * cols.toNat + cols.toNat) else l
def insF (l : List Cl) (i0 : Nat) (n : Nat) (i : Nat) : Cl := if i0 + n ≤ i then getC l (i - n) else blankC
def delF (l : List Cl) (e : Nat) (n : Nat) (i : Nat) : Cl := if i + n < e then getC l (i + n) else blankC
def insertL (l : List Cl) (cols y x n : Int) : List Cl :=
 if gPlace l.length cols y x = true then mendL (fillL l (insF l (y.toNat * cols.toNat + x.toNat) (capN n)) (y.toNat * cols.toNat + x.toNat) (y.toNat * cols.toNat + cols.toNat)) cols y else l
def deleteL (l : List Cl) (cols y x n : Int) : List Cl :=
 if gPlace l.length cols y x = true then mendL (fillL l (delF l (y.toNat * cols.toNat + cols.toNat) (capN n)) (y.toNat * cols.toNat + x.toNat) (y.toNat * cols.toNat + cols.toNat)) cols y else l
def capC (n cols : Int) : Nat := (min (max n 0) cols).toNat
def eraseL (l : List Cl) (cols y fr til : Int) : List Cl :=
 if gPlace l.length cols y 0 = true then mendL (fillL l (fun _ => blankC) (y.toNat * cols.toNat + capC fr cols) (y.toNat * cols.toNat + capC til cols)) cols y else l
def sizeOk (rows cols : Int) : Bool := decide (1 ≤ rows ∧ rows ≤ 1000 ∧ 1 ≤ cols ∧ cols ≤ 1000)
def blankL (rows cols : Int) : List Cl := if sizeOk rows cols = true then List.replicate (rows.toNat * cols.toNat) blankC else []
theorem mendL_len (l : List Cl) (cols y : Int) : (mendL l cols y).length = l.length := by
 unfold mendL
 split
 ·exact fillL_len _ _ _ _
 ·rfl
theorem upL_len (l : List Cl) (cols top bottom n : Int) : (upL l cols top bottom n).length = l.length := by
 unfold upL
 split
 ·exact fillL_len _ _ _ _
 ·rfl
theorem downL_len (l : List Cl) (cols top bottom n : Int) : (downL l cols top bottom n).length = l.length := by
 unfold downL
 split
 ·exact fillL_len _ _ _ _
 ·rfl
theorem insertL_len (l : List Cl) (cols y x n : Int) : (insertL l cols y x n).length = l.length := by
 unfold insertL
 split
 ·rw [mendL_len, fillL_len]
 ·rfl
theorem deleteL_len (l : List Cl) (cols y x n : Int) : (deleteL l cols y x n).length = l.length := by
 unfold deleteL
 split
 ·rw [mendL_len, fillL_len]
 ·rfl
theorem eraseL_len (l : List Cl) (cols y fr til : Int) : (eraseL l cols y fr til).length = l.length := by
 unfold eraseL
 split
 ·rw [mendL_len, fillL_len]
 ·rfl
theorem gPlace_of {n : Nat} {cols y x : Int} (h : gPlace n cols y x = true) : ∃ r c yy xx : Nat, cols = c ∧ y = yy ∧ x = xx ∧ GOk n r c ∧ yy < r ∧ xx ≤ c := by
 unfold gPlace at h
 rw [Bool.and_eq_true, decide_eq_true_eq] at h
 obtain ⟨h1, h2, h3, h4, h5⟩ := h
 obtain ⟨r, c, rfl, hG⟩ := gOk_of h1
 rw [hG.quo.1] at h3
 exact ⟨r, c, y.toNat, x.toNat, rfl, by omega, by omega, hG, by omega, by omega⟩
theorem gPlace_mk {n r c : Nat} {y x : Int} (h : GOk n r c) (h1 : 0 ≤ y) (h2 : y < r) (h3 : 0 ≤ x) (h4 : x ≤ c) : gPlace n (c : Int) y x = true := by
 unfold gPlace
 rw [h.ok, h.quo.1]
 simp [h1, h2, h3, h4]
end Go.Proofs.YtlolgfgcgfjdjaaGreatDoor

namespace Go.Proofs.YtlolgfgcgfjdjaaGreatDoor
set_option linter.unusedVariables false
set_option linter.unusedSimpArgs false
set_option maxHeartbeats 400000
set_option maxRecDepth 100000
structure Pr where
 mode : Nat
 priv : Nat
 params : List Int
 inter : List UInt8
 utf : List UInt8
structure Ac where
 kind : Nat
 r : Int
 b : Nat
 priv : Nat
 params : List Int
 inter : List UInt8
def prM (m : Nat) : Pr := ⟨m, 0, [], [], []⟩
def acP (r : Int) : Ac := ⟨0, r, 0, 0, [], []⟩
def acC (b : Nat) : Ac := ⟨1, 0, b, 0, [], []⟩
def acE (b : Nat) (i : List UInt8) : Ac := ⟨2, 0, b, 0, [], i⟩
def acS (p : Pr) (b : Nat) : Ac := ⟨3, 0, b, p.priv, p.params, p.inter⟩
def interB (b : UInt8) : Bool := decide (32 ≤ b.toNat) && decide (b.toNat ≤ 47)
def printsL (l : List Nat) : List Ac := l.map fun (r : Nat) => acP (Int.ofNat r)
def oneP (l : List Int) : List Int := if l.length = 0 then [0] else l
def digP (l : List Int) (b : Nat) : List Int := l.set (l.length - 1) (min (10 * l.getD (l.length - 1) 0 + ((b : Int) - 48)) 65535)
def csiL (p : Pr) (b : UInt8) : Pr × List Ac :=
 if 64 ≤ b.toNat then (prM 0, [acS p b.toNat])
 else if interB b = true then (if 2 ≤ p.inter.length then (prM 6, []) else ({ p with mode := 5, inter := p.inter ++ [b] }, []))
 else if p.mode = 5 ∨ b.toNat = 58 then (prM 6, [])
 else if 60 ≤ b.toNat then (if 0 < p.params.length ∨ p.priv ≠ 0 then (prM 6, []) else ({ p with priv := b.toNat }, []))
 else if b.toNat = 59 then (if 16 ≤ (oneP p.params).length then (prM 6, []) else ({ p with params := oneP p.params ++ [0] }, []))
 else ({ p with params := digP (oneP p.params) b.toNat }, [])
def vtM (p : Pr) (b : UInt8) : Pr × List Ac :=
 if p.mode = 1 then
  (if interB b = true then ({ prM 2 with inter := [b] }, [])
   else if b.toNat = 91 then (prM 4, [])
   else if b.toNat = 93 ∨ b.toNat = 80 ∨ b.toNat = 88 ∨ b.toNat = 94 ∨ b.toNat = 95 then (prM 7, [])
   else (prM 0, [acE b.toNat []]))
 else if p.mode = 2 then
  (if interB b = false then (prM 0, [acE b.toNat p.inter])
   else if 2 ≤ p.inter.length then (prM 3, [])
   else ({ prM 2 with inter := p.inter ++ [b] }, []))
 else if p.mode = 3 then (if 48 ≤ b.toNat then (prM 0, []) else (p, []))
 else if p.mode = 6 then (if 64 ≤ b.toNat then (prM 0, []) else (p, []))
 else csiL p b
def vtN (p : Pr) (b : UInt8) : Pr × List Ac :=
 if b.toNat = 24 ∨ b.toNat = 26 then (prM 0, [])
 else if b.toNat = 27 then (prM 1, [])
 else if p.mode = 0 then
  (if b.toNat < 32 then (prM 0, [acC b.toNat])
   else if b.toNat = 127 then (prM 0, [])
   else ({ prM 0 with utf := (stepL [] b).1 }, printsL (stepL [] b).2))
 else if p.mode = 7 then (if b.toNat = 7 then (prM 0, []) else (p, []))
 else if b.toNat < 32 then (p, [acC b.toNat])
 else if b.toNat = 127 then (p, [])
 else if 128 ≤ b.toNat then (prM 0, [])
 else vtM p b
def formedB (p : List UInt8) (b : UInt8) : Bool := p == [239, 191] && b == 189
def goesB (u : List UInt8) (b : UInt8) : Bool :=
 decide (128 ≤ b.toNat) && (decide ((stepL u b).2.length = 0) || decide ((stepL u b).2.getD 0 0 ≠ 65533) || (decide ((stepL u b).2.length = 1) && decide ((stepL u b).1.length = 0) && formedB u b))
def vtL (p : Pr) (b : UInt8) : Pr × List Ac :=
 if p.mode = 0 ∧ 0 < p.utf.length then
  (if goesB p.utf b = true then ({ prM 0 with utf := (stepL p.utf b).1 }, printsL (stepL p.utf b).2)
   else ((vtN { p with utf := [] } b).1, acP 65533 :: (vtN { p with utf := [] } b).2))
 else vtN p b
def vtAll (p : Pr) (l : List UInt8) : Pr × List Ac := l.foldl (fun s b => ((vtL s.1 b).1, s.2 ++ (vtL s.1 b).2)) (p, [])
structure PrOk (p : Pr) : Prop where
 mode : p.mode ≤ 7
 priv : p.priv = 0 ∨ (60 ≤ p.priv ∧ p.priv ≤ 63)
 params : p.params.length ≤ 16
 each : ∀ x ∈ p.params, 0 ≤ x ∧ x ≤ 65535
 inter : p.inter.length ≤ 2
 eachI : ∀ b ∈ p.inter, interB b = true
 utf : p.utf = [] ∨ (p.mode = 0 ∧ beginsL p.utf = true)
 csi : p.mode = 4 ∨ p.mode = 5 ∨ (p.priv = 0 ∧ p.params = [])
 with_ : (p.mode = 2 ∨ p.mode = 5) ↔ 0 < p.inter.length
theorem prM_ok (m : Nat) (h : m ≤ 7) (h2 : m ≠ 2) (h5 : m ≠ 5) : PrOk (prM m) := ⟨h, .inl rfl, by simp [prM], by simp [prM], by simp [prM], by simp [prM], .inl rfl, .inr (.inr ⟨rfl, rfl⟩), by simp [prM]; omega⟩
theorem oneP_len (l : List Int) : 1 ≤ (oneP l).length ∧ ((oneP l).length = l.length ∨ (l.length = 0 ∧ (oneP l).length = 1)) := by
 unfold oneP
 split
 ·rename_i h; simp [h]
 ·rename_i h; exact ⟨by omega, .inl rfl⟩
theorem oneP_each (l : List Int) (h : ∀ x ∈ l, 0 ≤ x ∧ x ≤ 65535) : ∀ x ∈ oneP l, 0 ≤ x ∧ x ≤ 65535 := by
 unfold oneP
 split
 ·simp
 ·exact h
theorem digP_len (l : List Int) (b : Nat) : (digP l b).length = l.length := by simp [digP]
theorem digP_each (l : List Int) (b : Nat) (hb : 48 ≤ b) (hl : 1 ≤ l.length) (h : ∀ x ∈ l, 0 ≤ x ∧ x ≤ 65535) : ∀ x ∈ digP l b, 0 ≤ x ∧ x ≤ 65535 := by
 intro x hx
 unfold digP at hx
 rcases List.mem_or_eq_of_mem_set hx with h1 | h1
 ·exact h x h1
 ·have hlt : l.length - 1 < l.length := by omega
  have hm : 0 ≤ l.getD (l.length - 1) 0 ∧ l.getD (l.length - 1) 0 ≤ 65535 := by
   have := h (l[l.length - 1]) (List.getElem_mem hlt)
   simpa [List.getD, List.getElem?_eq_getElem hlt] using this
  rw [h1]
  omega
theorem csiL_ok (p : Pr) (b : UInt8) (h : PrOk p) (hm : p.mode = 4 ∨ p.mode = 5) (hb : 32 ≤ b.toNat) : PrOk (csiL p b).1 := by
 have hi := h.with_
 unfold csiL
 split
 ·exact prM_ok 0 (by omega) (by omega) (by omega)
 split
 ·rename_i hB
  split
  ·exact prM_ok 6 (by omega) (by omega) (by omega)
  ·rename_i hl
   refine ⟨by show 5 ≤ 7; omega, h.priv, h.params, h.each, by show (p.inter ++ [b]).length ≤ 2; simp; omega, ?_, ?_, .inr (.inl rfl), ?_⟩
   ·intro c hc
    rcases List.mem_append.1 hc with h1 | h1
    ·exact h.eachI c h1
    ·rw [List.mem_singleton.1 h1]; exact hB
   ·rcases h.utf with hu | ⟨hu, _⟩
    ·exact .inl hu
    ·omega
   ·show ((5 : Nat) = 2 ∨ (5 : Nat) = 5) ↔ 0 < (p.inter ++ [b]).length
    simp
 rename_i hnb hB
 split
 ·exact prM_ok 6 (by omega) (by omega) (by omega)
 rename_i hm5
 have hm4 : p.mode = 4 := by omega
 have hu : p.utf = [] := by
  rcases h.utf with hu | ⟨hu, _⟩
  ·exact hu
  ·omega
 split
 ·split
  ·exact prM_ok 6 (by omega) (by omega) (by omega)
  ·rename_i h60 hp
   exact ⟨h.mode, .inr ⟨h60, by show b.toNat ≤ 63; omega⟩, h.params, h.each, h.inter, h.eachI, .inl hu, .inl hm4, h.with_⟩
 rename_i h60
 have hlen := oneP_len p.params
 have hpl := h.params
 split
 ·split
  ·exact prM_ok 6 (by omega) (by omega) (by omega)
  ·rename_i h59 h16
   refine ⟨h.mode, h.priv, by show (oneP p.params ++ [0]).length ≤ 16; simp; omega, ?_, h.inter, h.eachI, .inl hu, .inl hm4, h.with_⟩
   intro x hx
   rcases List.mem_append.1 hx with h1 | h1
   ·exact oneP_each _ h.each x h1
   ·rw [List.mem_singleton.1 h1]; omega
 ·rename_i h59
  have hn : 48 ≤ b.toNat := by
   rcases Nat.lt_or_ge b.toNat 48 with h1 | h1
   ·exact absurd (show interB b = true by simp [interB]; omega) hB
   ·exact h1
  exact ⟨h.mode, h.priv, by show (digP (oneP p.params) b.toNat).length ≤ 16; rw [digP_len]; omega, digP_each _ _ hn hlen.1 (oneP_each _ h.each), h.inter, h.eachI, .inl hu, .inl hm4, h.with_⟩
theorem utf_ok (u : List UInt8) (h : u = [] ∨ beginsL u = true) : PrOk { prM 0 with utf := u } :=
 ⟨by show (0 : Nat) ≤ 7; omega, .inl rfl, by simp [prM], by simp [prM], by simp [prM], by simp [prM], h.elim .inl (fun h => .inr ⟨rfl, h⟩), .inr (.inr ⟨rfl, rfl⟩), by simp [prM]⟩
theorem vtM_ok (p : Pr) (b : UInt8) (h : PrOk p) (h0 : p.mode ≠ 0) (h7 : p.mode ≠ 7) (hb : 32 ≤ b.toNat) : PrOk (vtM p b).1 := by
 have hi := h.with_
 have hmode := h.mode
 unfold vtM
 split
 ·split
  ·rename_i hB
   exact ⟨by show (2 : Nat) ≤ 7; omega, .inl rfl, by simp [prM], by simp [prM], by show [b].length ≤ 2; simp, by intro c hc; rw [List.mem_singleton.1 hc]; exact hB, .inl rfl, .inr (.inr ⟨rfl, rfl⟩), by show ((2 : Nat) = 2 ∨ (2 : Nat) = 5) ↔ 0 < [b].length; simp⟩
  split
  ·exact prM_ok 4 (by omega) (by omega) (by omega)
  split
  ·exact prM_ok 7 (by omega) (by omega) (by omega)
  ·exact prM_ok 0 (by omega) (by omega) (by omega)
 split
 ·split
  ·exact prM_ok 0 (by omega) (by omega) (by omega)
  split
  ·exact prM_ok 3 (by omega) (by omega) (by omega)
  ·rename_i hB hl
   have hB' : interB b = true := by cases hh : interB b <;> simp_all
   refine ⟨by show (2 : Nat) ≤ 7; omega, .inl rfl, by simp [prM], by simp [prM], by show (p.inter ++ [b]).length ≤ 2; simp; omega, ?_, .inl rfl, .inr (.inr ⟨rfl, rfl⟩), by show ((2 : Nat) = 2 ∨ (2 : Nat) = 5) ↔ 0 < (p.inter ++ [b]).length; simp⟩
   intro c hc
   rcases List.mem_append.1 hc with h1 | h1
   ·exact h.eachI c h1
   ·rw [List.mem_singleton.1 h1]; exact hB'
 split
 ·split
  ·exact prM_ok 0 (by omega) (by omega) (by omega)
  ·exact h
 split
 ·split
  ·exact prM_ok 0 (by omega) (by omega) (by omega)
  ·exact h
 ·exact csiL_ok p b h (by omega) (by omega)
theorem vtN_ok (p : Pr) (b : UInt8) (h : PrOk p) : PrOk (vtN p b).1 := by
 have hi := h.with_
 have hmode := h.mode
 unfold vtN
 split
 ·exact prM_ok 0 (by omega) (by omega) (by omega)
 split
 ·exact prM_ok 1 (by omega) (by omega) (by omega)
 split
 ·split
  ·exact prM_ok 0 (by omega) (by omega) (by omega)
  split
  ·exact prM_ok 0 (by omega) (by omega) (by omega)
  ·exact utf_ok _ (stepL_pend [] b)
 split
 ·split
  ·exact prM_ok 0 (by omega) (by omega) (by omega)
  ·exact h
 split
 ·exact h
 split
 ·exact h
 split
 ·exact prM_ok 0 (by omega) (by omega) (by omega)
 ·exact vtM_ok p b h (by omega) (by omega) (by omega)
theorem drop_ok (p : Pr) (h : PrOk p) : PrOk { p with utf := [] } := ⟨h.mode, h.priv, h.params, h.each, h.inter, h.eachI, .inl rfl, h.csi, h.with_⟩
theorem vtL_ok (p : Pr) (b : UInt8) (h : PrOk p) : PrOk (vtL p b).1 := by
 unfold vtL
 split
 ·split
  ·exact utf_ok _ (stepL_pend p.utf b)
  ·exact vtN_ok _ b (drop_ok p h)
 ·exact vtN_ok p b h
end Go.Proofs.YtlolgfgcgfjdjaaGreatDoor

namespace Go.Proofs.YtlolgfgcgfjdjaaGreatDoor
set_option linter.unusedVariables false
set_option linter.unusedSimpArgs false
set_option maxHeartbeats 400000
set_option maxRecDepth 100000
structure Sc where
 rows : Int
 cols : Int
 cells : List Cl
 y : Int
 x : Int
 wrap : Bool
 attr : Nat
 top : Int
 bottom : Int
 tabs : List Bool
 sy : Int
 sx : Int
 sattr : Nat
 auto : Bool
 shown : Bool
 alt : Bool
 other : List Cl
 oy : Int
 ox : Int
 p : Pr
def newTabs (cols : Nat) : List Bool := (List.range cols).map fun x => decide (x % 8 = 0)
def newS (rows cols : Int) : Sc := ⟨rows, cols, blankL rows cols, 0, 0, false, 0, 0, rows - 1, newTabs cols.toNat, 0, 0, 0, true, true, false, [], 0, 0, prM 0⟩
def downS (s : Sc) : Sc :=
 if s.y = s.bottom then { s with wrap := false, cells := upL s.cells s.cols s.top s.bottom 1 }
 else if s.y < s.rows - 1 then { s with wrap := false, y := s.y + 1 } else { s with wrap := false }
def crS (s : Sc) : Sc := { downS s with x := 0 }
def atS (s : Sc) : Nat := (s.y * s.cols + s.x).toNat
def cells1 (s : Sc) (r : Int) : List Cl := s.cells.set (atS s) ⟨r, s.attr, 0⟩
def cells2 (s : Sc) (r : Int) : List Cl := (s.cells.set (atS s) ⟨r, s.attr, 1⟩).set (atS s + 1) ⟨0, s.attr, 2⟩
def putS (s : Sc) (r : Int) (w : Int) : Sc :=
 if s.cols ≤ s.x + w then { s with cells := mendL (if w = 2 then cells2 s r else cells1 s r) s.cols s.y, x := s.cols - 1, wrap := s.auto }
 else { s with cells := mendL (if w = 2 then cells2 s r else cells1 s r) s.cols s.y, x := s.x + w }
def wrapS (s : Sc) : Sc := if s.wrap = true then crS s else s
def printS (s : Sc) (r : Int) : Sc :=
 if widthL r = 0 then s
 else if widthL r = 2 ∧ (wrapS s).x = (wrapS s).cols - 1 then
  (if (wrapS s).auto = false ∨ (wrapS s).cols = 1 then wrapS s else putS (crS (wrapS s)) r 2)
 else putS (wrapS s) r (widthL r)
def nextTab (tabs : List Bool) : Nat → Nat → Nat
 | 0, x => x
 | n + 1, x => if tabs.getD x true = true then x else nextTab tabs n (x + 1)
def tabX (s : Sc) : Int := min (nextTab s.tabs (s.cols - (s.x + 1)).toNat (s.x + 1).toNat : Int) (s.cols - 1)
def controlS (s : Sc) (b : Nat) : Sc :=
 if b = 8 then { s with x := max (s.x - 1) 0, wrap := false }
 else if b = 9 then { s with wrap := false, x := tabX s }
 else if b = 10 ∨ b = 11 ∨ b = 12 then downS s
 else if b = 13 then { s with x := 0, wrap := false }
 else s
def escapeS (s : Sc) (b : Nat) : Sc :=
 if b = 55 then { s with sy := s.y, sx := s.x, sattr := s.attr }
 else if b = 56 then { s with y := s.sy, x := s.sx, attr := s.sattr, wrap := false }
 else if b = 68 then downS s
 else if b = 69 then crS s
 else if b = 77 then
  (if s.y = s.top then { s with wrap := false, cells := downL s.cells s.cols s.top s.bottom 1 }
   else if 0 < s.y then { s with wrap := false, y := s.y - 1 } else { s with wrap := false })
 else if b = 72 then { s with tabs := s.tabs.set s.x.toNat true }
 else if b = 99 then newS s.rows s.cols
 else s
def modeS (s : Sc) (k : Int) (on : Bool) : Sc :=
 if k = 7 then { s with auto := on }
 else if k = 25 then { s with shown := on }
 else if k = 1049 ∧ on = true ∧ s.alt = false then { s with other := s.cells, oy := s.y, ox := s.x, alt := true, wrap := false, cells := blankL s.rows s.cols }
 else if k = 1049 ∧ on = false ∧ s.alt = true then { s with cells := s.other, y := s.oy, x := s.ox, alt := false, wrap := false, other := [], oy := 0, ox := 0 }
 else s
def paramL (l : List Int) (i : Nat) (usual : Int) : Int := if l.getD i 0 = 0 then usual else l.getD i 0
def toS (s : Sc) (y x : Int) : Sc := { s with y := min (max y 0) (s.rows - 1), x := min (max x 0) (s.cols - 1), wrap := false }
def lookN (a : Nat) (k : Int) : Nat :=
 if k = 0 then 0
 else if k = 1 then (if a % 2 = 0 then a + 1 else a)
 else if k = 4 then (if a / 2 % 2 = 0 then a + 2 else a)
 else if k = 7 then (if a / 4 % 2 = 0 then a + 4 else a)
 else if k = 22 then a - a % 2
 else if k = 24 then a - a / 2 % 2 * 2
 else if k = 27 then a - a / 4 % 2 * 4
 else if 30 ≤ k ∧ k ≤ 37 then a - a / 16 % 16 * 16 + (k - 29).toNat * 16
 else if k = 39 then a - a / 16 % 16 * 16
 else if 40 ≤ k ∧ k ≤ 47 then a - a / 256 % 16 * 256 + (k - 39).toNat * 256
 else if k = 49 then a - a / 256 % 16 * 256
 else a
def eraseS (s : Sc) (row : Bool) (k : Int) : Sc :=
 if 2 < k then { s with wrap := false }
 else { s with wrap := false, cells := mendL (fillL s.cells (fun _ => blankC)
   (if k = 0 then s.y * s.cols + s.x else if row = true then s.y * s.cols else 0).toNat
   (if k = 1 then s.y * s.cols + s.x + 1 else if row = true then (s.y + 1) * s.cols else s.cells.length).toNat) s.cols s.y }
def seqS (s : Sc) (b : Nat) (l : List Int) : Sc :=
 let n := paramL l 0 1
 let m := paramL l 1 1
 let k := paramL l 0 0
 if b = 65 then toS s (s.y - n) s.x
 else if b = 66 then toS s (s.y + n) s.x
 else if b = 67 then toS s s.y (s.x + n)
 else if b = 68 then toS s s.y (s.x - n)
 else if b = 71 ∨ b = 96 then toS s s.y (n - 1)
 else if b = 100 then toS s (n - 1) s.x
 else if b = 72 ∨ b = 102 then toS s (n - 1) (m - 1)
 else if b = 74 then eraseS s false k
 else if b = 75 then eraseS s true k
 else if b = 76 then (if s.top ≤ s.y ∧ s.y ≤ s.bottom then { s with wrap := false, x := 0, cells := downL s.cells s.cols s.y s.bottom n } else { s with wrap := false })
 else if b = 77 then (if s.top ≤ s.y ∧ s.y ≤ s.bottom then { s with wrap := false, x := 0, cells := upL s.cells s.cols s.y s.bottom n } else { s with wrap := false })
 else if b = 64 then { s with cells := insertL s.cells s.cols s.y s.x n, wrap := false }
 else if b = 80 then { s with cells := deleteL s.cells s.cols s.y s.x n, wrap := false }
 else if b = 88 then { s with cells := eraseL s.cells s.cols s.y s.x (s.x + n), wrap := false }
 else if b = 83 then { s with cells := upL s.cells s.cols s.top s.bottom n, wrap := false }
 else if b = 84 then { s with cells := downL s.cells s.cols s.top s.bottom n, wrap := false }
 else if b = 114 then
  (if n - 1 < min (paramL l 1 s.rows) s.rows - 1 then { toS s 0 0 with top := n - 1, bottom := min (paramL l 1 s.rows) s.rows - 1 } else s)
 else if b = 103 then (if k = 0 then { s with tabs := s.tabs.set s.x.toNat false } else if k = 3 then { s with tabs := List.replicate s.cols.toNat false } else s)
 else if b = 109 then { s with attr := if l.length = 0 then 0 else l.foldl lookN s.attr }
 else s
def doS (s : Sc) (a : Ac) : Sc :=
 if a.kind = 0 then printS s a.r
 else if a.kind = 1 then controlS s a.b
 else if a.kind = 2 then (if a.inter.length = 0 then escapeS s a.b else s)
 else if a.kind = 3 then
  (if 0 < a.inter.length then s
   else if a.priv = 63 ∧ (a.b = 104 ∨ a.b = 108) then a.params.foldl (fun s k => modeS s k (decide (a.b = 104))) s
   else if a.priv = 0 then seqS s a.b a.params else s)
 else s
def stepS (s : Sc) (b : UInt8) : Sc := { (vtL s.p b).2.foldl doS s with p := (vtL s.p b).1 }
def feedS (s : Sc) (l : List UInt8) : Sc := l.foldl stepS s
def attrB (a : Nat) : Bool := decide (a < 4096) && decide (a / 8 % 2 = 0) && decide (a / 16 % 16 ≤ 8) && decide (a / 256 % 16 ≤ 8)
def cellB (c : Cl) : Bool := mayR c.r && attrB c.a && decide (c.h ≤ 2) && (decide (c.r = 0) == decide (c.h = 2))
structure ScIn (s : Sc) (r c : Nat) : Prop where
 rows : s.rows = r
 cols : s.cols = c
 g : GOk s.cells.length r c
 cells : ∀ x ∈ s.cells, cellB x = true
 y0 : 0 ≤ s.y
 y1 : s.y < r
 x0 : 0 ≤ s.x
 x1 : s.x < c
 wrap : s.wrap = true → s.x = c - 1
 attr : attrB s.attr = true
 t0 : 0 ≤ s.top
 t1 : s.top ≤ s.bottom
 b1 : s.bottom < r
 tb : s.top < s.bottom ∨ r = 1
 tabs : s.tabs.length = c
 sy0 : 0 ≤ s.sy
 sy1 : s.sy < r
 sx0 : 0 ≤ s.sx
 sx1 : s.sx < c
 sattr : attrB s.sattr = true
 other : s.alt = true → (GOk s.other.length r c ∧ ∀ x ∈ s.other, cellB x = true)
 noAlt : s.alt = false → (s.other = [] ∧ s.oy = 0 ∧ s.ox = 0)
 oy0 : 0 ≤ s.oy
 oy1 : s.oy < r
 ox0 : 0 ≤ s.ox
 ox1 : s.ox < c
 p : PrOk s.p
end Go.Proofs.YtlolgfgcgfjdjaaGreatDoor

namespace Go.Proofs.YtlolgfgcgfjdjaaGreatDoor
open Go.RowKit
set_option linter.unusedVariables false
set_option linter.unusedSimpArgs false
set_option maxHeartbeats 400000
set_option maxRecDepth 100000
def vT (b : Bool) : Value := .bool b
def vTs (l : List Bool) : List Value := l.map vT
def OT (w : World) (base : Nat) (v : Value) (l : List Bool) : Prop := w.ownsRow base 4 1 v l.length (vTs l)
def TS (w : World) (B : Nat) (v : Value) (l : List Bool) : Prop :=
 ∃ A c, v = .slice A l.length c ∧ l.length ≤ c ∧ c ≤ maxLen ∧
  (0 < l.length → ∃ ad, A = some ad ∧ ad.block < B ∧ ∀ j b, l[j]? = some b → w.cell? (ad.add j) = some (vT b))
theorem vTs_one (l : List Bool) : ∀ u ∈ vTs l, u.oneCell' = true := by
 intro u hu
 unfold vTs at hu
 rw [List.mem_map] at hu
 obtain ⟨b, _, rfl⟩ := hu
 rfl
section
variable {w w' : World} {B B' base : Nat} {v : Value} {l : List Bool}
theorem TS.keep (h : TS w B v l) (hk : ∀ p : Addr, p.block < B → w'.cell? p = w.cell? p) : TS w' B v l := by
 obtain ⟨A, c, hv, h1, h2, h3⟩ := h
 refine ⟨A, c, hv, h1, h2, fun hl => ?_⟩
 obtain ⟨ad, hA, hb, hc⟩ := h3 hl
 exact ⟨ad, hA, hb, fun j b hj => (hk _ (by rw [block_add]; exact hb)).trans (hc j b hj)⟩
theorem TS.below (h : TS w B v l) (hb : Below B w w') : TS w' B v l := h.keep fun _ hp => hb.cell hp
theorem TS.more (h : TS w B v l) (hB : B ≤ B') : TS w B' v l := by
 obtain ⟨A, c, hv, h1, h2, h3⟩ := h
 refine ⟨A, c, hv, h1, h2, fun hl => ?_⟩
 obtain ⟨ad, hA, hb, hc⟩ := h3 hl
 exact ⟨ad, hA, by omega, hc⟩
theorem TS.alloc (h : TS w B v l) (hB : B ≤ w.heap.size) (o : Obj) : TS (w.alloc o) B v l := h.keep fun p hp => World.cell?_alloc_lt w o p (by omega)
theorem TS.nil (w : World) (B : Nat) : TS w B (.slice none 0 0) [] := ⟨none, 0, rfl, by simp, by simp [maxLen], fun h => absurd h (by simp)⟩
theorem TS.at_ (h : TS w B v l) : ∃ A c, v = .slice A l.length c ∧ l.length ≤ c ∧ c ≤ maxLen ∧
  ∀ k (hk : k < l.length), ∃ ad, A = some ad ∧ w.cell? (ad.add k) = some (vT (l[k]'hk)) := by
 obtain ⟨A, c, hv, h1, h2, h3⟩ := h
 refine ⟨A, c, hv, h1, h2, fun k hk => ?_⟩
 obtain ⟨ad, hA, _, hc⟩ := h3 (by omega)
 exact ⟨ad, hA, hc k _ (List.getElem?_eq_getElem hk)⟩
theorem OT.nil (w : World) (base : Nat) : OT w base (.slice none 0 0) [] := World.ownsRow_nil w base _ _
theorem OT.below (h : OT w base v l) (hb : Below w.heap.size w w') : OT w' base v l := by
 have hg : w.grownBy w' none := ⟨hb.os, hb.tape, hb.output, hb.size, fun i hi _ => hb.block i hi⟩
 unfold OT at h ⊢
 refine h.kept hg ?_
 cases hv : v.ownBlock with
 | none => exact Or.inl rfl
 | some k => exact Or.inr (by simp)
theorem OT.bs (h : OT w base v l) : TS w w.heap.size v l := by
 unfold OT at h
 rcases h.2 with ⟨rfl, hn⟩ | ⟨g, cap, cur, rfl, hbg, hg, hnc, hcm, hcs, htake⟩
 ·have : l = [] := List.eq_nil_of_length_eq_zero hn
  subst this
  exact TS.nil w _
 ·have hlt : g < w.heap.size := by
   rcases Nat.lt_or_ge g w.heap.size with hh | hh
   ·exact hh
   ·rw [Array.getElem?_eq_none hh] at hg; cases hg
  refine ⟨_, cap, rfl, hnc, hcm, fun _ => ⟨_, rfl, hlt, fun j b hj => ?_⟩⟩
  refine h.cells (g := g) rfl j (vT b) ?_
  unfold vTs
  rw [List.getElem?_map, hj]; rfl
end
theorem TS.cut {w : World} {B : Nat} {A : Option Addr} {n c : Nat} {l : List Bool} (h : TS w B (.slice A n c) l) (k m j : Nat) (hk : k + m ≤ l.length) (hj : j = m) :
  TS w B (.slice (if c = k then A else Option.map (fun x => x.add k) A) j (c - k)) ((l.drop k).take m) := by
 subst hj
 obtain ⟨A', c', hv, h1, h2, h3⟩ := h
 simp only [Value.slice.injEq] at hv
 obtain ⟨rfl, rfl, rfl⟩ := hv
 have hlen : ((l.drop k).take j).length = j := by simp; omega
 refine ⟨_, c - k, by rw [hlen], by rw [hlen]; omega, by omega, fun hl => ?_⟩
 rw [hlen] at hl
 obtain ⟨ad, rfl, hb, hc⟩ := h3 (by omega)
 rw [if_neg (by omega)]
 refine ⟨ad.add k, rfl, by rw [block_add]; exact hb, fun i b hi => ?_⟩
 rw [add_add]
 refine hc _ b ?_
 rw [List.getElem?_take] at hi
 split at hi
 ·rw [List.getElem?_drop] at hi; exact hi
 ·cases hi
theorem TS.cutH {w : World} {B : Nat} {A : Option Addr} {n c : Nat} {l : List Bool} (h : TS w B (.slice A n c) l) (m j : Nat) (hk : m ≤ l.length) (hj : j = m) :
  TS w B (.slice A j c) (l.take m) := by
 obtain ⟨A', c', hv, h1, h2, h3⟩ := h
 simp only [Value.slice.injEq] at hv
 obtain ⟨rfl, rfl, rfl⟩ := hv
 subst hj
 have hlen : (l.take j).length = j := by simp; omega
 refine ⟨A, c, by rw [hlen], by omega, h2, fun hl => ?_⟩
 rw [hlen] at hl
 obtain ⟨ad, rfl, hb, hc⟩ := h3 (by omega)
 refine ⟨ad, rfl, hb, fun i b hi => ?_⟩
 refine hc _ b ?_
 rw [List.getElem?_take] at hi
 split at hi
 ·exact hi
 ·cases hi
theorem TS.one (w : World) (b : Bool) (t : TypeId) : TS (w.alloc (.cells #[vT b] t)) (w.heap.size + 1) (.slice (some ⟨w.heap.size, 0, none⟩) 1 1) [b] := by
 refine ⟨_, 1, rfl, by simp, by simp [maxLen], fun _ => ⟨_, rfl, by simp, fun j c hj => ?_⟩⟩
 match j, hj with
 | 0, hj =>
  simp at hj
  subst hj
  simp [Addr.add]
theorem OT.alloc {w : World} {base : Nat} {v : Value} {l : List Bool} (h : OT w base v l) (o : Obj) : OT (w.alloc o) base v l := World.ownsRow.alloc h o
theorem TS.lit (w : World) (l : List Bool) (n : Nat) (cs : Array Value) (t : TypeId) (hn : n = l.length) (hcs : cs = (vTs l).toArray) (hm : l.length ≤ 1048576) :
  TS (w.alloc (.cells cs t)) (w.heap.size + 1) (.slice (some ⟨w.heap.size, 0, none⟩) n n) l := by
 subst hn
 subst hcs
 refine ⟨_, _, rfl, by simp, by simp [maxLen]; omega, fun _ => ⟨_, rfl, by simp, fun j b hj => ?_⟩⟩
 have h := World.news_of_block (heap_alloc_new w (.cells (vTs l).toArray t)) j (vT b)
 exact h (by simp [vTs, hj])
theorem TS.litM (w : World) (l : List Bool) (n : Nat) (cs : Array Value) (t : TypeId) (fr : Nat × Nat) (hn : n = l.length) (hcs : cs = (vTs l).toArray) (hm : l.length ≤ 1048576) :
  TS (w.alloc (.cells cs t fr)) (w.heap.size + 1) (.slice (some ⟨w.heap.size, 0, none⟩) n n) l := by
 subst hn
 subst hcs
 refine ⟨_, _, rfl, by simp, by simp [maxLen]; omega, fun _ => ⟨_, rfl, by simp, fun j b hj => ?_⟩⟩
 have h := World.news_of_block (heap_alloc_new w (.cells (vTs l).toArray t fr)) j (vT b)
 exact h (by simp [vTs, hj])
theorem boolInfo : (Tryz.prog.info? 4).map (fun i => (i.zero, i.size, i.bytes)) = some (some (.bool false), 1, 1) := by kernel_rfl
theorem run_appT (w : World) (ty : TypeId) {base B : Nat} {v u : Value} {l m : List Bool} (hown : OT w base v l) (hr : TS w B u m) (hlen : l.length + m.length ≤ 1099511627776) (hbase : base ≤ w.heap.size) :
  ∃ v' w', (Builtin.append_ #[26, 26] ty #[v, u]).run Tryz.prog w = .ok v' w' ∧ OT w' base v' (l ++ m) ∧ w.grownBy w' v.ownBlock ∧ Below base w w' ∧ (v'.ownBlock = v.ownBlock ∨ v'.ownBlock = some w.heap.size) := by
 obtain ⟨i0, hi0, hz0, hz1, hz2⟩ := info_parts boolInfo
 have hlt := World.ownsRow.lt hown
 have hfin : ∀ v' w', w'.ownsRow base 4 1 v' (l.length + m.length) (vTs l ++ vTs m) → OT w' base v' (l ++ m) := by
  intro v' w' h
  unfold OT vTs
  rw [List.length_append, List.map_append]
  exact h
 obtain ⟨A, c, rfl, h1, h2, h3⟩ := hr
 rcases Nat.eq_zero_or_pos m.length with h0 | h0
 ·have hm : m = [] := List.eq_nil_of_length_eq_zero h0
  subst hm
  refine ⟨v, w, ?_, by simpa using hown, World.grownBy.refl w _, Below.refl _ _, .inl rfl⟩
  rcases hown.2 with ⟨rfl, hn⟩ | ⟨g, cap, cur, rfl, _, _, hnc, _⟩
  ·cases A <;> simp [Builtin.append_, run_underlying Tryz.underlying26, sizeOf, typeInfo, hi0, Builtin.lenOf, Builtin.firstCells, loadCells, loadCellsFrom]
  ·cases A <;> simp [Builtin.append_, run_underlying Tryz.underlying26, sizeOf, typeInfo, hi0, Builtin.lenOf, Builtin.firstCells, hnc, storeCells, loadCells, loadCellsFrom]
 ·obtain ⟨ad, rfl, hb, hc⟩ := h3 h0
  obtain ⟨v', w', hrun, h4, h5, _, h6⟩ := run_append_own_at (P := Tryz.prog) w base 26 ty 4 i0 _ 1 1 Tryz.underlying26 hi0 hz0 hz1 hz2 rfl (by omega) v l.length (vTs l) hown ad m.length c (vTs m) (by simp [vTs])
   (fun j u hj => by
    unfold vTs at hj
    rw [List.getElem?_map] at hj
    cases hmj : m[j]? with
    | none => rw [hmj] at hj; cases hj
    | some b =>
     rw [hmj] at hj
     simp only [Option.map_some, Option.some.injEq] at hj
     subst hj
     exact hc j b hmj)
   (vTs_one m) (by simp only [maxLen]; omega) (by omega) hbase
  exact ⟨v', w', hrun, hfin v' w' h4, h5, (Below.refl _ _).grown h5 hbase (fun k hk => (hlt k hk).1), h6⟩
theorem wpl_appT (w : World) {ops : Array Oper} {rest : List Oper} {o : Oper} {a : Act} {Q : Exit → Act → World → Prop} (hgd : o.guard = none) (s x : Operand)
  (ho : o.op = .call { callee := .builtin .append, args := #[s, x], argTypes := #[26, 26] })
  (base B : Nat) (v u : Value) (l m : List Bool) (hs : a.eval s = v) (hx : a.eval x = u) (hown : OT w base v l) (hr : TS w B u m) (hlen : l.length + m.length ≤ 1099511627776) (hbase : base ≤ w.heap.size)
  (h : ∀ v' w', OT w' base v' (l ++ m) → w.grownBy w' v.ownBlock → Below base w w' → (v'.ownBlock = v.ownBlock ∨ v'.ownBlock = some w.heap.size) → wpList Tryz.prog ops Q rest (a.put o.dst v') w') :
  wpList Tryz.prog ops Q (o :: rest) a w := by
 refine wpList_plain hgd fun K hK => ?_
 obtain ⟨v', w', hrun, h2, h3, h4, h5⟩ := run_appT w o.type hown hr hlen hbase
 unfold Oper.wp execOp
 simp only [ho, resolve, invoke, builtin, Sem.run_bind, Sem.run_pure, Result.andThen_ok, List.map_toArray, List.map_cons, List.map_nil, hs, hx, hrun]
 exact hK _ _ (h v' w' h2 h3 h4 h5)
section
variable {w : World} {base g n cap : Nat} {l : List Bool}
theorem OT.len (h : OT w base (.slice (some ⟨g, 0, none⟩) n cap) l) : n = l.length := by
 unfold OT at h
 rcases h.2 with ⟨hv, _⟩ | ⟨g', cap', cur, hv, _⟩
 ·cases hv
 ·simp only [Value.slice.injEq] at hv
  exact hv.2.1
theorem OT.spot (h : OT w base (.slice (some ⟨g, 0, none⟩) n cap) l) (k : Nat) (hk : k < n) : ∃ x, w.cell? ⟨g, k, none⟩ = some x ∧ w.frozen? ⟨g, k, none⟩ = false := by
 obtain rfl := h.len
 unfold OT at h
 refine ⟨vT l[k], ?_, World.ownsRow.frozenAt h k⟩
 rw [World.ownsRow.cellAt h k (by omega)]
 simp [vTs, hk]
theorem OT.put (h : OT w base (.slice (some ⟨g, 0, none⟩) n cap) l) (k : Nat) (x : Bool) : OT (w.setCell ⟨g, k, none⟩ (.bool x)) base (.slice (some ⟨g, 0, none⟩) n cap) (l.set k x) := by
 obtain rfl := h.len
 have := (World.ownsRow.stored h k (vT x)).1
 unfold OT
 rw [List.length_set]
 have e : vTs (l.set k x) = (vTs l).set k (vT x) := by simp [vTs, List.map_set]
 rw [e]
 exact this
theorem OT.block (h : OT w base (.slice (some ⟨g, 0, none⟩) n cap) l) : base ≤ g ∧ g < w.heap.size := World.ownsRow.lt h g rfl
end
theorem OT.open_ {w : World} {base : Nat} {v : Value} {l : List Bool} (h : OT w base v l) (hl : 0 < l.length) : ∃ g cap, v = .slice (some ⟨g, 0, none⟩) l.length cap ∧ base ≤ g ∧ g < w.heap.size ∧ l.length ≤ cap ∧ cap ≤ 9223372036854775807 := by
 have hh := h
 unfold OT at h
 rcases h.2 with ⟨rfl, hn⟩ | ⟨g, cap, cur, rfl, hbg, hg, hnc, hcm, hcs, htake⟩
 ·omega
 ·unfold maxLen at hcm
  exact ⟨g, cap, rfl, hbg, (World.ownsRow.lt hh g rfl).2, hnc, by omega⟩
theorem madeT (n : Nat) : madeCells #[.bool false] n = (vTs (List.replicate n false)).toArray := by
 apply Array.ext_getElem?
 intro i
 simp only [madeCells, vTs, List.map_replicate, List.getElem?_toArray, Array.getElem?_map]
 by_cases h : i < n
 ·simp [h, vT, Nat.mod_one]
 ·simp [h]
theorem OT.made (w : World) (n : Nat) (hm : n ≤ 1048576) : OT (w.alloc (.cells (madeCells #[.bool false] n) 4)) w.heap.size (.slice (some ⟨w.heap.size, 0, none⟩) n n) (List.replicate n false) := by
 have := World.ownsRow_lit (base := w.heap.size) (e := 4) (size := 1) w (madeCells #[.bool false] n) n (Nat.le_refl _) (by simp [maxLen]; omega) (by rw [size_madeCells]; omega)
 unfold OT
 rw [List.length_replicate]
 rw [madeT] at this ⊢
 exact this
theorem run_makeT (n : Nat) (hn : n ≤ 1048576) (w : World) :
  (Instr.makeSlice 26 (.int .i64 (n : Int)) (.int .i64 (n : Int))).run Tryz.prog w = .ok (.slice (some ⟨w.heap.size, 0, none⟩) n n) (w.alloc (.cells (madeCells #[.bool false] n) 4)) :=
 run_make_row' 26 4 (.bool false) 1 Tryz.underlying26 boolInfo rfl .i64 .i64 n (by omega) (by omega) w
end Go.Proofs.YtlolgfgcgfjdjaaGreatDoor
