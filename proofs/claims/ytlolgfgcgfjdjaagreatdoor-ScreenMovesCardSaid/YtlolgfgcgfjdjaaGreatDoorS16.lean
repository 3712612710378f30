/- What is proved here: contracts of the program's words on which cells may be: of a rune, of attributes, of a cell; contracts of the landed screen's isSize, isPlace, isRegion, rightRegion, rightAttr: at any screen at all; the contract of the landed screen's region: which rows scroll; contracts of the landed screen's withColour, lookBehind, look; the contract of the landed screen's usual: a control sequence that is not private; contracts of the landed screen's usual, way by way. -/
import Derived.Test.YtlolgfgcgfjdjaaGreatDoorS15
import Derived.Test.YtlolgfgcgfjdjaaGreatDoorS12
import Derived.Test.YtlolgfgcgfjdjaaGreatDoorS14
import Derived.Test.YtlolgfgcgfjdjaaGreatDoorS9
import Derived.Test.YtlolgfgcgfjdjaaGreatDoorS13
namespace Go.Proofs.YtlolgfgcgfjdjaaGreatDoor
open Go.RowKit
set_option linter.unusedVariables false
set_option linter.unusedSimpArgs false
set_option maxHeartbeats 1000000
set_option maxRecDepth 100000
theorem rrune_any (r : Int) (h0 : -2147483648 ≤ r) (h1 : r ≤ 2147483647) (w : World) : Calls Tryz.prog 92 #[.int .i32 r] w fun e w' => e = .returned (.bool (mayR r)) ∧ w = w' := by
 by_cases a1 : 0 ≤ r
 ·by_cases a2 : r ≤ 1114111
  ·by_cases a3 : r < 55296
   ·rw [mayR_true a1 a2 (.inl a3)]
    go_enter Tryz.func92, Tryz.ntmps92
    go_wp2
    go_ret
    exact ⟨rfl, rfl⟩
   ·have d3 : decide (r < 55296) = false := by simp; omega
    by_cases a4 : 57343 < r
    ·rw [mayR_true a1 a2 (.inr a4)]
     go_enter Tryz.func92, Tryz.ntmps92
     go_wp2
     go_ret
     exact ⟨rfl, rfl⟩
    ·have d4 : decide (57343 < r) = false := by simp; omega
     rw [mayR_false (.inr (.inr ⟨by omega, by omega⟩))]
     go_enter Tryz.func92, Tryz.ntmps92
     go_wp2
     go_ret
     exact ⟨rfl, rfl⟩
  ·have d2 : decide (r ≤ 1114111) = false := by simp; omega
   rw [mayR_false (.inr (.inl (by omega)))]
   go_enter Tryz.func92, Tryz.ntmps92
   go_wp2
   go_ret
   exact ⟨rfl, rfl⟩
 ·have d1 : decide (0 ≤ r) = false := by simp; omega
  rw [mayR_false (.inl (by omega))]
  go_enter Tryz.func92, Tryz.ntmps92
  go_wp2
  go_ret
  exact ⟨rfl, rfl⟩
theorem rattr_any (a : Nat) (w : World) : Calls Tryz.prog 93 #[.int .u16 (a : Int)] w fun e w' => e = .returned (.bool (attrB a)) ∧ w = w' := by
 by_cases ha : a < 4096
 ·have hai : (a : Int) < 4096 := by omega
  have h8 := eq_of_beq (andU andT8 a ha)
  have h4 := eq_of_beq (andU andT4 a ha)
  have h2 := eq_of_beq (andU andT2 a ha)
  by_cases b1 : a / 8 % 2 = 0
  ·rw [show (a / 8 % 2 * 8 : Nat) = 0 by omega] at h8
   by_cases b2 : a / 16 % 16 ≤ 8
   ·have b2' : decide (((a / 16 % 16 : Nat) : Int) ≤ 8) = true := by simp; omega
    by_cases b3 : a / 256 % 16 ≤ 8
    ·have b3' : decide (((a / 256 % 16 : Nat) : Int) ≤ 8) = true := by simp; omega
     rw [show attrB a = true by simp [attrB, ha, b1, b2, b3]]
     generalize ((a / 16 % 16 : Nat) : Int) = x4 at *
     generalize ((a / 256 % 16 : Nat) : Int) = x2 at *
     clear b1 b2 b3
     go_enter Tryz.func93, Tryz.ntmps93
     go_wp2
     go_ret
     exact ⟨rfl, rfl⟩
    ·have b3' : decide (((a / 256 % 16 : Nat) : Int) ≤ 8) = false := by simp; omega
     rw [show attrB a = false by simp [attrB]; omega]
     generalize ((a / 16 % 16 : Nat) : Int) = x4 at *
     generalize ((a / 256 % 16 : Nat) : Int) = x2 at *
     clear b1 b2 b3
     go_enter Tryz.func93, Tryz.ntmps93
     go_wp2
     go_ret
     exact ⟨rfl, rfl⟩
   ·have b2' : decide (((a / 16 % 16 : Nat) : Int) ≤ 8) = false := by simp; omega
    rw [show attrB a = false by simp [attrB]; omega]
    generalize ((a / 16 % 16 : Nat) : Int) = x4 at *
    clear b1 b2
    go_enter Tryz.func93, Tryz.ntmps93
    go_wp2
    go_ret
    exact ⟨rfl, rfl⟩
  ·rw [show (a / 8 % 2 * 8 : Nat) = 8 by omega] at h8
   rw [show attrB a = false by simp [attrB]; omega]
   clear b1
   go_enter Tryz.func93, Tryz.ntmps93
   go_wp2
   go_ret
   exact ⟨rfl, rfl⟩
 ·have hai : decide ((a : Int) < 4096) = false := by simp; omega
  rw [show attrB a = false by simp [attrB, ha]]
  go_enter Tryz.func93, Tryz.ntmps93
  go_wp2
  go_ret
  exact ⟨rfl, rfl⟩
theorem right_fit (c : Cl) (r0 : -2147483648 ≤ c.r) (r1 : c.r ≤ 2147483647) (hh : c.h < 256) (w : World) : Calls Tryz.prog 56 #[aC c] w fun e w' => e = .returned (.bool (cellB c)) ∧ Below w.heap.size w w' := by
 unfold aC
 have hr (w : World) := rrune_any c.r r0 r1 w
 have ht (w : World) := rattr_any c.a w
 cases hm : mayR c.r with
 | false =>
  rw [show cellB c = false by simp [cellB, hm]]
  rw [hm] at hr
  go_enter Tryz.func56, Tryz.ntmps56
  go_wp2_with (first | (go_at_call 92; refine (hr _).mono ?_; rintro e w' ⟨rfl, rfl⟩))
  go_ret
  exact ⟨rfl, (Below.refl _ _).alloc (Nat.le_refl _) _⟩
 | true =>
  rw [hm] at hr
  cases ht2 : attrB c.a with
  | false =>
   rw [show cellB c = false by simp [cellB, hm, ht2]]
   rw [ht2] at ht
   go_enter Tryz.func56, Tryz.ntmps56
   go_wp2_with (first | (go_at_call 92; refine (hr _).mono ?_; rintro e w' ⟨rfl, rfl⟩) | (go_at_call 93; refine (ht _).mono ?_; rintro e w' ⟨rfl, rfl⟩))
   go_ret
   exact ⟨rfl, (Below.refl _ _).alloc (Nat.le_refl _) _⟩
  | true =>
   rw [ht2] at ht
   have hX : cellB c = (decide (c.h ≤ 2) && (decide (c.r = 0) == decide (c.h = 2))) := by simp [cellB, hm, ht2]
   rw [hX]
   clear hX
   go_enter Tryz.func56, Tryz.ntmps56
   go_wp2_with (first | (go_at_call 92; refine (hr _).mono ?_; rintro e w' ⟨rfl, rfl⟩) | (go_at_call 93; refine (ht _).mono ?_; rintro e w' ⟨rfl, rfl⟩))
   all_goals
    go_ret
    refine ⟨congrArg (fun b => Ending.returned (.bool b)) ?_, (Below.refl _ _).alloc (Nat.le_refl _) _⟩
    rw [Bool.eq_iff_iff]
    simp
    first | omega | (rw [Bool.eq_iff_iff, beq_iff_eq, beq_iff_eq]; omega)
end Go.Proofs.YtlolgfgcgfjdjaaGreatDoor

namespace Go.Proofs.YtlolgfgcgfjdjaaGreatDoor
open Go.RowKit
set_option linter.unusedVariables false
set_option linter.unusedSimpArgs false
set_option maxHeartbeats 2000000
set_option maxRecDepth 100000
theorem pisRegion_any (m : Int) (s : Sc) (A1 A2 A3 A4 A5 A6 : Option Addr) (n1 n2 n3 n4 n5 n6 k1 k2 k3 k4 k5 k6 : Nat) (a b : Int) (w : World) : Calls Tryz.prog 57 #[.agg (vRaw m s (.slice A1 n1 k1) (.slice A2 n2 k2) (.slice A3 n3 k3) (.slice A4 n4 k4) (.slice A5 n5 k5) (.slice A6 n6 k6)), .int .i64 a, .int .i64 b] w fun e w' => e = .returned (.bool (decide (0 ≤ a ∧ a < b ∧ b < s.rows))) ∧ Below w.heap.size w w' := by
 by_cases h0 : 0 ≤ a
 ·by_cases h1 : a < b
  ·by_cases h2 : b < s.rows
   ·rw [decide_eq_true ⟨h0, h1, h2⟩]
    go_enter Tryz.func57, Tryz.ntmps57
    go_wp2
    go_ret
    exact ⟨rfl, (Below.refl _ _).alloc (Nat.le_refl _) _⟩
   ·rw [decide_eq_false (fun h => h2 h.2.2)]
    go_enter Tryz.func57, Tryz.ntmps57
    go_wp2
    go_ret
    exact ⟨rfl, (Below.refl _ _).alloc (Nat.le_refl _) _⟩
  ·rw [decide_eq_false (fun h => h1 h.2.1)]
   go_enter Tryz.func57, Tryz.ntmps57
   go_wp2
   go_ret
   exact ⟨rfl, (Below.refl _ _).alloc (Nat.le_refl _) _⟩
 ·rw [decide_eq_false (fun h => h0 h.1)]
  go_enter Tryz.func57, Tryz.ntmps57
  go_wp2
  go_ret
  exact ⟨rfl, (Below.refl _ _).alloc (Nat.le_refl _) _⟩
theorem pisPlace_any (m : Int) (s : Sc) (A1 A2 A3 A4 A5 A6 : Option Addr) (n1 n2 n3 n4 n5 n6 k1 k2 k3 k4 k5 k6 : Nat) (y x : Int) (w : World) : Calls Tryz.prog 32 #[.agg (vRaw m s (.slice A1 n1 k1) (.slice A2 n2 k2) (.slice A3 n3 k3) (.slice A4 n4 k4) (.slice A5 n5 k5) (.slice A6 n6 k6)), .int .i64 y, .int .i64 x] w fun e w' => e = .returned (.bool (decide (0 ≤ y ∧ y < s.rows ∧ 0 ≤ x ∧ x < s.cols))) ∧ Below w.heap.size w w' := by
 by_cases h0 : 0 ≤ y
 ·by_cases h1 : y < s.rows
  ·by_cases h2 : 0 ≤ x
   ·by_cases h3 : x < s.cols
    ·rw [decide_eq_true ⟨h0, h1, h2, h3⟩]
     go_enter Tryz.func32, Tryz.ntmps32
     go_wp2
     go_ret
     exact ⟨rfl, (Below.refl _ _).alloc (Nat.le_refl _) _⟩
    ·rw [decide_eq_false (fun h => h3 h.2.2.2)]
     go_enter Tryz.func32, Tryz.ntmps32
     go_wp2
     go_ret
     exact ⟨rfl, (Below.refl _ _).alloc (Nat.le_refl _) _⟩
   ·rw [decide_eq_false (fun h => h2 h.2.2.1)]
    go_enter Tryz.func32, Tryz.ntmps32
    go_wp2
    go_ret
    exact ⟨rfl, (Below.refl _ _).alloc (Nat.le_refl _) _⟩
  ·rw [decide_eq_false (fun h => h1 h.2.1)]
   go_enter Tryz.func32, Tryz.ntmps32
   go_wp2
   go_ret
   exact ⟨rfl, (Below.refl _ _).alloc (Nat.le_refl _) _⟩
 ·rw [decide_eq_false (fun h => h0 h.1)]
  go_enter Tryz.func32, Tryz.ntmps32
  go_wp2
  go_ret
  exact ⟨rfl, (Below.refl _ _).alloc (Nat.le_refl _) _⟩
theorem prightAttr_any (a : Nat) (w : World) : Calls Tryz.prog 33 #[.int .u16 (a : Int)] w fun e w' => e = .returned (.bool (attrB a)) ∧ Below w.heap.size w w' := by
 have h := fun W => right_fit ⟨32, a, 0⟩ (by show (-2147483648 : Int) ≤ 32; omega) (by show (32 : Int) ≤ 2147483647; omega) (by show 0 < 256; omega) W
 rw [show cellB ⟨32, a, 0⟩ = attrB a by
  have e : mayR 32 = true := by decide
  unfold cellB
  rw [e]
  simp] at h
 have H := Lib.hid h
 clear h
 go_enter Tryz.func33, Tryz.ntmps33
 go_wp2_with (refine (H.out _).mono ?_; rintro e w4 ⟨rfl, b4⟩)
 go_ret
 exact ⟨rfl, b4⟩
theorem prightRegion_any (m : Int) (s : Sc) (A1 A2 A3 A4 A5 A6 : Option Addr) (n1 n2 n3 n4 n5 n6 k1 k2 k3 k4 k5 k6 : Nat) (w : World) : Calls Tryz.prog 34 #[.agg (vRaw m s (.slice A1 n1 k1) (.slice A2 n2 k2) (.slice A3 n3 k3) (.slice A4 n4 k4) (.slice A5 n5 k5) (.slice A6 n6 k6))] w fun e w' => (∃ b, e = .returned (.bool b) ∧ (b = true ↔ (s.rows = 1 ∧ s.top = 0 ∧ s.bottom = 0) ∨ (s.rows ≠ 1 ∧ 0 ≤ s.top ∧ s.top < s.bottom ∧ s.bottom < s.rows))) ∧ Below w.heap.size w w' := by
 by_cases h1 : s.rows = 1
 ·have e1 : (s.rows == 1) = true := by simpa using h1
  have HH1 := Lib.hid h1
  clear h1
  by_cases h2 : s.top = 0
  ·have e2 : (s.top == 0) = true := by simpa using h2
   have HH2 := Lib.hid h2
   clear h2
   by_cases h3 : s.bottom = 0
   ·have e3 : (s.bottom == 0) = true := by simpa using h3
    have HH3 := Lib.hid h3
    clear h3
    go_enter Tryz.func34, Tryz.ntmps34
    go_wp2
    go_ret
    exact ⟨⟨_, rfl, by simp [HH1.out, HH2.out, HH3.out]⟩, (Below.refl _ _).alloc (Nat.le_refl _) _⟩
   ·have e3 : (s.bottom == 0) = false := by simpa using h3
    have HH3 := Lib.hid h3
    clear h3
    go_enter Tryz.func34, Tryz.ntmps34
    go_wp2
    go_ret
    exact ⟨⟨_, rfl, by simp [HH1.out, HH2.out, HH3.out]⟩, (Below.refl _ _).alloc (Nat.le_refl _) _⟩
  ·have e2 : (s.top == 0) = false := by simpa using h2
   have HH2 := Lib.hid h2
   clear h2
   go_enter Tryz.func34, Tryz.ntmps34
   go_wp2
   go_ret
   exact ⟨⟨_, rfl, by simp [HH1.out, HH2.out]⟩, (Below.refl _ _).alloc (Nat.le_refl _) _⟩
 ·have e1 : (s.rows == 1) = false := by simpa using h1
  have HH1 := Lib.hid h1
  have K0 := Lib.hid (heap_alloc_new w (.cells (vRaw m s (.slice A1 n1 k1) (.slice A2 n2 k2) (.slice A3 n3 k3) (.slice A4 n4 k4) (.slice A5 n5 k5) (.slice A6 n6 k6)) 31))
  have HC := Lib.hid (fun W => pisRegion_any m s A1 A2 A3 A4 A5 A6 n1 n2 n3 n4 n5 n6 k1 k2 k3 k4 k5 k6 s.top s.bottom W)
  clear h1
  go_enter Tryz.func34, Tryz.ntmps34
  go_upto_region 3 with fail
  refine wp_region_lit ?_
  refine wpl_loadS rfl (.tmp 1) rfl rfl K0.out rfl ?_
  go_wp2_with (refine (HC.out _).mono ?_; rintro e w4 ⟨rfl, b4⟩)
  go_ret
  exact ⟨⟨_, rfl, by simp [HH1.out]⟩, ((Below.refl _ _).alloc (Nat.le_refl _) _).trans (b4.mono (by simp))⟩
end Go.Proofs.YtlolgfgcgfjdjaaGreatDoor

namespace Go.Proofs.YtlolgfgcgfjdjaaGreatDoor
open Go.RowKit
set_option linter.unusedVariables false
set_option linter.unusedSimpArgs false
set_option maxHeartbeats 2000000
set_option maxRecDepth 100000
theorem regB_of (x : Int) (s : Sc) (h1 : 0 < x) (h2 : s.rows ≤ 1000) : min x s.rows - 1 = min (clipN x - 1) (s.rows - 1) := by unfold clipN; omega
theorem toS_zero {s : Sc} (h1 : 1 ≤ s.rows) (h2 : 1 ≤ s.cols) (a b : Int) : { toS s 0 0 with top := a, bottom := b } = { s with y := 0, x := 0, wrap := false, top := a, bottom := b } := by
 unfold toS
 rw [show min (max (0 : Int) 0) (s.rows - 1) = 0 by omega, show min (max (0 : Int) 0) (s.cols - 1) = 0 by omega]
theorem SL.getD0 {l : List Int} (h : ∀ x ∈ l, 0 ≤ x) (i : Nat) : 0 ≤ l.getD i 0 := by
 rw [List.getD_eq_getElem?_getD]
 cases e : l[i]? with
 | none => simp
 | some x => simpa using h x (List.mem_of_getElem? e)
theorem pregion_00 (s : Sc) (r c : Nat) (vc vt vo : Value) (A4 A5 A6 : Option Addr) (n4 n5 n6 k4 k5 k6 : Nat) (base : Nat) (w : World) (hbase : base ≤ w.heap.size) (h : PsL w base vc vt vo s) (hi : ScIn { s with wrap := false } r c) (vp : Value) (l : List Int) (T : Nat → Prop) (hT : ∀ x, T x → x < w.heap.size) (hl : SL vI w T vp l) (hll : l.length ≤ 1048576) (h0 : ∀ x ∈ l, 0 ≤ x) (h2 : l.getD 1 0 = 0) (hln : l.length ≤ 1) (hy : ¬ paramL l 0 1 - 1 < min (paramL l 1 s.rows) s.rows - 1) :
  Calls Tryz.prog 147 #[.agg (vS s vc vt vo (.slice A4 n4 k4) (.slice A5 n5 k5) (.slice A6 n6 k6)), vp] w (PsPost base vc vt vo (s) w) := by
 have H0 := Lib.hid (show ∀ x, OwB vc vt vo x → x < w.heap.size from fun x hx => (h.lt x hx).2)
 obtain ⟨g1, k1, g2, k2, A3, k3, rfl, rfl, rfl, ⟨b1, l1, p1, q1⟩, ⟨b2, l2, p2, q2⟩, p3, q3⟩ := h.open_ hi
 have H := Lib.hid h
 have HI := Lib.hid hi
 obtain ⟨hlen, hr1, hr2, hc1, hc2, HR, HCO, hr3, hr4, hc3, hc4, y0, y1, x0, x1, t0, t1, u1⟩ := pIn hi
 clear h hi
 have HT := Lib.hid hT
 obtain ⟨AP, kP, rfl, pP, qP⟩ := hl.form
 have HLI := Lib.hid hl
 clear hT hl
 have hp0 : 1 ≤ paramL l 0 1 := by
  have := SL.getD0 h0 0
  unfold paramL
  split <;> omega
 have hb0 := clip_bd (paramL l 0 1)
 have hb1 := clip_bd (paramL l 1 1)
 obtain ⟨N0, hN0⟩ : ∃ N0, clipN (paramL l 0 1) = N0 := ⟨_, rfl⟩
 obtain ⟨N1, hN1⟩ : ∃ N1, clipN (paramL l 1 1) = N1 := ⟨_, rfl⟩
 obtain ⟨B0, hB0⟩ : ∃ B0, min (paramL l 1 s.rows) s.rows - 1 = B0 := ⟨_, rfl⟩
 have hcl : N0 = min (paramL l 0 1) 1000 := by rw [← hN0]; unfold clipN; omega
 rw [hN0] at hb0
 rw [hN1] at hb1
 have hbb : B0 = s.rows - 1 := by
  rw [← hB0, show paramL l 1 s.rows = s.rows by unfold paramL; rw [if_pos h2]]
  omega
 have hl1 : ¬ (1 : Int) < (l.length : Int) := by omega
 rw [hB0] at hy
 have hdec : decide (0 ≤ N0 - 1 ∧ N0 - 1 < B0 ∧ B0 < s.rows) = false := decide_eq_false (by omega)
 have h2w := two_new w (.cells (vS s (.slice (some ⟨g1, 0, none⟩) s.cells.length k1) (.slice (some ⟨g2, 0, none⟩) s.tabs.length k2) (.slice A3 s.other.length k3) (.slice A4 n4 k4) (.slice A5 n5 k5) (.slice A6 n6 k6)) 31) (.cells zQ 31)
 have HLW := Lib.hid (HLI.out.keep (w' := (w.alloc (.cells (vS s (.slice (some ⟨g1, 0, none⟩) s.cells.length k1) (.slice (some ⟨g2, 0, none⟩) s.tabs.length k2) (.slice A3 s.other.length k3) (.slice A4 n4 k4) (.slice A5 n5 k5) (.slice A6 n6 k6)) 31)).alloc (.cells zQ 31)) (fun q hq => h2w.1.cell (HT.out _ hq)))
 have HN0 := Lib.hid hN0
 have HN1 := Lib.hid hN1
 have HDEC := Lib.hid hdec
 have HBB := Lib.hid hbb
 have HS : Hid (PutAt w base _ _ _ r c (.cells zQ 31) s g1 k1 g2 k2 A3 k3 (.slice A4 n4 k4) (.slice A5 n5 k5) (.slice A6 n6 k6) ((w.alloc (.cells (vS s (.slice (some ⟨g1, 0, none⟩) s.cells.length k1) (.slice (some ⟨g2, 0, none⟩) s.tabs.length k2) (.slice A3 s.other.length k3) (.slice A4 n4 k4) (.slice A5 n5 k5) (.slice A6 n6 k6)) 31)).alloc (.cells zQ 31))) :=
  ⟨heap_a1 w _ _, heap_a2 w _ _, (H.out.alloc _).alloc _, Fr.of h2w.1 _, by simp, fun x hx => .inl hx, HI.out, sl3⟩
 have HB := Lib.hid h2w.1
 clear h2w hN0 hN1 hdec hbb hB0 hcl hp0 h0 h2 hy
 go_enter Tryz.func147, Tryz.ntmps147
 go_upto_region 1 with fail
 generalize World.alloc (World.alloc _ _) _ = W0 at HS HB HLW ⊢
 have HCH : Hid (∀ n, Calls Tryz.prog 160 #[.slice AP l.length kP, .int .i64 0] (W0.drewN n) (fun e w' => e = .returned (.int .i64 N0) ∧ w' = W0.drewN n)) := fun n => (pnumber_0 _ l T (W0.drewN n) (HLW.out.keep (fun q _ => rfl)) hll N0 HN0.out).mono (fun {e w'} h => ⟨h.1, h.2.symm⟩)
 obtain ⟨d0, -⟩ := cellR (v := .int .i64 s.rows) HS.out.v 0 rfl
 go_quiet ((go_at_call 160; exact Calls.quiet_of_same (HCH.out _)))
 clear d0
 generalize hWD : World.drewN _ _ = WD
 have HLD : Hid (SL vI WD T (.slice AP l.length kP) l) := HLW.out.keep (fun q _ => by rw [← hWD]; rfl)
 replace HS := Lib.hid (HS.out.drew hWD)
 have HBD : Hid (Below w.heap.size w WD) := by rw [← hWD]; exact ⟨HB.out.os, HB.out.tape, HB.out.output, HB.out.size, HB.out.block⟩
 clear hWD HB HLW
 go_upto_region 4 with fail
 refine wp_region_lit ?_
 refine wpl_loadS rfl (.tmp 2) rfl rfl HS.out.v rfl ?_
 have HCR := Lib.hid (fun W => pisRegion_any (s.p.mode : Int) s (some ⟨g1, 0, none⟩) (some ⟨g2, 0, none⟩) A3 A4 A5 A6 s.cells.length s.tabs.length s.other.length n4 n5 n6 k1 k2 k3 k4 k5 k6 (N0 - 1) (s.rows - 1) W)
 rw [← HBB.out] at HCR
 rw [← HBB.out]
 rw [HDEC.out] at HCR
 go_wp2_with fail
 refine (HCR.out _).mono ?_
 rintro e w6 ⟨rfl, b6⟩
 have v6 : w6.heap[w.heap.size]? = _ := (b6.block _ (by have := HS.out.n; omega)).trans HS.out.v
 have z6 : w6.heap[w.heap.size + 1]? = _ := (b6.block _ HS.out.n).trans HS.out.z
 have B6 := Lib.hid (HBD.out.trans (b6.mono HBD.out.size))
 have V6 := Lib.hid v6
 have Z6 := Lib.hid z6
 clear b6
 rename_i K hK
 refine hK _ _ ?_
 clear hK K
 clear v6 z6
 go_upto_region 5 with fail
 refine wp_region_lit ?_
 refine wpl_loadS rfl (.tmp 2) rfl rfl V6.out rfl ?_
 refine wpl_storeS rfl (.tmp 4) (.tmp 32) rfl rfl rfl Z6.out rfl rfl (all24 rfl rfl rfl rfl rfl rfl rfl rfl rfl rfl rfl rfl rfl rfl rfl rfl rfl rfl rfl rfl rfl rfl rfl rfl) ?_
 go_wp2
 refine psEnd0 (w.heap.size + 1) 4 Tryz.results147 ?_ ?_ Z6.out (by omega) B6.out sl3 H.out ?_ ?_ ?_
 all_goals rfl
theorem pregion_01 (s : Sc) (r c : Nat) (vc vt vo : Value) (A4 A5 A6 : Option Addr) (n4 n5 n6 k4 k5 k6 : Nat) (base : Nat) (w : World) (hbase : base ≤ w.heap.size) (h : PsL w base vc vt vo s) (hi : ScIn { s with wrap := false } r c) (vp : Value) (l : List Int) (T : Nat → Prop) (hT : ∀ x, T x → x < w.heap.size) (hl : SL vI w T vp l) (hll : l.length ≤ 1048576) (h0 : ∀ x ∈ l, 0 ≤ x) (h2 : l.getD 1 0 = 0) (hln : l.length ≤ 1) (hy : paramL l 0 1 - 1 < min (paramL l 1 s.rows) s.rows - 1) :
  Calls Tryz.prog 147 #[.agg (vS s vc vt vo (.slice A4 n4 k4) (.slice A5 n5 k5) (.slice A6 n6 k6)), vp] w (PsPost base vc vt vo ({ toS s 0 0 with top := paramL l 0 1 - 1, bottom := min (paramL l 1 s.rows) s.rows - 1 }) w) := by
 have H0 := Lib.hid (show ∀ x, OwB vc vt vo x → x < w.heap.size from fun x hx => (h.lt x hx).2)
 obtain ⟨g1, k1, g2, k2, A3, k3, rfl, rfl, rfl, ⟨b1, l1, p1, q1⟩, ⟨b2, l2, p2, q2⟩, p3, q3⟩ := h.open_ hi
 have H := Lib.hid h
 have HI := Lib.hid hi
 obtain ⟨hlen, hr1, hr2, hc1, hc2, HR, HCO, hr3, hr4, hc3, hc4, y0, y1, x0, x1, t0, t1, u1⟩ := pIn hi
 clear h hi
 have HT := Lib.hid hT
 obtain ⟨AP, kP, rfl, pP, qP⟩ := hl.form
 have HLI := Lib.hid hl
 clear hT hl
 have hp0 : 1 ≤ paramL l 0 1 := by
  have := SL.getD0 h0 0
  unfold paramL
  split <;> omega
 have hb0 := clip_bd (paramL l 0 1)
 have hb1 := clip_bd (paramL l 1 1)
 obtain ⟨N0, hN0⟩ : ∃ N0, clipN (paramL l 0 1) = N0 := ⟨_, rfl⟩
 obtain ⟨N1, hN1⟩ : ∃ N1, clipN (paramL l 1 1) = N1 := ⟨_, rfl⟩
 obtain ⟨B0, hB0⟩ : ∃ B0, min (paramL l 1 s.rows) s.rows - 1 = B0 := ⟨_, rfl⟩
 have hcl : N0 = min (paramL l 0 1) 1000 := by rw [← hN0]; unfold clipN; omega
 rw [hN0] at hb0
 rw [hN1] at hb1
 have hbb : B0 = s.rows - 1 := by
  rw [← hB0, show paramL l 1 s.rows = s.rows by unfold paramL; rw [if_pos h2]]
  omega
 have hl1 : ¬ (1 : Int) < (l.length : Int) := by omega
 rw [hB0]
 rw [hB0] at hy
 rw [toS_zero hr4 hc4, show paramL l 0 1 - 1 = N0 - 1 by omega]
 have hdec : decide (0 ≤ N0 - 1 ∧ N0 - 1 < B0 ∧ B0 < s.rows) = true := decide_eq_true (by omega)
 have h2w := two_new w (.cells (vS s (.slice (some ⟨g1, 0, none⟩) s.cells.length k1) (.slice (some ⟨g2, 0, none⟩) s.tabs.length k2) (.slice A3 s.other.length k3) (.slice A4 n4 k4) (.slice A5 n5 k5) (.slice A6 n6 k6)) 31) (.cells zQ 31)
 have HLW := Lib.hid (HLI.out.keep (w' := (w.alloc (.cells (vS s (.slice (some ⟨g1, 0, none⟩) s.cells.length k1) (.slice (some ⟨g2, 0, none⟩) s.tabs.length k2) (.slice A3 s.other.length k3) (.slice A4 n4 k4) (.slice A5 n5 k5) (.slice A6 n6 k6)) 31)).alloc (.cells zQ 31)) (fun q hq => h2w.1.cell (HT.out _ hq)))
 have HN0 := Lib.hid hN0
 have HN1 := Lib.hid hN1
 have HDEC := Lib.hid hdec
 have HBB := Lib.hid hbb
 have HS : Hid (PutAt w base _ _ _ r c (.cells zQ 31) s g1 k1 g2 k2 A3 k3 (.slice A4 n4 k4) (.slice A5 n5 k5) (.slice A6 n6 k6) ((w.alloc (.cells (vS s (.slice (some ⟨g1, 0, none⟩) s.cells.length k1) (.slice (some ⟨g2, 0, none⟩) s.tabs.length k2) (.slice A3 s.other.length k3) (.slice A4 n4 k4) (.slice A5 n5 k5) (.slice A6 n6 k6)) 31)).alloc (.cells zQ 31))) :=
  ⟨heap_a1 w _ _, heap_a2 w _ _, (H.out.alloc _).alloc _, Fr.of h2w.1 _, by simp, fun x hx => .inl hx, HI.out, sl3⟩
 have HB := Lib.hid h2w.1
 clear h2w hN0 hN1 hdec hbb hB0 hcl hp0 h0 h2 hy
 go_enter Tryz.func147, Tryz.ntmps147
 go_upto_region 1 with fail
 generalize World.alloc (World.alloc _ _) _ = W0 at HS HB HLW ⊢
 have HCH : Hid (∀ n, Calls Tryz.prog 160 #[.slice AP l.length kP, .int .i64 0] (W0.drewN n) (fun e w' => e = .returned (.int .i64 N0) ∧ w' = W0.drewN n)) := fun n => (pnumber_0 _ l T (W0.drewN n) (HLW.out.keep (fun q _ => rfl)) hll N0 HN0.out).mono (fun {e w'} h => ⟨h.1, h.2.symm⟩)
 obtain ⟨d0, -⟩ := cellR (v := .int .i64 s.rows) HS.out.v 0 rfl
 go_quiet ((go_at_call 160; exact Calls.quiet_of_same (HCH.out _)))
 clear d0
 generalize hWD : World.drewN _ _ = WD
 have HLD : Hid (SL vI WD T (.slice AP l.length kP) l) := HLW.out.keep (fun q _ => by rw [← hWD]; rfl)
 replace HS := Lib.hid (HS.out.drew hWD)
 have HBD : Hid (Below w.heap.size w WD) := by rw [← hWD]; exact ⟨HB.out.os, HB.out.tape, HB.out.output, HB.out.size, HB.out.block⟩
 clear hWD HB HLW
 go_upto_region 4 with fail
 refine wp_region_lit ?_
 refine wpl_loadS rfl (.tmp 2) rfl rfl HS.out.v rfl ?_
 have HCR := Lib.hid (fun W => pisRegion_any (s.p.mode : Int) s (some ⟨g1, 0, none⟩) (some ⟨g2, 0, none⟩) A3 A4 A5 A6 s.cells.length s.tabs.length s.other.length n4 n5 n6 k1 k2 k3 k4 k5 k6 (N0 - 1) (s.rows - 1) W)
 rw [← HBB.out] at HCR
 rw [← HBB.out]
 rw [HDEC.out] at HCR
 go_wp2_with fail
 refine (HCR.out _).mono ?_
 rintro e w6 ⟨rfl, b6⟩
 have v6 : w6.heap[w.heap.size]? = _ := (b6.block _ (by have := HS.out.n; omega)).trans HS.out.v
 have z6 : w6.heap[w.heap.size + 1]? = _ := (b6.block _ HS.out.n).trans HS.out.z
 have B6 := Lib.hid (HBD.out.trans (b6.mono HBD.out.size))
 have V6 := Lib.hid v6
 have Z6 := Lib.hid z6
 clear b6
 rename_i K hK
 refine hK _ _ ?_
 clear hK K
 obtain ⟨c7, f7⟩ := cellR (v := .int .i64 s.top) v6 7 rfl
 obtain ⟨c8, f8⟩ := cellR (v := .int .i64 s.bottom) v6 8 rfl
 obtain ⟨c3, f3⟩ := cellR (v := .int .i64 s.y) v6 3 rfl
 obtain ⟨c4, f4⟩ := cellR (v := .int .i64 s.x) v6 4 rfl
 obtain ⟨c5, f5⟩ := cellR (v := .bool s.wrap) v6 5 rfl
 clear v6 z6
 go_upto_region 8 with fail
 refine wp_region_lit ?_
 refine wpl_loadS (xs := vS { s with y := 0, x := 0, wrap := false, top := N0 - 1, bottom := B0 } (.slice (some ⟨g1, 0, none⟩) s.cells.length k1) (.slice (some ⟨g2, 0, none⟩) s.tabs.length k2) (.slice A3 s.other.length k3) (.slice A4 n4 k4) (.slice A5 n5 k5) (.slice A6 n6 k6)) rfl (.tmp 2) rfl rfl ((heap_setCell_same _ _ 5 _ _ _ (heap_setCell_same _ _ 4 _ _ _ (heap_setCell_same _ _ 3 _ _ _ (heap_setCell_same _ _ 8 _ _ _ (heap_setCell_same _ _ 7 _ _ _ V6.out))))).trans rfl) rfl ?_
 have z14 := (heap_setCell_other _ ⟨w.heap.size, 5, none⟩ (w.heap.size + 1) (.bool false) (by simp)).trans ((heap_setCell_other _ ⟨w.heap.size, 4, none⟩ (w.heap.size + 1) (.int .i64 0) (by simp)).trans ((heap_setCell_other _ ⟨w.heap.size, 3, none⟩ (w.heap.size + 1) (.int .i64 0) (by simp)).trans ((heap_setCell_other _ ⟨w.heap.size, 8, none⟩ (w.heap.size + 1) (.int .i64 B0) (by simp)).trans ((heap_setCell_other _ ⟨w.heap.size, 7, none⟩ (w.heap.size + 1) (.int .i64 (N0 - 1)) (by simp)).trans Z6.out))))
 refine wpl_storeS rfl (.tmp 4) (.tmp 40) rfl rfl rfl z14 rfl rfl (all24 rfl rfl rfl rfl rfl rfl rfl rfl rfl rfl rfl rfl rfl rfl rfl rfl rfl rfl rfl rfl rfl rfl rfl rfl) ?_
 go_wp2
 refine psEnd0 (w.heap.size + 1) 4 Tryz.results147 ?_ ?_ z14 (by omega) (((((B6.out.setCell (by simp) _).setCell (by simp) _).setCell (by simp) _).setCell (by simp) _).setCell (by simp) _) sl3 H.out ?_ ?_ ?_
 all_goals rfl
theorem pregion_10 (s : Sc) (r c : Nat) (vc vt vo : Value) (A4 A5 A6 : Option Addr) (n4 n5 n6 k4 k5 k6 : Nat) (base : Nat) (w : World) (hbase : base ≤ w.heap.size) (h : PsL w base vc vt vo s) (hi : ScIn { s with wrap := false } r c) (vp : Value) (l : List Int) (T : Nat → Prop) (hT : ∀ x, T x → x < w.heap.size) (hl : SL vI w T vp l) (hll : l.length ≤ 1048576) (h0 : ∀ x ∈ l, 0 ≤ x) (h2 : l.getD 1 0 ≠ 0) (hy : ¬ paramL l 0 1 - 1 < min (paramL l 1 s.rows) s.rows - 1) :
  Calls Tryz.prog 147 #[.agg (vS s vc vt vo (.slice A4 n4 k4) (.slice A5 n5 k5) (.slice A6 n6 k6)), vp] w (PsPost base vc vt vo (s) w) := by
 have H0 := Lib.hid (show ∀ x, OwB vc vt vo x → x < w.heap.size from fun x hx => (h.lt x hx).2)
 obtain ⟨g1, k1, g2, k2, A3, k3, rfl, rfl, rfl, ⟨b1, l1, p1, q1⟩, ⟨b2, l2, p2, q2⟩, p3, q3⟩ := h.open_ hi
 have H := Lib.hid h
 have HI := Lib.hid hi
 obtain ⟨hlen, hr1, hr2, hc1, hc2, HR, HCO, hr3, hr4, hc3, hc4, y0, y1, x0, x1, t0, t1, u1⟩ := pIn hi
 clear h hi
 have HT := Lib.hid hT
 obtain ⟨AP, kP, rfl, pP, qP⟩ := hl.form
 have HLI := Lib.hid hl
 clear hT hl
 have hp0 : 1 ≤ paramL l 0 1 := by
  have := SL.getD0 h0 0
  unfold paramL
  split <;> omega
 have hb0 := clip_bd (paramL l 0 1)
 have hb1 := clip_bd (paramL l 1 1)
 obtain ⟨N0, hN0⟩ : ∃ N0, clipN (paramL l 0 1) = N0 := ⟨_, rfl⟩
 obtain ⟨N1, hN1⟩ : ∃ N1, clipN (paramL l 1 1) = N1 := ⟨_, rfl⟩
 obtain ⟨B0, hB0⟩ : ∃ B0, min (paramL l 1 s.rows) s.rows - 1 = B0 := ⟨_, rfl⟩
 have hcl : N0 = min (paramL l 0 1) 1000 := by rw [← hN0]; unfold clipN; omega
 rw [hN0] at hb0
 rw [hN1] at hb1
 have hg := SL.getD0 h0 1
 have hbb : B0 = min (N1 - 1) (s.rows - 1) := by
  rw [← hB0, show paramL l 1 s.rows = paramL l 1 1 by unfold paramL; rw [if_neg h2, if_neg h2], regB_of _ s (by unfold paramL; rw [if_neg h2]; omega) hr3, hN1]
 have hlen2 : 1 < l.length := by
  rcases Nat.lt_or_ge 1 l.length with h | h
  ·exact h
  ·exact absurd (by simp [List.getD_eq_getElem?_getD, List.getElem?_eq_none h]) h2
 obtain ⟨x1, hx1⟩ : ∃ x, l[1]? = some x := ⟨_, List.getElem?_eq_getElem hlen2⟩
 have hd : l.getD 1 0 = x1 := by simp [List.getD_eq_getElem?_getD, hx1]
 have hnz : (x1 != 0) = true := by simpa [← hd] using h2
 have hl1 : (1 : Int) < (l.length : Int) := by omega
 have HX1 := Lib.hid hx1
 clear hd hx1 hg
 rw [hB0] at hy
 have hdec : decide (0 ≤ N0 - 1 ∧ N0 - 1 < B0 ∧ B0 < s.rows) = false := decide_eq_false (by omega)
 have h2w := two_new w (.cells (vS s (.slice (some ⟨g1, 0, none⟩) s.cells.length k1) (.slice (some ⟨g2, 0, none⟩) s.tabs.length k2) (.slice A3 s.other.length k3) (.slice A4 n4 k4) (.slice A5 n5 k5) (.slice A6 n6 k6)) 31) (.cells zQ 31)
 have HLW := Lib.hid (HLI.out.keep (w' := (w.alloc (.cells (vS s (.slice (some ⟨g1, 0, none⟩) s.cells.length k1) (.slice (some ⟨g2, 0, none⟩) s.tabs.length k2) (.slice A3 s.other.length k3) (.slice A4 n4 k4) (.slice A5 n5 k5) (.slice A6 n6 k6)) 31)).alloc (.cells zQ 31)) (fun q hq => h2w.1.cell (HT.out _ hq)))
 have HN0 := Lib.hid hN0
 have HN1 := Lib.hid hN1
 have HDEC := Lib.hid hdec
 have HBB := Lib.hid hbb
 have HS : Hid (PutAt w base _ _ _ r c (.cells zQ 31) s g1 k1 g2 k2 A3 k3 (.slice A4 n4 k4) (.slice A5 n5 k5) (.slice A6 n6 k6) ((w.alloc (.cells (vS s (.slice (some ⟨g1, 0, none⟩) s.cells.length k1) (.slice (some ⟨g2, 0, none⟩) s.tabs.length k2) (.slice A3 s.other.length k3) (.slice A4 n4 k4) (.slice A5 n5 k5) (.slice A6 n6 k6)) 31)).alloc (.cells zQ 31))) :=
  ⟨heap_a1 w _ _, heap_a2 w _ _, (H.out.alloc _).alloc _, Fr.of h2w.1 _, by simp, fun x hx => .inl hx, HI.out, sl3⟩
 have HB := Lib.hid h2w.1
 clear h2w hN0 hN1 hdec hbb hB0 hcl hp0 h0 h2 hy
 go_enter Tryz.func147, Tryz.ntmps147
 go_upto_region 1 with fail
 generalize World.alloc (World.alloc _ _) _ = W0 at HS HB HLW ⊢
 have HCH : Hid (∀ n, Calls Tryz.prog 160 #[.slice AP l.length kP, .int .i64 0] (W0.drewN n) (fun e w' => e = .returned (.int .i64 N0) ∧ w' = W0.drewN n)) := fun n => (pnumber_0 _ l T (W0.drewN n) (HLW.out.keep (fun q _ => rfl)) hll N0 HN0.out).mono (fun {e w'} h => ⟨h.1, h.2.symm⟩)
 obtain ⟨d0, -⟩ := cellR (v := .int .i64 s.rows) HS.out.v 0 rfl
 go_quiet ((go_at_call 160; exact Calls.quiet_of_same (HCH.out _)))
 clear d0
 generalize hWD : World.drewN _ _ = WD
 have HLD : Hid (SL vI WD T (.slice AP l.length kP) l) := HLW.out.keep (fun q _ => by rw [← hWD]; rfl)
 replace HS := Lib.hid (HS.out.drew hWD)
 have HBD : Hid (Below w.heap.size w WD) := by rw [← hWD]; exact ⟨HB.out.os, HB.out.tape, HB.out.output, HB.out.size, HB.out.block⟩
 clear hWD HB HLW
 obtain ⟨ad, hA, -, e1'⟩ := HLD.out.getI 1 x1 HX1.out
 subst hA
 have e1 : WD.cell? ⟨ad.block, ad.off + 1, none⟩ = some (.int .i64 x1) := e1'
 clear e1'
 go_upto_region 3 with fail
 clear e1
 go_upto_region 4 with ((with_reducible refine (pnumber_1 _ l T _ HLD.out hll N1 HN1.out).mono ?_); rintro e w' ⟨rfl, rfl⟩)
 rw [show (if s.rows < N1 then s.rows - 1 else N1 - 1) = B0 by have := HBB.out; split <;> omega]
 refine wp_region_lit ?_
 refine wpl_loadS rfl (.tmp 2) rfl rfl HS.out.v rfl ?_
 have HCR := Lib.hid (fun W => pisRegion_any (s.p.mode : Int) s (some ⟨g1, 0, none⟩) (some ⟨g2, 0, none⟩) A3 A4 A5 A6 s.cells.length s.tabs.length s.other.length n4 n5 n6 k1 k2 k3 k4 k5 k6 (N0 - 1) (B0) W)
 rw [HDEC.out] at HCR
 go_wp2_with fail
 refine (HCR.out _).mono ?_
 rintro e w6 ⟨rfl, b6⟩
 have v6 : w6.heap[w.heap.size]? = _ := (b6.block _ (by have := HS.out.n; omega)).trans HS.out.v
 have z6 : w6.heap[w.heap.size + 1]? = _ := (b6.block _ HS.out.n).trans HS.out.z
 have B6 := Lib.hid (HBD.out.trans (b6.mono HBD.out.size))
 have V6 := Lib.hid v6
 have Z6 := Lib.hid z6
 clear b6
 rename_i K hK
 refine hK _ _ ?_
 clear hK K
 clear v6 z6
 go_upto_region 5 with fail
 refine wp_region_lit ?_
 refine wpl_loadS rfl (.tmp 2) rfl rfl V6.out rfl ?_
 refine wpl_storeS rfl (.tmp 4) (.tmp 32) rfl rfl rfl Z6.out rfl rfl (all24 rfl rfl rfl rfl rfl rfl rfl rfl rfl rfl rfl rfl rfl rfl rfl rfl rfl rfl rfl rfl rfl rfl rfl rfl) ?_
 go_wp2
 refine psEnd0 (w.heap.size + 1) 4 Tryz.results147 ?_ ?_ Z6.out (by omega) B6.out sl3 H.out ?_ ?_ ?_
 all_goals rfl
theorem pregion_11 (s : Sc) (r c : Nat) (vc vt vo : Value) (A4 A5 A6 : Option Addr) (n4 n5 n6 k4 k5 k6 : Nat) (base : Nat) (w : World) (hbase : base ≤ w.heap.size) (h : PsL w base vc vt vo s) (hi : ScIn { s with wrap := false } r c) (vp : Value) (l : List Int) (T : Nat → Prop) (hT : ∀ x, T x → x < w.heap.size) (hl : SL vI w T vp l) (hll : l.length ≤ 1048576) (h0 : ∀ x ∈ l, 0 ≤ x) (h2 : l.getD 1 0 ≠ 0) (hy : paramL l 0 1 - 1 < min (paramL l 1 s.rows) s.rows - 1) :
  Calls Tryz.prog 147 #[.agg (vS s vc vt vo (.slice A4 n4 k4) (.slice A5 n5 k5) (.slice A6 n6 k6)), vp] w (PsPost base vc vt vo ({ toS s 0 0 with top := paramL l 0 1 - 1, bottom := min (paramL l 1 s.rows) s.rows - 1 }) w) := by
 have H0 := Lib.hid (show ∀ x, OwB vc vt vo x → x < w.heap.size from fun x hx => (h.lt x hx).2)
 obtain ⟨g1, k1, g2, k2, A3, k3, rfl, rfl, rfl, ⟨b1, l1, p1, q1⟩, ⟨b2, l2, p2, q2⟩, p3, q3⟩ := h.open_ hi
 have H := Lib.hid h
 have HI := Lib.hid hi
 obtain ⟨hlen, hr1, hr2, hc1, hc2, HR, HCO, hr3, hr4, hc3, hc4, y0, y1, x0, x1, t0, t1, u1⟩ := pIn hi
 clear h hi
 have HT := Lib.hid hT
 obtain ⟨AP, kP, rfl, pP, qP⟩ := hl.form
 have HLI := Lib.hid hl
 clear hT hl
 have hp0 : 1 ≤ paramL l 0 1 := by
  have := SL.getD0 h0 0
  unfold paramL
  split <;> omega
 have hb0 := clip_bd (paramL l 0 1)
 have hb1 := clip_bd (paramL l 1 1)
 obtain ⟨N0, hN0⟩ : ∃ N0, clipN (paramL l 0 1) = N0 := ⟨_, rfl⟩
 obtain ⟨N1, hN1⟩ : ∃ N1, clipN (paramL l 1 1) = N1 := ⟨_, rfl⟩
 obtain ⟨B0, hB0⟩ : ∃ B0, min (paramL l 1 s.rows) s.rows - 1 = B0 := ⟨_, rfl⟩
 have hcl : N0 = min (paramL l 0 1) 1000 := by rw [← hN0]; unfold clipN; omega
 rw [hN0] at hb0
 rw [hN1] at hb1
 have hg := SL.getD0 h0 1
 have hbb : B0 = min (N1 - 1) (s.rows - 1) := by
  rw [← hB0, show paramL l 1 s.rows = paramL l 1 1 by unfold paramL; rw [if_neg h2, if_neg h2], regB_of _ s (by unfold paramL; rw [if_neg h2]; omega) hr3, hN1]
 have hlen2 : 1 < l.length := by
  rcases Nat.lt_or_ge 1 l.length with h | h
  ·exact h
  ·exact absurd (by simp [List.getD_eq_getElem?_getD, List.getElem?_eq_none h]) h2
 obtain ⟨x1, hx1⟩ : ∃ x, l[1]? = some x := ⟨_, List.getElem?_eq_getElem hlen2⟩
 have hd : l.getD 1 0 = x1 := by simp [List.getD_eq_getElem?_getD, hx1]
 have hnz : (x1 != 0) = true := by simpa [← hd] using h2
 have hl1 : (1 : Int) < (l.length : Int) := by omega
 have HX1 := Lib.hid hx1
 clear hd hx1 hg
 rw [hB0]
 rw [hB0] at hy
 rw [toS_zero hr4 hc4, show paramL l 0 1 - 1 = N0 - 1 by omega]
 have hdec : decide (0 ≤ N0 - 1 ∧ N0 - 1 < B0 ∧ B0 < s.rows) = true := decide_eq_true (by omega)
 have h2w := two_new w (.cells (vS s (.slice (some ⟨g1, 0, none⟩) s.cells.length k1) (.slice (some ⟨g2, 0, none⟩) s.tabs.length k2) (.slice A3 s.other.length k3) (.slice A4 n4 k4) (.slice A5 n5 k5) (.slice A6 n6 k6)) 31) (.cells zQ 31)
 have HLW := Lib.hid (HLI.out.keep (w' := (w.alloc (.cells (vS s (.slice (some ⟨g1, 0, none⟩) s.cells.length k1) (.slice (some ⟨g2, 0, none⟩) s.tabs.length k2) (.slice A3 s.other.length k3) (.slice A4 n4 k4) (.slice A5 n5 k5) (.slice A6 n6 k6)) 31)).alloc (.cells zQ 31)) (fun q hq => h2w.1.cell (HT.out _ hq)))
 have HN0 := Lib.hid hN0
 have HN1 := Lib.hid hN1
 have HDEC := Lib.hid hdec
 have HBB := Lib.hid hbb
 have HS : Hid (PutAt w base _ _ _ r c (.cells zQ 31) s g1 k1 g2 k2 A3 k3 (.slice A4 n4 k4) (.slice A5 n5 k5) (.slice A6 n6 k6) ((w.alloc (.cells (vS s (.slice (some ⟨g1, 0, none⟩) s.cells.length k1) (.slice (some ⟨g2, 0, none⟩) s.tabs.length k2) (.slice A3 s.other.length k3) (.slice A4 n4 k4) (.slice A5 n5 k5) (.slice A6 n6 k6)) 31)).alloc (.cells zQ 31))) :=
  ⟨heap_a1 w _ _, heap_a2 w _ _, (H.out.alloc _).alloc _, Fr.of h2w.1 _, by simp, fun x hx => .inl hx, HI.out, sl3⟩
 have HB := Lib.hid h2w.1
 clear h2w hN0 hN1 hdec hbb hB0 hcl hp0 h0 h2 hy
 go_enter Tryz.func147, Tryz.ntmps147
 go_upto_region 1 with fail
 generalize World.alloc (World.alloc _ _) _ = W0 at HS HB HLW ⊢
 have HCH : Hid (∀ n, Calls Tryz.prog 160 #[.slice AP l.length kP, .int .i64 0] (W0.drewN n) (fun e w' => e = .returned (.int .i64 N0) ∧ w' = W0.drewN n)) := fun n => (pnumber_0 _ l T (W0.drewN n) (HLW.out.keep (fun q _ => rfl)) hll N0 HN0.out).mono (fun {e w'} h => ⟨h.1, h.2.symm⟩)
 obtain ⟨d0, -⟩ := cellR (v := .int .i64 s.rows) HS.out.v 0 rfl
 go_quiet ((go_at_call 160; exact Calls.quiet_of_same (HCH.out _)))
 clear d0
 generalize hWD : World.drewN _ _ = WD
 have HLD : Hid (SL vI WD T (.slice AP l.length kP) l) := HLW.out.keep (fun q _ => by rw [← hWD]; rfl)
 replace HS := Lib.hid (HS.out.drew hWD)
 have HBD : Hid (Below w.heap.size w WD) := by rw [← hWD]; exact ⟨HB.out.os, HB.out.tape, HB.out.output, HB.out.size, HB.out.block⟩
 clear hWD HB HLW
 obtain ⟨ad, hA, -, e1'⟩ := HLD.out.getI 1 x1 HX1.out
 subst hA
 have e1 : WD.cell? ⟨ad.block, ad.off + 1, none⟩ = some (.int .i64 x1) := e1'
 clear e1'
 go_upto_region 3 with fail
 clear e1
 go_upto_region 4 with ((with_reducible refine (pnumber_1 _ l T _ HLD.out hll N1 HN1.out).mono ?_); rintro e w' ⟨rfl, rfl⟩)
 rw [show (if s.rows < N1 then s.rows - 1 else N1 - 1) = B0 by have := HBB.out; split <;> omega]
 refine wp_region_lit ?_
 refine wpl_loadS rfl (.tmp 2) rfl rfl HS.out.v rfl ?_
 have HCR := Lib.hid (fun W => pisRegion_any (s.p.mode : Int) s (some ⟨g1, 0, none⟩) (some ⟨g2, 0, none⟩) A3 A4 A5 A6 s.cells.length s.tabs.length s.other.length n4 n5 n6 k1 k2 k3 k4 k5 k6 (N0 - 1) (B0) W)
 rw [HDEC.out] at HCR
 go_wp2_with fail
 refine (HCR.out _).mono ?_
 rintro e w6 ⟨rfl, b6⟩
 have v6 : w6.heap[w.heap.size]? = _ := (b6.block _ (by have := HS.out.n; omega)).trans HS.out.v
 have z6 : w6.heap[w.heap.size + 1]? = _ := (b6.block _ HS.out.n).trans HS.out.z
 have B6 := Lib.hid (HBD.out.trans (b6.mono HBD.out.size))
 have V6 := Lib.hid v6
 have Z6 := Lib.hid z6
 clear b6
 rename_i K hK
 refine hK _ _ ?_
 clear hK K
 obtain ⟨c7, f7⟩ := cellR (v := .int .i64 s.top) v6 7 rfl
 obtain ⟨c8, f8⟩ := cellR (v := .int .i64 s.bottom) v6 8 rfl
 obtain ⟨c3, f3⟩ := cellR (v := .int .i64 s.y) v6 3 rfl
 obtain ⟨c4, f4⟩ := cellR (v := .int .i64 s.x) v6 4 rfl
 obtain ⟨c5, f5⟩ := cellR (v := .bool s.wrap) v6 5 rfl
 clear v6 z6
 go_upto_region 8 with fail
 refine wp_region_lit ?_
 refine wpl_loadS (xs := vS { s with y := 0, x := 0, wrap := false, top := N0 - 1, bottom := B0 } (.slice (some ⟨g1, 0, none⟩) s.cells.length k1) (.slice (some ⟨g2, 0, none⟩) s.tabs.length k2) (.slice A3 s.other.length k3) (.slice A4 n4 k4) (.slice A5 n5 k5) (.slice A6 n6 k6)) rfl (.tmp 2) rfl rfl ((heap_setCell_same _ _ 5 _ _ _ (heap_setCell_same _ _ 4 _ _ _ (heap_setCell_same _ _ 3 _ _ _ (heap_setCell_same _ _ 8 _ _ _ (heap_setCell_same _ _ 7 _ _ _ V6.out))))).trans rfl) rfl ?_
 have z14 := (heap_setCell_other _ ⟨w.heap.size, 5, none⟩ (w.heap.size + 1) (.bool false) (by simp)).trans ((heap_setCell_other _ ⟨w.heap.size, 4, none⟩ (w.heap.size + 1) (.int .i64 0) (by simp)).trans ((heap_setCell_other _ ⟨w.heap.size, 3, none⟩ (w.heap.size + 1) (.int .i64 0) (by simp)).trans ((heap_setCell_other _ ⟨w.heap.size, 8, none⟩ (w.heap.size + 1) (.int .i64 B0) (by simp)).trans ((heap_setCell_other _ ⟨w.heap.size, 7, none⟩ (w.heap.size + 1) (.int .i64 (N0 - 1)) (by simp)).trans Z6.out))))
 refine wpl_storeS rfl (.tmp 4) (.tmp 40) rfl rfl rfl z14 rfl rfl (all24 rfl rfl rfl rfl rfl rfl rfl rfl rfl rfl rfl rfl rfl rfl rfl rfl rfl rfl rfl rfl rfl rfl rfl rfl) ?_
 go_wp2
 refine psEnd0 (w.heap.size + 1) 4 Tryz.results147 ?_ ?_ z14 (by omega) (((((B6.out.setCell (by simp) _).setCell (by simp) _).setCell (by simp) _).setCell (by simp) _).setCell (by simp) _) sl3 H.out ?_ ?_ ?_
 all_goals rfl
theorem pregion_20 (s : Sc) (r c : Nat) (vc vt vo : Value) (A4 A5 A6 : Option Addr) (n4 n5 n6 k4 k5 k6 : Nat) (base : Nat) (w : World) (hbase : base ≤ w.heap.size) (h : PsL w base vc vt vo s) (hi : ScIn { s with wrap := false } r c) (vp : Value) (l : List Int) (T : Nat → Prop) (hT : ∀ x, T x → x < w.heap.size) (hl : SL vI w T vp l) (hll : l.length ≤ 1048576) (h0 : ∀ x ∈ l, 0 ≤ x) (h2 : l.getD 1 0 = 0) (hln : 1 < l.length) (hy : ¬ paramL l 0 1 - 1 < min (paramL l 1 s.rows) s.rows - 1) :
  Calls Tryz.prog 147 #[.agg (vS s vc vt vo (.slice A4 n4 k4) (.slice A5 n5 k5) (.slice A6 n6 k6)), vp] w (PsPost base vc vt vo (s) w) := by
 have H0 := Lib.hid (show ∀ x, OwB vc vt vo x → x < w.heap.size from fun x hx => (h.lt x hx).2)
 obtain ⟨g1, k1, g2, k2, A3, k3, rfl, rfl, rfl, ⟨b1, l1, p1, q1⟩, ⟨b2, l2, p2, q2⟩, p3, q3⟩ := h.open_ hi
 have H := Lib.hid h
 have HI := Lib.hid hi
 obtain ⟨hlen, hr1, hr2, hc1, hc2, HR, HCO, hr3, hr4, hc3, hc4, y0, y1, x0, x1, t0, t1, u1⟩ := pIn hi
 clear h hi
 have HT := Lib.hid hT
 obtain ⟨AP, kP, rfl, pP, qP⟩ := hl.form
 have HLI := Lib.hid hl
 clear hT hl
 have hp0 : 1 ≤ paramL l 0 1 := by
  have := SL.getD0 h0 0
  unfold paramL
  split <;> omega
 have hb0 := clip_bd (paramL l 0 1)
 have hb1 := clip_bd (paramL l 1 1)
 obtain ⟨N0, hN0⟩ : ∃ N0, clipN (paramL l 0 1) = N0 := ⟨_, rfl⟩
 obtain ⟨N1, hN1⟩ : ∃ N1, clipN (paramL l 1 1) = N1 := ⟨_, rfl⟩
 obtain ⟨B0, hB0⟩ : ∃ B0, min (paramL l 1 s.rows) s.rows - 1 = B0 := ⟨_, rfl⟩
 have hcl : N0 = min (paramL l 0 1) 1000 := by rw [← hN0]; unfold clipN; omega
 rw [hN0] at hb0
 rw [hN1] at hb1
 have hbb : B0 = s.rows - 1 := by
  rw [← hB0, show paramL l 1 s.rows = s.rows by unfold paramL; rw [if_pos h2]]
  omega
 obtain ⟨x1, hx1⟩ : ∃ x, l[1]? = some x := ⟨_, List.getElem?_eq_getElem hln⟩
 have hnz : (x1 != 0) = false := by
  have hd : l.getD 1 0 = x1 := by simp [List.getD_eq_getElem?_getD, hx1]
  rw [← hd, h2]
  rfl
 have hl1 : (1 : Int) < (l.length : Int) := by omega
 have HX1 := Lib.hid hx1
 clear hx1
 rw [hB0] at hy
 have hdec : decide (0 ≤ N0 - 1 ∧ N0 - 1 < B0 ∧ B0 < s.rows) = false := decide_eq_false (by omega)
 have h2w := two_new w (.cells (vS s (.slice (some ⟨g1, 0, none⟩) s.cells.length k1) (.slice (some ⟨g2, 0, none⟩) s.tabs.length k2) (.slice A3 s.other.length k3) (.slice A4 n4 k4) (.slice A5 n5 k5) (.slice A6 n6 k6)) 31) (.cells zQ 31)
 have HLW := Lib.hid (HLI.out.keep (w' := (w.alloc (.cells (vS s (.slice (some ⟨g1, 0, none⟩) s.cells.length k1) (.slice (some ⟨g2, 0, none⟩) s.tabs.length k2) (.slice A3 s.other.length k3) (.slice A4 n4 k4) (.slice A5 n5 k5) (.slice A6 n6 k6)) 31)).alloc (.cells zQ 31)) (fun q hq => h2w.1.cell (HT.out _ hq)))
 have HN0 := Lib.hid hN0
 have HN1 := Lib.hid hN1
 have HDEC := Lib.hid hdec
 have HBB := Lib.hid hbb
 have HS : Hid (PutAt w base _ _ _ r c (.cells zQ 31) s g1 k1 g2 k2 A3 k3 (.slice A4 n4 k4) (.slice A5 n5 k5) (.slice A6 n6 k6) ((w.alloc (.cells (vS s (.slice (some ⟨g1, 0, none⟩) s.cells.length k1) (.slice (some ⟨g2, 0, none⟩) s.tabs.length k2) (.slice A3 s.other.length k3) (.slice A4 n4 k4) (.slice A5 n5 k5) (.slice A6 n6 k6)) 31)).alloc (.cells zQ 31))) :=
  ⟨heap_a1 w _ _, heap_a2 w _ _, (H.out.alloc _).alloc _, Fr.of h2w.1 _, by simp, fun x hx => .inl hx, HI.out, sl3⟩
 have HB := Lib.hid h2w.1
 clear h2w hN0 hN1 hdec hbb hB0 hcl hp0 h0 h2 hy
 go_enter Tryz.func147, Tryz.ntmps147
 go_upto_region 1 with fail
 generalize World.alloc (World.alloc _ _) _ = W0 at HS HB HLW ⊢
 have HCH : Hid (∀ n, Calls Tryz.prog 160 #[.slice AP l.length kP, .int .i64 0] (W0.drewN n) (fun e w' => e = .returned (.int .i64 N0) ∧ w' = W0.drewN n)) := fun n => (pnumber_0 _ l T (W0.drewN n) (HLW.out.keep (fun q _ => rfl)) hll N0 HN0.out).mono (fun {e w'} h => ⟨h.1, h.2.symm⟩)
 obtain ⟨d0, -⟩ := cellR (v := .int .i64 s.rows) HS.out.v 0 rfl
 go_quiet ((go_at_call 160; exact Calls.quiet_of_same (HCH.out _)))
 clear d0
 generalize hWD : World.drewN _ _ = WD
 have HLD : Hid (SL vI WD T (.slice AP l.length kP) l) := HLW.out.keep (fun q _ => by rw [← hWD]; rfl)
 replace HS := Lib.hid (HS.out.drew hWD)
 have HBD : Hid (Below w.heap.size w WD) := by rw [← hWD]; exact ⟨HB.out.os, HB.out.tape, HB.out.output, HB.out.size, HB.out.block⟩
 clear hWD HB HLW
 obtain ⟨ad, hA, -, e1'⟩ := HLD.out.getI 1 x1 HX1.out
 subst hA
 have e1 : WD.cell? ⟨ad.block, ad.off + 1, none⟩ = some (.int .i64 x1) := e1'
 clear e1'
 go_upto_region 4 with fail
 clear e1
 refine wp_region_lit ?_
 refine wpl_loadS rfl (.tmp 2) rfl rfl HS.out.v rfl ?_
 have HCR := Lib.hid (fun W => pisRegion_any (s.p.mode : Int) s (some ⟨g1, 0, none⟩) (some ⟨g2, 0, none⟩) A3 A4 A5 A6 s.cells.length s.tabs.length s.other.length n4 n5 n6 k1 k2 k3 k4 k5 k6 (N0 - 1) (s.rows - 1) W)
 rw [← HBB.out] at HCR
 rw [← HBB.out]
 rw [HDEC.out] at HCR
 go_wp2_with fail
 refine (HCR.out _).mono ?_
 rintro e w6 ⟨rfl, b6⟩
 have v6 : w6.heap[w.heap.size]? = _ := (b6.block _ (by have := HS.out.n; omega)).trans HS.out.v
 have z6 : w6.heap[w.heap.size + 1]? = _ := (b6.block _ HS.out.n).trans HS.out.z
 have B6 := Lib.hid (HBD.out.trans (b6.mono HBD.out.size))
 have V6 := Lib.hid v6
 have Z6 := Lib.hid z6
 clear b6
 rename_i K hK
 refine hK _ _ ?_
 clear hK K
 clear v6 z6
 go_upto_region 5 with fail
 refine wp_region_lit ?_
 refine wpl_loadS rfl (.tmp 2) rfl rfl V6.out rfl ?_
 refine wpl_storeS rfl (.tmp 4) (.tmp 32) rfl rfl rfl Z6.out rfl rfl (all24 rfl rfl rfl rfl rfl rfl rfl rfl rfl rfl rfl rfl rfl rfl rfl rfl rfl rfl rfl rfl rfl rfl rfl rfl) ?_
 go_wp2
 refine psEnd0 (w.heap.size + 1) 4 Tryz.results147 ?_ ?_ Z6.out (by omega) B6.out sl3 H.out ?_ ?_ ?_
 all_goals rfl
theorem pregion_21 (s : Sc) (r c : Nat) (vc vt vo : Value) (A4 A5 A6 : Option Addr) (n4 n5 n6 k4 k5 k6 : Nat) (base : Nat) (w : World) (hbase : base ≤ w.heap.size) (h : PsL w base vc vt vo s) (hi : ScIn { s with wrap := false } r c) (vp : Value) (l : List Int) (T : Nat → Prop) (hT : ∀ x, T x → x < w.heap.size) (hl : SL vI w T vp l) (hll : l.length ≤ 1048576) (h0 : ∀ x ∈ l, 0 ≤ x) (h2 : l.getD 1 0 = 0) (hln : 1 < l.length) (hy : paramL l 0 1 - 1 < min (paramL l 1 s.rows) s.rows - 1) :
  Calls Tryz.prog 147 #[.agg (vS s vc vt vo (.slice A4 n4 k4) (.slice A5 n5 k5) (.slice A6 n6 k6)), vp] w (PsPost base vc vt vo ({ toS s 0 0 with top := paramL l 0 1 - 1, bottom := min (paramL l 1 s.rows) s.rows - 1 }) w) := by
 have H0 := Lib.hid (show ∀ x, OwB vc vt vo x → x < w.heap.size from fun x hx => (h.lt x hx).2)
 obtain ⟨g1, k1, g2, k2, A3, k3, rfl, rfl, rfl, ⟨b1, l1, p1, q1⟩, ⟨b2, l2, p2, q2⟩, p3, q3⟩ := h.open_ hi
 have H := Lib.hid h
 have HI := Lib.hid hi
 obtain ⟨hlen, hr1, hr2, hc1, hc2, HR, HCO, hr3, hr4, hc3, hc4, y0, y1, x0, x1, t0, t1, u1⟩ := pIn hi
 clear h hi
 have HT := Lib.hid hT
 obtain ⟨AP, kP, rfl, pP, qP⟩ := hl.form
 have HLI := Lib.hid hl
 clear hT hl
 have hp0 : 1 ≤ paramL l 0 1 := by
  have := SL.getD0 h0 0
  unfold paramL
  split <;> omega
 have hb0 := clip_bd (paramL l 0 1)
 have hb1 := clip_bd (paramL l 1 1)
 obtain ⟨N0, hN0⟩ : ∃ N0, clipN (paramL l 0 1) = N0 := ⟨_, rfl⟩
 obtain ⟨N1, hN1⟩ : ∃ N1, clipN (paramL l 1 1) = N1 := ⟨_, rfl⟩
 obtain ⟨B0, hB0⟩ : ∃ B0, min (paramL l 1 s.rows) s.rows - 1 = B0 := ⟨_, rfl⟩
 have hcl : N0 = min (paramL l 0 1) 1000 := by rw [← hN0]; unfold clipN; omega
 rw [hN0] at hb0
 rw [hN1] at hb1
 have hbb : B0 = s.rows - 1 := by
  rw [← hB0, show paramL l 1 s.rows = s.rows by unfold paramL; rw [if_pos h2]]
  omega
 obtain ⟨x1, hx1⟩ : ∃ x, l[1]? = some x := ⟨_, List.getElem?_eq_getElem hln⟩
 have hnz : (x1 != 0) = false := by
  have hd : l.getD 1 0 = x1 := by simp [List.getD_eq_getElem?_getD, hx1]
  rw [← hd, h2]
  rfl
 have hl1 : (1 : Int) < (l.length : Int) := by omega
 have HX1 := Lib.hid hx1
 clear hx1
 rw [hB0]
 rw [hB0] at hy
 rw [toS_zero hr4 hc4, show paramL l 0 1 - 1 = N0 - 1 by omega]
 have hdec : decide (0 ≤ N0 - 1 ∧ N0 - 1 < B0 ∧ B0 < s.rows) = true := decide_eq_true (by omega)
 have h2w := two_new w (.cells (vS s (.slice (some ⟨g1, 0, none⟩) s.cells.length k1) (.slice (some ⟨g2, 0, none⟩) s.tabs.length k2) (.slice A3 s.other.length k3) (.slice A4 n4 k4) (.slice A5 n5 k5) (.slice A6 n6 k6)) 31) (.cells zQ 31)
 have HLW := Lib.hid (HLI.out.keep (w' := (w.alloc (.cells (vS s (.slice (some ⟨g1, 0, none⟩) s.cells.length k1) (.slice (some ⟨g2, 0, none⟩) s.tabs.length k2) (.slice A3 s.other.length k3) (.slice A4 n4 k4) (.slice A5 n5 k5) (.slice A6 n6 k6)) 31)).alloc (.cells zQ 31)) (fun q hq => h2w.1.cell (HT.out _ hq)))
 have HN0 := Lib.hid hN0
 have HN1 := Lib.hid hN1
 have HDEC := Lib.hid hdec
 have HBB := Lib.hid hbb
 have HS : Hid (PutAt w base _ _ _ r c (.cells zQ 31) s g1 k1 g2 k2 A3 k3 (.slice A4 n4 k4) (.slice A5 n5 k5) (.slice A6 n6 k6) ((w.alloc (.cells (vS s (.slice (some ⟨g1, 0, none⟩) s.cells.length k1) (.slice (some ⟨g2, 0, none⟩) s.tabs.length k2) (.slice A3 s.other.length k3) (.slice A4 n4 k4) (.slice A5 n5 k5) (.slice A6 n6 k6)) 31)).alloc (.cells zQ 31))) :=
  ⟨heap_a1 w _ _, heap_a2 w _ _, (H.out.alloc _).alloc _, Fr.of h2w.1 _, by simp, fun x hx => .inl hx, HI.out, sl3⟩
 have HB := Lib.hid h2w.1
 clear h2w hN0 hN1 hdec hbb hB0 hcl hp0 h0 h2 hy
 go_enter Tryz.func147, Tryz.ntmps147
 go_upto_region 1 with fail
 generalize World.alloc (World.alloc _ _) _ = W0 at HS HB HLW ⊢
 have HCH : Hid (∀ n, Calls Tryz.prog 160 #[.slice AP l.length kP, .int .i64 0] (W0.drewN n) (fun e w' => e = .returned (.int .i64 N0) ∧ w' = W0.drewN n)) := fun n => (pnumber_0 _ l T (W0.drewN n) (HLW.out.keep (fun q _ => rfl)) hll N0 HN0.out).mono (fun {e w'} h => ⟨h.1, h.2.symm⟩)
 obtain ⟨d0, -⟩ := cellR (v := .int .i64 s.rows) HS.out.v 0 rfl
 go_quiet ((go_at_call 160; exact Calls.quiet_of_same (HCH.out _)))
 clear d0
 generalize hWD : World.drewN _ _ = WD
 have HLD : Hid (SL vI WD T (.slice AP l.length kP) l) := HLW.out.keep (fun q _ => by rw [← hWD]; rfl)
 replace HS := Lib.hid (HS.out.drew hWD)
 have HBD : Hid (Below w.heap.size w WD) := by rw [← hWD]; exact ⟨HB.out.os, HB.out.tape, HB.out.output, HB.out.size, HB.out.block⟩
 clear hWD HB HLW
 obtain ⟨ad, hA, -, e1'⟩ := HLD.out.getI 1 x1 HX1.out
 subst hA
 have e1 : WD.cell? ⟨ad.block, ad.off + 1, none⟩ = some (.int .i64 x1) := e1'
 clear e1'
 go_upto_region 4 with fail
 clear e1
 refine wp_region_lit ?_
 refine wpl_loadS rfl (.tmp 2) rfl rfl HS.out.v rfl ?_
 have HCR := Lib.hid (fun W => pisRegion_any (s.p.mode : Int) s (some ⟨g1, 0, none⟩) (some ⟨g2, 0, none⟩) A3 A4 A5 A6 s.cells.length s.tabs.length s.other.length n4 n5 n6 k1 k2 k3 k4 k5 k6 (N0 - 1) (s.rows - 1) W)
 rw [← HBB.out] at HCR
 rw [← HBB.out]
 rw [HDEC.out] at HCR
 go_wp2_with fail
 refine (HCR.out _).mono ?_
 rintro e w6 ⟨rfl, b6⟩
 have v6 : w6.heap[w.heap.size]? = _ := (b6.block _ (by have := HS.out.n; omega)).trans HS.out.v
 have z6 : w6.heap[w.heap.size + 1]? = _ := (b6.block _ HS.out.n).trans HS.out.z
 have B6 := Lib.hid (HBD.out.trans (b6.mono HBD.out.size))
 have V6 := Lib.hid v6
 have Z6 := Lib.hid z6
 clear b6
 rename_i K hK
 refine hK _ _ ?_
 clear hK K
 obtain ⟨c7, f7⟩ := cellR (v := .int .i64 s.top) v6 7 rfl
 obtain ⟨c8, f8⟩ := cellR (v := .int .i64 s.bottom) v6 8 rfl
 obtain ⟨c3, f3⟩ := cellR (v := .int .i64 s.y) v6 3 rfl
 obtain ⟨c4, f4⟩ := cellR (v := .int .i64 s.x) v6 4 rfl
 obtain ⟨c5, f5⟩ := cellR (v := .bool s.wrap) v6 5 rfl
 clear v6 z6
 go_upto_region 8 with fail
 refine wp_region_lit ?_
 refine wpl_loadS (xs := vS { s with y := 0, x := 0, wrap := false, top := N0 - 1, bottom := B0 } (.slice (some ⟨g1, 0, none⟩) s.cells.length k1) (.slice (some ⟨g2, 0, none⟩) s.tabs.length k2) (.slice A3 s.other.length k3) (.slice A4 n4 k4) (.slice A5 n5 k5) (.slice A6 n6 k6)) rfl (.tmp 2) rfl rfl ((heap_setCell_same _ _ 5 _ _ _ (heap_setCell_same _ _ 4 _ _ _ (heap_setCell_same _ _ 3 _ _ _ (heap_setCell_same _ _ 8 _ _ _ (heap_setCell_same _ _ 7 _ _ _ V6.out))))).trans rfl) rfl ?_
 have z14 := (heap_setCell_other _ ⟨w.heap.size, 5, none⟩ (w.heap.size + 1) (.bool false) (by simp)).trans ((heap_setCell_other _ ⟨w.heap.size, 4, none⟩ (w.heap.size + 1) (.int .i64 0) (by simp)).trans ((heap_setCell_other _ ⟨w.heap.size, 3, none⟩ (w.heap.size + 1) (.int .i64 0) (by simp)).trans ((heap_setCell_other _ ⟨w.heap.size, 8, none⟩ (w.heap.size + 1) (.int .i64 B0) (by simp)).trans ((heap_setCell_other _ ⟨w.heap.size, 7, none⟩ (w.heap.size + 1) (.int .i64 (N0 - 1)) (by simp)).trans Z6.out))))
 refine wpl_storeS rfl (.tmp 4) (.tmp 40) rfl rfl rfl z14 rfl rfl (all24 rfl rfl rfl rfl rfl rfl rfl rfl rfl rfl rfl rfl rfl rfl rfl rfl rfl rfl rfl rfl rfl rfl rfl rfl) ?_
 go_wp2
 refine psEnd0 (w.heap.size + 1) 4 Tryz.results147 ?_ ?_ z14 (by omega) (((((B6.out.setCell (by simp) _).setCell (by simp) _).setCell (by simp) _).setCell (by simp) _).setCell (by simp) _) sl3 H.out ?_ ?_ ?_
 all_goals rfl
end Go.Proofs.YtlolgfgcgfjdjaaGreatDoor

namespace Go.Proofs.YtlolgfgcgfjdjaaGreatDoor
open Go.RowKit
set_option linter.unusedVariables false
set_option linter.unusedSimpArgs false
set_option maxHeartbeats 2000000
set_option maxRecDepth 100000
theorem lookC39 : (List.range 4096).all (fun a => bits BinOp.or IntKind.u16 (bits BinOp.andNot IntKind.u16 (a : Int) 240) 0 == (lookN a 39 : Int)) = true := by kernel_rfl
theorem lookC49 : (List.range 4096).all (fun a => bits BinOp.or IntKind.u16 (bits BinOp.andNot IntKind.u16 (a : Int) 3840) 0 == (lookN a 49 : Int)) = true := by kernel_rfl
def LookB (a : Nat) (k : Int) (w : World) (e : Ending) (w' : World) : Prop := e = .returned (.int .u16 (lookN a k : Int)) ∧ Below w.heap.size w w'
theorem drewN_below (w : World) (n : Nat) : Below w.heap.size w (w.drewN n) := ⟨rfl, rfl, rfl, Nat.le_refl _, fun _ _ => rfl⟩
theorem pcolour_30 (a : Nat) (ha : a < 4096) (w : World) : Calls Tryz.prog 177 #[.int .u16 (a : Int), .int .i64 4, .int .i64 1] w (LookB a 30 w) := by
 have HA := Lib.hid ha
 clear ha
 go_enter Tryz.func177, Tryz.ntmps177
 go_wp2
 go_quiet (fail)
 go_wp2
 go_ret
 exact ⟨congrArg (fun x => Ending.returned (.int .u16 x)) (eq_of_beq (lookU lookT30 a HA.out)), drewN_below _ _⟩
theorem pcolour_31 (a : Nat) (ha : a < 4096) (w : World) : Calls Tryz.prog 177 #[.int .u16 (a : Int), .int .i64 4, .int .i64 2] w (LookB a 31 w) := by
 have HA := Lib.hid ha
 clear ha
 go_enter Tryz.func177, Tryz.ntmps177
 go_wp2
 go_quiet (fail)
 go_wp2
 go_ret
 exact ⟨congrArg (fun x => Ending.returned (.int .u16 x)) (eq_of_beq (lookU lookT31 a HA.out)), drewN_below _ _⟩
theorem pcolour_32 (a : Nat) (ha : a < 4096) (w : World) : Calls Tryz.prog 177 #[.int .u16 (a : Int), .int .i64 4, .int .i64 3] w (LookB a 32 w) := by
 have HA := Lib.hid ha
 clear ha
 go_enter Tryz.func177, Tryz.ntmps177
 go_wp2
 go_quiet (fail)
 go_wp2
 go_ret
 exact ⟨congrArg (fun x => Ending.returned (.int .u16 x)) (eq_of_beq (lookU lookT32 a HA.out)), drewN_below _ _⟩
theorem pcolour_33 (a : Nat) (ha : a < 4096) (w : World) : Calls Tryz.prog 177 #[.int .u16 (a : Int), .int .i64 4, .int .i64 4] w (LookB a 33 w) := by
 have HA := Lib.hid ha
 clear ha
 go_enter Tryz.func177, Tryz.ntmps177
 go_wp2
 go_quiet (fail)
 go_wp2
 go_ret
 exact ⟨congrArg (fun x => Ending.returned (.int .u16 x)) (eq_of_beq (lookU lookT33 a HA.out)), drewN_below _ _⟩
theorem pcolour_34 (a : Nat) (ha : a < 4096) (w : World) : Calls Tryz.prog 177 #[.int .u16 (a : Int), .int .i64 4, .int .i64 5] w (LookB a 34 w) := by
 have HA := Lib.hid ha
 clear ha
 go_enter Tryz.func177, Tryz.ntmps177
 go_wp2
 go_quiet (fail)
 go_wp2
 go_ret
 exact ⟨congrArg (fun x => Ending.returned (.int .u16 x)) (eq_of_beq (lookU lookT34 a HA.out)), drewN_below _ _⟩
theorem pcolour_35 (a : Nat) (ha : a < 4096) (w : World) : Calls Tryz.prog 177 #[.int .u16 (a : Int), .int .i64 4, .int .i64 6] w (LookB a 35 w) := by
 have HA := Lib.hid ha
 clear ha
 go_enter Tryz.func177, Tryz.ntmps177
 go_wp2
 go_quiet (fail)
 go_wp2
 go_ret
 exact ⟨congrArg (fun x => Ending.returned (.int .u16 x)) (eq_of_beq (lookU lookT35 a HA.out)), drewN_below _ _⟩
theorem pcolour_36 (a : Nat) (ha : a < 4096) (w : World) : Calls Tryz.prog 177 #[.int .u16 (a : Int), .int .i64 4, .int .i64 7] w (LookB a 36 w) := by
 have HA := Lib.hid ha
 clear ha
 go_enter Tryz.func177, Tryz.ntmps177
 go_wp2
 go_quiet (fail)
 go_wp2
 go_ret
 exact ⟨congrArg (fun x => Ending.returned (.int .u16 x)) (eq_of_beq (lookU lookT36 a HA.out)), drewN_below _ _⟩
theorem pcolour_37 (a : Nat) (ha : a < 4096) (w : World) : Calls Tryz.prog 177 #[.int .u16 (a : Int), .int .i64 4, .int .i64 8] w (LookB a 37 w) := by
 have HA := Lib.hid ha
 clear ha
 go_enter Tryz.func177, Tryz.ntmps177
 go_wp2
 go_quiet (fail)
 go_wp2
 go_ret
 exact ⟨congrArg (fun x => Ending.returned (.int .u16 x)) (eq_of_beq (lookU lookT37 a HA.out)), drewN_below _ _⟩
theorem pcolour_39 (a : Nat) (ha : a < 4096) (w : World) : Calls Tryz.prog 177 #[.int .u16 (a : Int), .int .i64 4, .int .i64 0] w (LookB a 39 w) := by
 have HA := Lib.hid ha
 clear ha
 go_enter Tryz.func177, Tryz.ntmps177
 go_wp2
 go_quiet (fail)
 go_wp2
 go_ret
 exact ⟨congrArg (fun x => Ending.returned (.int .u16 x)) (eq_of_beq (lookU lookC39 a HA.out)), drewN_below _ _⟩
theorem pcolour_40 (a : Nat) (ha : a < 4096) (w : World) : Calls Tryz.prog 177 #[.int .u16 (a : Int), .int .i64 8, .int .i64 1] w (LookB a 40 w) := by
 have HA := Lib.hid ha
 clear ha
 go_enter Tryz.func177, Tryz.ntmps177
 go_wp2
 go_quiet (fail)
 go_wp2
 go_ret
 exact ⟨congrArg (fun x => Ending.returned (.int .u16 x)) (eq_of_beq (lookU lookT40 a HA.out)), drewN_below _ _⟩
theorem pcolour_41 (a : Nat) (ha : a < 4096) (w : World) : Calls Tryz.prog 177 #[.int .u16 (a : Int), .int .i64 8, .int .i64 2] w (LookB a 41 w) := by
 have HA := Lib.hid ha
 clear ha
 go_enter Tryz.func177, Tryz.ntmps177
 go_wp2
 go_quiet (fail)
 go_wp2
 go_ret
 exact ⟨congrArg (fun x => Ending.returned (.int .u16 x)) (eq_of_beq (lookU lookT41 a HA.out)), drewN_below _ _⟩
theorem pcolour_42 (a : Nat) (ha : a < 4096) (w : World) : Calls Tryz.prog 177 #[.int .u16 (a : Int), .int .i64 8, .int .i64 3] w (LookB a 42 w) := by
 have HA := Lib.hid ha
 clear ha
 go_enter Tryz.func177, Tryz.ntmps177
 go_wp2
 go_quiet (fail)
 go_wp2
 go_ret
 exact ⟨congrArg (fun x => Ending.returned (.int .u16 x)) (eq_of_beq (lookU lookT42 a HA.out)), drewN_below _ _⟩
theorem pcolour_43 (a : Nat) (ha : a < 4096) (w : World) : Calls Tryz.prog 177 #[.int .u16 (a : Int), .int .i64 8, .int .i64 4] w (LookB a 43 w) := by
 have HA := Lib.hid ha
 clear ha
 go_enter Tryz.func177, Tryz.ntmps177
 go_wp2
 go_quiet (fail)
 go_wp2
 go_ret
 exact ⟨congrArg (fun x => Ending.returned (.int .u16 x)) (eq_of_beq (lookU lookT43 a HA.out)), drewN_below _ _⟩
theorem pcolour_44 (a : Nat) (ha : a < 4096) (w : World) : Calls Tryz.prog 177 #[.int .u16 (a : Int), .int .i64 8, .int .i64 5] w (LookB a 44 w) := by
 have HA := Lib.hid ha
 clear ha
 go_enter Tryz.func177, Tryz.ntmps177
 go_wp2
 go_quiet (fail)
 go_wp2
 go_ret
 exact ⟨congrArg (fun x => Ending.returned (.int .u16 x)) (eq_of_beq (lookU lookT44 a HA.out)), drewN_below _ _⟩
theorem pcolour_45 (a : Nat) (ha : a < 4096) (w : World) : Calls Tryz.prog 177 #[.int .u16 (a : Int), .int .i64 8, .int .i64 6] w (LookB a 45 w) := by
 have HA := Lib.hid ha
 clear ha
 go_enter Tryz.func177, Tryz.ntmps177
 go_wp2
 go_quiet (fail)
 go_wp2
 go_ret
 exact ⟨congrArg (fun x => Ending.returned (.int .u16 x)) (eq_of_beq (lookU lookT45 a HA.out)), drewN_below _ _⟩
theorem pcolour_46 (a : Nat) (ha : a < 4096) (w : World) : Calls Tryz.prog 177 #[.int .u16 (a : Int), .int .i64 8, .int .i64 7] w (LookB a 46 w) := by
 have HA := Lib.hid ha
 clear ha
 go_enter Tryz.func177, Tryz.ntmps177
 go_wp2
 go_quiet (fail)
 go_wp2
 go_ret
 exact ⟨congrArg (fun x => Ending.returned (.int .u16 x)) (eq_of_beq (lookU lookT46 a HA.out)), drewN_below _ _⟩
theorem pcolour_47 (a : Nat) (ha : a < 4096) (w : World) : Calls Tryz.prog 177 #[.int .u16 (a : Int), .int .i64 8, .int .i64 8] w (LookB a 47 w) := by
 have HA := Lib.hid ha
 clear ha
 go_enter Tryz.func177, Tryz.ntmps177
 go_wp2
 go_quiet (fail)
 go_wp2
 go_ret
 exact ⟨congrArg (fun x => Ending.returned (.int .u16 x)) (eq_of_beq (lookU lookT47 a HA.out)), drewN_below _ _⟩
theorem pcolour_49 (a : Nat) (ha : a < 4096) (w : World) : Calls Tryz.prog 177 #[.int .u16 (a : Int), .int .i64 8, .int .i64 0] w (LookB a 49 w) := by
 have HA := Lib.hid ha
 clear ha
 go_enter Tryz.func177, Tryz.ntmps177
 go_wp2
 go_quiet (fail)
 go_wp2
 go_ret
 exact ⟨congrArg (fun x => Ending.returned (.int .u16 x)) (eq_of_beq (lookU lookC49 a HA.out)), drewN_below _ _⟩
theorem plookB_0 (a : Nat) (ha : a < 4096) (w : World) : Calls Tryz.prog 166 #[.int .u16 (a : Int), .int .i64 0] w (LookB a 0 w) := by
 go_enter Tryz.func166, Tryz.ntmps166
 go_wp2
 go_ret
 exact ⟨rfl, Below.refl _ _⟩
theorem plookB_1 (a : Nat) (ha : a < 4096) (w : World) : Calls Tryz.prog 166 #[.int .u16 (a : Int), .int .i64 1] w (LookB a 1 w) := by
 go_enter Tryz.func166, Tryz.ntmps166
 go_wp2
 go_ret
 exact ⟨congrArg (fun x => Ending.returned (.int .u16 x)) (eq_of_beq (lookU lookT1 a ha)), Below.refl _ _⟩
theorem plookB_4 (a : Nat) (ha : a < 4096) (w : World) : Calls Tryz.prog 166 #[.int .u16 (a : Int), .int .i64 4] w (LookB a 4 w) := by
 go_enter Tryz.func166, Tryz.ntmps166
 go_wp2
 go_ret
 exact ⟨congrArg (fun x => Ending.returned (.int .u16 x)) (eq_of_beq (lookU lookT4 a ha)), Below.refl _ _⟩
theorem plookB_7 (a : Nat) (ha : a < 4096) (w : World) : Calls Tryz.prog 166 #[.int .u16 (a : Int), .int .i64 7] w (LookB a 7 w) := by
 go_enter Tryz.func166, Tryz.ntmps166
 go_wp2
 go_ret
 exact ⟨congrArg (fun x => Ending.returned (.int .u16 x)) (eq_of_beq (lookU lookT7 a ha)), Below.refl _ _⟩
theorem plookB_22 (a : Nat) (ha : a < 4096) (w : World) : Calls Tryz.prog 166 #[.int .u16 (a : Int), .int .i64 22] w (LookB a 22 w) := by
 go_enter Tryz.func166, Tryz.ntmps166
 go_wp2
 go_ret
 exact ⟨congrArg (fun x => Ending.returned (.int .u16 x)) (eq_of_beq (lookU lookT22 a ha)), Below.refl _ _⟩
theorem plookB_24 (a : Nat) (ha : a < 4096) (w : World) : Calls Tryz.prog 166 #[.int .u16 (a : Int), .int .i64 24] w (LookB a 24 w) := by
 go_enter Tryz.func166, Tryz.ntmps166
 go_wp2
 go_ret
 exact ⟨congrArg (fun x => Ending.returned (.int .u16 x)) (eq_of_beq (lookU lookT24 a ha)), Below.refl _ _⟩
theorem plookB_27 (a : Nat) (ha : a < 4096) (w : World) : Calls Tryz.prog 166 #[.int .u16 (a : Int), .int .i64 27] w (LookB a 27 w) := by
 go_enter Tryz.func166, Tryz.ntmps166
 go_wp2
 go_ret
 exact ⟨congrArg (fun x => Ending.returned (.int .u16 x)) (eq_of_beq (lookU lookT27 a ha)), Below.refl _ _⟩
theorem plookB_30 (a : Nat) (ha : a < 4096) (w : World) : Calls Tryz.prog 166 #[.int .u16 (a : Int), .int .i64 30] w (LookB a 30 w) := by
 have HC := Lib.hid (pcolour_30 a ha w)
 go_enter Tryz.func166, Tryz.ntmps166
 go_wp2_with ((with_reducible refine HC.out.mono ?_); rintro e w' ⟨rfl, b4⟩)
 go_ret
 exact ⟨rfl, b4⟩
theorem plookB_31 (a : Nat) (ha : a < 4096) (w : World) : Calls Tryz.prog 166 #[.int .u16 (a : Int), .int .i64 31] w (LookB a 31 w) := by
 have HC := Lib.hid (pcolour_31 a ha w)
 go_enter Tryz.func166, Tryz.ntmps166
 go_wp2_with ((with_reducible refine HC.out.mono ?_); rintro e w' ⟨rfl, b4⟩)
 go_ret
 exact ⟨rfl, b4⟩
theorem plookB_32 (a : Nat) (ha : a < 4096) (w : World) : Calls Tryz.prog 166 #[.int .u16 (a : Int), .int .i64 32] w (LookB a 32 w) := by
 have HC := Lib.hid (pcolour_32 a ha w)
 go_enter Tryz.func166, Tryz.ntmps166
 go_wp2_with ((with_reducible refine HC.out.mono ?_); rintro e w' ⟨rfl, b4⟩)
 go_ret
 exact ⟨rfl, b4⟩
theorem plookB_33 (a : Nat) (ha : a < 4096) (w : World) : Calls Tryz.prog 166 #[.int .u16 (a : Int), .int .i64 33] w (LookB a 33 w) := by
 have HC := Lib.hid (pcolour_33 a ha w)
 go_enter Tryz.func166, Tryz.ntmps166
 go_wp2_with ((with_reducible refine HC.out.mono ?_); rintro e w' ⟨rfl, b4⟩)
 go_ret
 exact ⟨rfl, b4⟩
theorem plookB_34 (a : Nat) (ha : a < 4096) (w : World) : Calls Tryz.prog 166 #[.int .u16 (a : Int), .int .i64 34] w (LookB a 34 w) := by
 have HC := Lib.hid (pcolour_34 a ha w)
 go_enter Tryz.func166, Tryz.ntmps166
 go_wp2_with ((with_reducible refine HC.out.mono ?_); rintro e w' ⟨rfl, b4⟩)
 go_ret
 exact ⟨rfl, b4⟩
theorem plookB_35 (a : Nat) (ha : a < 4096) (w : World) : Calls Tryz.prog 166 #[.int .u16 (a : Int), .int .i64 35] w (LookB a 35 w) := by
 have HC := Lib.hid (pcolour_35 a ha w)
 go_enter Tryz.func166, Tryz.ntmps166
 go_wp2_with ((with_reducible refine HC.out.mono ?_); rintro e w' ⟨rfl, b4⟩)
 go_ret
 exact ⟨rfl, b4⟩
theorem plookB_36 (a : Nat) (ha : a < 4096) (w : World) : Calls Tryz.prog 166 #[.int .u16 (a : Int), .int .i64 36] w (LookB a 36 w) := by
 have HC := Lib.hid (pcolour_36 a ha w)
 go_enter Tryz.func166, Tryz.ntmps166
 go_wp2_with ((with_reducible refine HC.out.mono ?_); rintro e w' ⟨rfl, b4⟩)
 go_ret
 exact ⟨rfl, b4⟩
theorem plookB_37 (a : Nat) (ha : a < 4096) (w : World) : Calls Tryz.prog 166 #[.int .u16 (a : Int), .int .i64 37] w (LookB a 37 w) := by
 have HC := Lib.hid (pcolour_37 a ha w)
 go_enter Tryz.func166, Tryz.ntmps166
 go_wp2_with ((with_reducible refine HC.out.mono ?_); rintro e w' ⟨rfl, b4⟩)
 go_ret
 exact ⟨rfl, b4⟩
theorem plookB_39 (a : Nat) (ha : a < 4096) (w : World) : Calls Tryz.prog 166 #[.int .u16 (a : Int), .int .i64 39] w (LookB a 39 w) := by
 have HC := Lib.hid (pcolour_39 a ha w)
 go_enter Tryz.func166, Tryz.ntmps166
 go_wp2_with ((with_reducible refine HC.out.mono ?_); rintro e w' ⟨rfl, b4⟩)
 go_ret
 exact ⟨rfl, b4⟩
theorem plookB_40 (a : Nat) (ha : a < 4096) (w : World) : Calls Tryz.prog 166 #[.int .u16 (a : Int), .int .i64 40] w (LookB a 40 w) := by
 have HC := Lib.hid (pcolour_40 a ha w)
 go_enter Tryz.func166, Tryz.ntmps166
 go_wp2_with ((with_reducible refine HC.out.mono ?_); rintro e w' ⟨rfl, b4⟩)
 go_ret
 exact ⟨rfl, b4⟩
theorem plookB_41 (a : Nat) (ha : a < 4096) (w : World) : Calls Tryz.prog 166 #[.int .u16 (a : Int), .int .i64 41] w (LookB a 41 w) := by
 have HC := Lib.hid (pcolour_41 a ha w)
 go_enter Tryz.func166, Tryz.ntmps166
 go_wp2_with ((with_reducible refine HC.out.mono ?_); rintro e w' ⟨rfl, b4⟩)
 go_ret
 exact ⟨rfl, b4⟩
theorem plookB_42 (a : Nat) (ha : a < 4096) (w : World) : Calls Tryz.prog 166 #[.int .u16 (a : Int), .int .i64 42] w (LookB a 42 w) := by
 have HC := Lib.hid (pcolour_42 a ha w)
 go_enter Tryz.func166, Tryz.ntmps166
 go_wp2_with ((with_reducible refine HC.out.mono ?_); rintro e w' ⟨rfl, b4⟩)
 go_ret
 exact ⟨rfl, b4⟩
theorem plookB_43 (a : Nat) (ha : a < 4096) (w : World) : Calls Tryz.prog 166 #[.int .u16 (a : Int), .int .i64 43] w (LookB a 43 w) := by
 have HC := Lib.hid (pcolour_43 a ha w)
 go_enter Tryz.func166, Tryz.ntmps166
 go_wp2_with ((with_reducible refine HC.out.mono ?_); rintro e w' ⟨rfl, b4⟩)
 go_ret
 exact ⟨rfl, b4⟩
theorem plookB_44 (a : Nat) (ha : a < 4096) (w : World) : Calls Tryz.prog 166 #[.int .u16 (a : Int), .int .i64 44] w (LookB a 44 w) := by
 have HC := Lib.hid (pcolour_44 a ha w)
 go_enter Tryz.func166, Tryz.ntmps166
 go_wp2_with ((with_reducible refine HC.out.mono ?_); rintro e w' ⟨rfl, b4⟩)
 go_ret
 exact ⟨rfl, b4⟩
theorem plookB_45 (a : Nat) (ha : a < 4096) (w : World) : Calls Tryz.prog 166 #[.int .u16 (a : Int), .int .i64 45] w (LookB a 45 w) := by
 have HC := Lib.hid (pcolour_45 a ha w)
 go_enter Tryz.func166, Tryz.ntmps166
 go_wp2_with ((with_reducible refine HC.out.mono ?_); rintro e w' ⟨rfl, b4⟩)
 go_ret
 exact ⟨rfl, b4⟩
theorem plookB_46 (a : Nat) (ha : a < 4096) (w : World) : Calls Tryz.prog 166 #[.int .u16 (a : Int), .int .i64 46] w (LookB a 46 w) := by
 have HC := Lib.hid (pcolour_46 a ha w)
 go_enter Tryz.func166, Tryz.ntmps166
 go_wp2_with ((with_reducible refine HC.out.mono ?_); rintro e w' ⟨rfl, b4⟩)
 go_ret
 exact ⟨rfl, b4⟩
theorem plookB_47 (a : Nat) (ha : a < 4096) (w : World) : Calls Tryz.prog 166 #[.int .u16 (a : Int), .int .i64 47] w (LookB a 47 w) := by
 have HC := Lib.hid (pcolour_47 a ha w)
 go_enter Tryz.func166, Tryz.ntmps166
 go_wp2_with ((with_reducible refine HC.out.mono ?_); rintro e w' ⟨rfl, b4⟩)
 go_ret
 exact ⟨rfl, b4⟩
theorem plookB_49 (a : Nat) (ha : a < 4096) (w : World) : Calls Tryz.prog 166 #[.int .u16 (a : Int), .int .i64 49] w (LookB a 49 w) := by
 have HC := Lib.hid (pcolour_49 a ha w)
 go_enter Tryz.func166, Tryz.ntmps166
 go_wp2_with ((with_reducible refine HC.out.mono ?_); rintro e w' ⟨rfl, b4⟩)
 go_ret
 exact ⟨rfl, b4⟩
theorem plookB_no (a : Nat) (k : Int) (w : World) (hn : ¬ (k = 0 ∨ k = 1 ∨ k = 4 ∨ k = 7 ∨ k = 22 ∨ k = 24 ∨ k = 27 ∨ (30 ≤ k ∧ k ≤ 37) ∨ k = 39 ∨ (40 ≤ k ∧ k ≤ 47) ∨ k = 49)) : Calls Tryz.prog 166 #[.int .u16 (a : Int), .int .i64 k] w (LookB a k w) := by
 have hl : lookN a k = a := by
  unfold lookN
  rw [if_neg (by omega), if_neg (by omega), if_neg (by omega), if_neg (by omega), if_neg (by omega), if_neg (by omega), if_neg (by omega), if_neg (by omega), if_neg (by omega), if_neg (by omega), if_neg (by omega)]
 have n0 : (k == 0) = false := by simp; omega
 have n1 : (k == 1) = false := by simp; omega
 have n4 : (k == 4) = false := by simp; omega
 have n7 : (k == 7) = false := by simp; omega
 have n22 : (k == 22) = false := by simp; omega
 have n24 : (k == 24) = false := by simp; omega
 have n27 : (k == 27) = false := by simp; omega
 have n39 : (k == 39) = false := by simp; omega
 have n49 : (k == 49) = false := by simp; omega
 have HL := Lib.hid hl
 have m1 : k < 30 ∨ (38 ≤ k ∧ k < 40) ∨ 48 ≤ k := by omega
 clear hl hn
 rcases m1 with m | ⟨m, m2⟩ | m
 ·go_enter Tryz.func166, Tryz.ntmps166
  go_wp2
  go_ret
  exact ⟨by rw [HL.out]; rfl, Below.refl _ _⟩
 ·have m3 : 30 ≤ k := by omega
  have m4 : ¬ k < 38 := by omega
  go_enter Tryz.func166, Tryz.ntmps166
  go_wp2
  go_ret
  exact ⟨by rw [HL.out]; rfl, Below.refl _ _⟩
 ·have m3 : 30 ≤ k := by omega
  have m4 : ¬ k < 38 := by omega
  have m5 : 40 ≤ k := by omega
  have m6 : ¬ k < 48 := by omega
  go_enter Tryz.func166, Tryz.ntmps166
  go_wp2
  go_ret
  exact ⟨by rw [HL.out]; rfl, Below.refl _ _⟩
theorem plookB_any (a : Nat) (k : Int) (ha : a < 4096) (w : World) : Calls Tryz.prog 166 #[.int .u16 (a : Int), .int .i64 k] w (LookB a k w) := by
 by_cases h0 : k = 0
 ·subst h0; exact plookB_0 a ha w
 by_cases h1 : k = 1
 ·subst h1; exact plookB_1 a ha w
 by_cases h4 : k = 4
 ·subst h4; exact plookB_4 a ha w
 by_cases h7 : k = 7
 ·subst h7; exact plookB_7 a ha w
 by_cases h22 : k = 22
 ·subst h22; exact plookB_22 a ha w
 by_cases h24 : k = 24
 ·subst h24; exact plookB_24 a ha w
 by_cases h27 : k = 27
 ·subst h27; exact plookB_27 a ha w
 by_cases h30 : k = 30
 ·subst h30; exact plookB_30 a ha w
 by_cases h31 : k = 31
 ·subst h31; exact plookB_31 a ha w
 by_cases h32 : k = 32
 ·subst h32; exact plookB_32 a ha w
 by_cases h33 : k = 33
 ·subst h33; exact plookB_33 a ha w
 by_cases h34 : k = 34
 ·subst h34; exact plookB_34 a ha w
 by_cases h35 : k = 35
 ·subst h35; exact plookB_35 a ha w
 by_cases h36 : k = 36
 ·subst h36; exact plookB_36 a ha w
 by_cases h37 : k = 37
 ·subst h37; exact plookB_37 a ha w
 by_cases h39 : k = 39
 ·subst h39; exact plookB_39 a ha w
 by_cases h40 : k = 40
 ·subst h40; exact plookB_40 a ha w
 by_cases h41 : k = 41
 ·subst h41; exact plookB_41 a ha w
 by_cases h42 : k = 42
 ·subst h42; exact plookB_42 a ha w
 by_cases h43 : k = 43
 ·subst h43; exact plookB_43 a ha w
 by_cases h44 : k = 44
 ·subst h44; exact plookB_44 a ha w
 by_cases h45 : k = 45
 ·subst h45; exact plookB_45 a ha w
 by_cases h46 : k = 46
 ·subst h46; exact plookB_46 a ha w
 by_cases h47 : k = 47
 ·subst h47; exact plookB_47 a ha w
 by_cases h49 : k = 49
 ·subst h49; exact plookB_49 a ha w
 exact plookB_no a k w (by omega)
def LkRel (a : Nat) (l : List Int) (w : World) (s0 i : Value) (wr : World) : Prop := ∃ j : Nat, j ≤ l.length ∧ i = .int .i64 (j : Int) ∧ s0 = .int .u16 (((l.take j).foldl lookN a : Nat) : Int) ∧ Below w.heap.size w wr
theorem plook_any (a : Nat) (vp : Value) (l : List Int) (T : Nat → Prop) (w : World) (hT : ∀ x, T x → x < w.heap.size) (hl : SL vI w T vp l) (hll : l.length ≤ 1048576) (ha : attrB a = true) :
  Calls Tryz.prog 149 #[.int .u16 (a : Int), vp] w fun e w' => e = .returned (.int .u16 ((if l.length = 0 then 0 else l.foldl lookN a : Nat) : Int)) ∧ Below w.heap.size w w' := by
 have HT := Lib.hid hT
 have HA := Lib.hid ha
 obtain ⟨AP, kP, rfl, pP, qP⟩ := hl.form
 have HLI := Lib.hid hl
 clear hT hl ha
 by_cases h0 : l.length = 0
 ·rw [if_pos h0, h0]
  clear HLI
  rw [h0] at pP
  go_enter Tryz.func149, Tryz.ntmps149
  go_wp2
  go_ret
  exact ⟨rfl, Below.refl _ _⟩
 rw [if_neg h0]
 have h1 : ((l.length : Int) == 0) = false := by rw [beq_eq_false_iff_ne]; omega
 clear h0
 go_enter Tryz.func149, Tryz.ntmps149
 go_wp2
 go_loopw [0, 12] (fun s0 i wr => LkRel a l w s0 i wr) (fun _ i _ => l.length - (intOf i).toNat)
 case atStart => exact ⟨0, Nat.zero_le _, rfl, rfl, Below.refl _ _⟩
 case round =>
  obtain ⟨j, hj, rfl, rfl, hbel⟩ := hrel
  by_cases hlt : j < l.length
  ·obtain ⟨x, hx⟩ : ∃ x, l[j]? = some x := ⟨_, List.getElem?_eq_getElem hlt⟩
   obtain ⟨ad, rfl, hb0, e1⟩ := (HLI.out.keep (w' := wr) (fun q hq => hbel.cell (HT.out _ hq))).getI j x hx
   have HB := Lib.hid hbel
   have hat : attrB ((l.take j).foldl lookN a) = true := foldl_look_ok _ a HA.out
   have hnx : (l.take (j + 1)).foldl lookN a = lookN ((l.take j).foldl lookN a) x := by
    rw [List.take_add_one, hx, List.foldl_append]
    rfl
   generalize (l.take j).foldl lookN a = aj at *
   have HC := Lib.hid (fun W => plookB_any aj x (attrB_lt hat) W)
   have HN := Lib.hid hnx
   have hji : (j : Int) < (l.length : Int) := by omega
   clear hbel hat hnx hx
   go_wp2_with ((with_reducible refine (HC.out _).mono ?_); rintro e w4 ⟨rfl, b4⟩)
   go_roundw
   case rel => exact ⟨j + 1, hlt, by go_num, by rw [HN.out], HB.out.trans (b4.mono HB.out.size)⟩
   case measure => simp [intOf]; omega
  ·obtain rfl : j = l.length := by omega
   have HB := Lib.hid hbel
   clear hbel
   go_wp2
   go_ret
   exact ⟨by rw [List.take_of_length_le (Nat.le_refl _)]; rfl, HB.out⟩
end Go.Proofs.YtlolgfgcgfjdjaaGreatDoor

namespace Go.Proofs.YtlolgfgcgfjdjaaGreatDoor
open Go.RowKit
set_option linter.unusedVariables false
set_option linter.unusedSimpArgs false
set_option maxHeartbeats 2000000
set_option maxRecDepth 100000
theorem paramL_ge {l : List Int} (h : ∀ x ∈ l, 0 ≤ x) (i : Nat) (u : Int) (hu : 0 ≤ u) : 0 ≤ paramL l i u := by
 have := SL.getD0 h i
 unfold paramL
 split <;> omega
theorem perase_Jany (s : Sc) (r c : Nat) (vc vt vo : Value) (A4 A5 A6 : Option Addr) (n4 n5 n6 k4 k5 k6 : Nat) (base : Nat) (w : World) (hbase : base ≤ w.heap.size) (h : PsL w base vc vt vo s) (hi : ScIn { s with wrap := false } r c) (vp : Value) (l : List Int) (T : Nat → Prop) (hT : ∀ x, T x → x < w.heap.size) (hl : SL vI w T vp l) (hll : l.length ≤ 1048576) (hw : Whole s.cells r c) (h0 : ∀ x ∈ l, 0 ≤ x) :
  Calls Tryz.prog 144 #[.agg (vS s vc vt vo (.slice A4 n4 k4) (.slice A5 n5 k5) (.slice A6 n6 k6)), vp, .int .u8 74] w (PsPost base vc vt vo (eraseS s false (paramL l 0 0)) w) := by
 have hk := paramL_ge h0 0 0 (Int.le_refl _)
 by_cases k0 : paramL l 0 0 = 0
 ·exact perase_J0 s r c vc vt vo A4 A5 A6 n4 n5 n6 k4 k5 k6 base w hbase h hi vp l T hT hl hll hw k0
 by_cases k1' : paramL l 0 0 = 1
 ·exact perase_J1 s r c vc vt vo A4 A5 A6 n4 n5 n6 k4 k5 k6 base w hbase h hi vp l T hT hl hll hw k1'
 by_cases k2' : paramL l 0 0 = 2
 ·exact perase_J2 s r c vc vt vo A4 A5 A6 n4 n5 n6 k4 k5 k6 base w hbase h hi vp l T hT hl hll hw k2'
 exact perase_Jn s r c vc vt vo A4 A5 A6 n4 n5 n6 k4 k5 k6 base w hbase h hi vp l T hT hl hll hw (by omega)
theorem perase_Kany (s : Sc) (r c : Nat) (vc vt vo : Value) (A4 A5 A6 : Option Addr) (n4 n5 n6 k4 k5 k6 : Nat) (base : Nat) (w : World) (hbase : base ≤ w.heap.size) (h : PsL w base vc vt vo s) (hi : ScIn { s with wrap := false } r c) (vp : Value) (l : List Int) (T : Nat → Prop) (hT : ∀ x, T x → x < w.heap.size) (hl : SL vI w T vp l) (hll : l.length ≤ 1048576) (hw : Whole s.cells r c) (h0 : ∀ x ∈ l, 0 ≤ x) :
  Calls Tryz.prog 144 #[.agg (vS s vc vt vo (.slice A4 n4 k4) (.slice A5 n5 k5) (.slice A6 n6 k6)), vp, .int .u8 75] w (PsPost base vc vt vo (eraseS s true (paramL l 0 0)) w) := by
 have hk := paramL_ge h0 0 0 (Int.le_refl _)
 by_cases k0 : paramL l 0 0 = 0
 ·exact perase_K0 s r c vc vt vo A4 A5 A6 n4 n5 n6 k4 k5 k6 base w hbase h hi vp l T hT hl hll hw k0
 by_cases k1' : paramL l 0 0 = 1
 ·exact perase_K1 s r c vc vt vo A4 A5 A6 n4 n5 n6 k4 k5 k6 base w hbase h hi vp l T hT hl hll hw k1'
 by_cases k2' : paramL l 0 0 = 2
 ·exact perase_K2 s r c vc vt vo A4 A5 A6 n4 n5 n6 k4 k5 k6 base w hbase h hi vp l T hT hl hll hw k2'
 exact perase_Kn s r c vc vt vo A4 A5 A6 n4 n5 n6 k4 k5 k6 base w hbase h hi vp l T hT hl hll hw (by omega)
theorem pdrop_any (s : Sc) (r c : Nat) (vc vt vo : Value) (A4 A5 A6 : Option Addr) (n4 n5 n6 k4 k5 k6 : Nat) (base : Nat) (w : World) (hbase : base ≤ w.heap.size) (h : PsL w base vc vt vo s) (hi : ScIn { s with wrap := false } r c) (vp : Value) (l : List Int) (T : Nat → Prop) (hT : ∀ x, T x → x < w.heap.size) (hl : SL vI w T vp l) (hll : l.length ≤ 1048576)  :
  Calls Tryz.prog 148 #[.agg (vS s vc vt vo (.slice A4 n4 k4) (.slice A5 n5 k5) (.slice A6 n6 k6)), vp] w (PsPost base vc vt vo (if paramL l 0 0 = 0 then { s with tabs := s.tabs.set s.x.toNat false } else if paramL l 0 0 = 3 then { s with tabs := List.replicate s.cols.toNat false } else s) w) := by
 by_cases k0 : paramL l 0 0 = 0
 ·rw [if_pos k0]
  exact pdrop_0 s r c vc vt vo A4 A5 A6 n4 n5 n6 k4 k5 k6 base w hbase h hi vp l T hT hl hll k0
 rw [if_neg k0]
 by_cases k1' : paramL l 0 0 = 3
 ·rw [if_pos k1']
  exact pdrop_3 s r c vc vt vo A4 A5 A6 n4 n5 n6 k4 k5 k6 base w hbase h hi vp l T hT hl hll k1'
 rw [if_neg k1']
 exact pdrop_n s r c vc vt vo A4 A5 A6 n4 n5 n6 k4 k5 k6 base w hbase h hi vp l T hT hl hll k0 k1'
theorem pregion_any (s : Sc) (r c : Nat) (vc vt vo : Value) (A4 A5 A6 : Option Addr) (n4 n5 n6 k4 k5 k6 : Nat) (base : Nat) (w : World) (hbase : base ≤ w.heap.size) (h : PsL w base vc vt vo s) (hi : ScIn { s with wrap := false } r c) (vp : Value) (l : List Int) (T : Nat → Prop) (hT : ∀ x, T x → x < w.heap.size) (hl : SL vI w T vp l) (hll : l.length ≤ 1048576) (h0 : ∀ x ∈ l, 0 ≤ x) :
  Calls Tryz.prog 147 #[.agg (vS s vc vt vo (.slice A4 n4 k4) (.slice A5 n5 k5) (.slice A6 n6 k6)), vp] w (PsPost base vc vt vo (if paramL l 0 1 - 1 < min (paramL l 1 s.rows) s.rows - 1 then { toS s 0 0 with top := paramL l 0 1 - 1, bottom := min (paramL l 1 s.rows) s.rows - 1 } else s) w) := by
 by_cases hy : paramL l 0 1 - 1 < min (paramL l 1 s.rows) s.rows - 1
 ·rw [if_pos hy]
  by_cases h2 : l.getD 1 0 = 0
  ·rcases Nat.lt_or_ge 1 l.length with g | g
   ·exact pregion_21 s r c vc vt vo A4 A5 A6 n4 n5 n6 k4 k5 k6 base w hbase h hi vp l T hT hl hll h0 h2 g hy
   ·exact pregion_01 s r c vc vt vo A4 A5 A6 n4 n5 n6 k4 k5 k6 base w hbase h hi vp l T hT hl hll h0 h2 g hy
  ·exact pregion_11 s r c vc vt vo A4 A5 A6 n4 n5 n6 k4 k5 k6 base w hbase h hi vp l T hT hl hll h0 h2 hy
 ·rw [if_neg hy]
  by_cases h2 : l.getD 1 0 = 0
  ·rcases Nat.lt_or_ge 1 l.length with g | g
   ·exact pregion_20 s r c vc vt vo A4 A5 A6 n4 n5 n6 k4 k5 k6 base w hbase h hi vp l T hT hl hll h0 h2 g hy
   ·exact pregion_00 s r c vc vt vo A4 A5 A6 n4 n5 n6 k4 k5 k6 base w hbase h hi vp l T hT hl hll h0 h2 g hy
  ·exact pregion_10 s r c vc vt vo A4 A5 A6 n4 n5 n6 k4 k5 k6 base w hbase h hi vp l T hT hl hll h0 h2 hy
theorem pshift_76any (s : Sc) (r c : Nat) (vc vt vo : Value) (A4 A5 A6 : Option Addr) (n4 n5 n6 k4 k5 k6 : Nat) (base : Nat) (w : World) (hbase : base ≤ w.heap.size) (h : PsL w base vc vt vo s) (hi : ScIn { s with wrap := false } r c) (vp : Value) (l : List Int) (T : Nat → Prop) (hT : ∀ x, T x → x < w.heap.size) (hl : SL vI w T vp l) (hll : l.length ≤ 1048576)  :
  Calls Tryz.prog 145 #[.agg (vS s vc vt vo (.slice A4 n4 k4) (.slice A5 n5 k5) (.slice A6 n6 k6)), vp, .int .u8 76] w (PsPost base vc vt vo (if s.top ≤ s.y ∧ s.y ≤ s.bottom then { s with wrap := false, x := 0, cells := downL s.cells s.cols s.y s.bottom (paramL l 0 1) } else { s with wrap := false }) w) := by
 by_cases g : s.top ≤ s.y ∧ s.y ≤ s.bottom
 ·rw [if_pos g]
  exact pshift_76 s r c vc vt vo A4 A5 A6 n4 n5 n6 k4 k5 k6 base w hbase h hi vp l T hT hl hll g
 ·rw [if_neg g]
  exact pshift_76n s r c vc vt vo A4 A5 A6 n4 n5 n6 k4 k5 k6 base w hbase h hi vp l T hT hl hll g
theorem pshift_77any (s : Sc) (r c : Nat) (vc vt vo : Value) (A4 A5 A6 : Option Addr) (n4 n5 n6 k4 k5 k6 : Nat) (base : Nat) (w : World) (hbase : base ≤ w.heap.size) (h : PsL w base vc vt vo s) (hi : ScIn { s with wrap := false } r c) (vp : Value) (l : List Int) (T : Nat → Prop) (hT : ∀ x, T x → x < w.heap.size) (hl : SL vI w T vp l) (hll : l.length ≤ 1048576)  :
  Calls Tryz.prog 145 #[.agg (vS s vc vt vo (.slice A4 n4 k4) (.slice A5 n5 k5) (.slice A6 n6 k6)), vp, .int .u8 77] w (PsPost base vc vt vo (if s.top ≤ s.y ∧ s.y ≤ s.bottom then { s with wrap := false, x := 0, cells := upL s.cells s.cols s.y s.bottom (paramL l 0 1) } else { s with wrap := false }) w) := by
 by_cases g : s.top ≤ s.y ∧ s.y ≤ s.bottom
 ·rw [if_pos g]
  exact pshift_77 s r c vc vt vo A4 A5 A6 n4 n5 n6 k4 k5 k6 base w hbase h hi vp l T hT hl hll g
 ·rw [if_neg g]
  exact pshift_77n s r c vc vt vo A4 A5 A6 n4 n5 n6 k4 k5 k6 base w hbase h hi vp l T hT hl hll g
theorem pusual_65 (s : Sc) (r c : Nat) (vc vt vo : Value) (A4 A5 A6 : Option Addr) (n4 n5 n6 k4 k5 k6 : Nat) (base : Nat) (w : World) (hbase : base ≤ w.heap.size) (h : PsL w base vc vt vo s) (hi : ScIn { s with wrap := false } r c) (vp : Value) (l : List Int) (T : Nat → Prop) (hT : ∀ x, T x → x < w.heap.size) (hl : SL vI w T vp l) (hll : l.length ≤ 1048576) (hw : Whole s.cells r c) (h0 : ∀ x ∈ l, 0 ≤ x) :
  Calls Tryz.prog 111 #[.agg (vS s vc vt vo (.slice A4 n4 k4) (.slice A5 n5 k5) (.slice A6 n6 k6)), vp, .int .u8 65] w (PsPost base vc vt vo (toS s (s.y - paramL l 0 1) (s.x)) w) := by
 have H0 := Lib.hid (show ∀ x, OwB vc vt vo x → x < w.heap.size from fun x hx => (h.lt x hx).2)
 have HW := Lib.hid hw
 have HL0 := Lib.hid h0
 clear hw h0
 obtain ⟨g1, k1, g2, k2, A3, k3, rfl, rfl, rfl, ⟨b1, l1, p1, q1⟩, ⟨b2, l2, p2, q2⟩, p3, q3⟩ := h.open_ hi
 have H := Lib.hid h
 have HI := Lib.hid hi
 obtain ⟨hlen, hr1, hr2, hc1, hc2, HR, HCO, hr3, hr4, hc3, hc4, y0, y1, x0, x1, t0, t1, u1⟩ := pIn hi
 clear h hi
 have HT := Lib.hid hT
 obtain ⟨AP, kP, rfl, pP, qP⟩ := hl.form
 have HLI := Lib.hid hl
 clear hT hl
 have HTW : Hid (∀ x, T x → x < ((w.alloc (.cells (vS s (.slice (some ⟨g1, 0, none⟩) s.cells.length k1) (.slice (some ⟨g2, 0, none⟩) s.tabs.length k2) (.slice A3 s.other.length k3) (.slice A4 n4 k4) (.slice A5 n5 k5) (.slice A6 n6 k6)) 31)).alloc (.cells zQ 31)).heap.size) := fun x hx => Nat.lt_of_lt_of_le (HT.out x hx) (two_new w _ _).1.size
 have HLW := Lib.hid (HLI.out.keep (w' := (w.alloc (.cells (vS s (.slice (some ⟨g1, 0, none⟩) s.cells.length k1) (.slice (some ⟨g2, 0, none⟩) s.tabs.length k2) (.slice A3 s.other.length k3) (.slice A4 n4 k4) (.slice A5 n5 k5) (.slice A6 n6 k6)) 31)).alloc (.cells zQ 31)) (fun q hq => (two_new w _ _).1.cell (HT.out _ hq)))
 go_enter Tryz.func111, Tryz.ntmps111
 go_upto_region 11 with fail
 refine wp_region_lit ?_
 refine wpl_loadS rfl (.tmp 3) rfl rfl (heap_a1 w _ _) rfl ?_
 go_wp2_with fail
 ((with_reducible refine (pmove_65 s r c _ _ _ A4 A5 A6 n4 n5 n6 k4 k5 k6 base _ (by simp; omega) (((H.out.alloc _).alloc _).like rfl rfl rfl) HI.out _ l T HTW.out HLW.out hll ).mono ?_); rintro e w4 ⟨uc, ut, uo, up, ui, uu, rfl, hsl, hs4, hf4, hsub4⟩)
 have f1 := hf4.var (heap_a2 w _ _) (H.out.far (by omega))
 rename_i K hK
 refine hK _ _ ?_
 refine wpl_storeS rfl (.tmp 6) (.tmp 21) rfl rfl rfl f1 rfl rfl (hs4.one hsl) ?_
 go_wp2
 refine psEndV (w.heap.size + 1) 6 Tryz.results111 rfl rfl f1 (by omega) (by simp) (H.out.far (by omega)) (Fr.of (two_new w _ _).1 _) (fun x hx => .inl hx) hsl hs4 hf4 hsub4
theorem pusual_66 (s : Sc) (r c : Nat) (vc vt vo : Value) (A4 A5 A6 : Option Addr) (n4 n5 n6 k4 k5 k6 : Nat) (base : Nat) (w : World) (hbase : base ≤ w.heap.size) (h : PsL w base vc vt vo s) (hi : ScIn { s with wrap := false } r c) (vp : Value) (l : List Int) (T : Nat → Prop) (hT : ∀ x, T x → x < w.heap.size) (hl : SL vI w T vp l) (hll : l.length ≤ 1048576) (hw : Whole s.cells r c) (h0 : ∀ x ∈ l, 0 ≤ x) :
  Calls Tryz.prog 111 #[.agg (vS s vc vt vo (.slice A4 n4 k4) (.slice A5 n5 k5) (.slice A6 n6 k6)), vp, .int .u8 66] w (PsPost base vc vt vo (toS s (s.y + paramL l 0 1) (s.x)) w) := by
 have H0 := Lib.hid (show ∀ x, OwB vc vt vo x → x < w.heap.size from fun x hx => (h.lt x hx).2)
 have HW := Lib.hid hw
 have HL0 := Lib.hid h0
 clear hw h0
 obtain ⟨g1, k1, g2, k2, A3, k3, rfl, rfl, rfl, ⟨b1, l1, p1, q1⟩, ⟨b2, l2, p2, q2⟩, p3, q3⟩ := h.open_ hi
 have H := Lib.hid h
 have HI := Lib.hid hi
 obtain ⟨hlen, hr1, hr2, hc1, hc2, HR, HCO, hr3, hr4, hc3, hc4, y0, y1, x0, x1, t0, t1, u1⟩ := pIn hi
 clear h hi
 have HT := Lib.hid hT
 obtain ⟨AP, kP, rfl, pP, qP⟩ := hl.form
 have HLI := Lib.hid hl
 clear hT hl
 have HTW : Hid (∀ x, T x → x < ((w.alloc (.cells (vS s (.slice (some ⟨g1, 0, none⟩) s.cells.length k1) (.slice (some ⟨g2, 0, none⟩) s.tabs.length k2) (.slice A3 s.other.length k3) (.slice A4 n4 k4) (.slice A5 n5 k5) (.slice A6 n6 k6)) 31)).alloc (.cells zQ 31)).heap.size) := fun x hx => Nat.lt_of_lt_of_le (HT.out x hx) (two_new w _ _).1.size
 have HLW := Lib.hid (HLI.out.keep (w' := (w.alloc (.cells (vS s (.slice (some ⟨g1, 0, none⟩) s.cells.length k1) (.slice (some ⟨g2, 0, none⟩) s.tabs.length k2) (.slice A3 s.other.length k3) (.slice A4 n4 k4) (.slice A5 n5 k5) (.slice A6 n6 k6)) 31)).alloc (.cells zQ 31)) (fun q hq => (two_new w _ _).1.cell (HT.out _ hq)))
 go_enter Tryz.func111, Tryz.ntmps111
 go_upto_region 11 with fail
 refine wp_region_lit ?_
 refine wpl_loadS rfl (.tmp 3) rfl rfl (heap_a1 w _ _) rfl ?_
 go_wp2_with fail
 ((with_reducible refine (pmove_66 s r c _ _ _ A4 A5 A6 n4 n5 n6 k4 k5 k6 base _ (by simp; omega) (((H.out.alloc _).alloc _).like rfl rfl rfl) HI.out _ l T HTW.out HLW.out hll ).mono ?_); rintro e w4 ⟨uc, ut, uo, up, ui, uu, rfl, hsl, hs4, hf4, hsub4⟩)
 have f1 := hf4.var (heap_a2 w _ _) (H.out.far (by omega))
 rename_i K hK
 refine hK _ _ ?_
 refine wpl_storeS rfl (.tmp 6) (.tmp 21) rfl rfl rfl f1 rfl rfl (hs4.one hsl) ?_
 go_wp2
 refine psEndV (w.heap.size + 1) 6 Tryz.results111 rfl rfl f1 (by omega) (by simp) (H.out.far (by omega)) (Fr.of (two_new w _ _).1 _) (fun x hx => .inl hx) hsl hs4 hf4 hsub4
theorem pusual_67 (s : Sc) (r c : Nat) (vc vt vo : Value) (A4 A5 A6 : Option Addr) (n4 n5 n6 k4 k5 k6 : Nat) (base : Nat) (w : World) (hbase : base ≤ w.heap.size) (h : PsL w base vc vt vo s) (hi : ScIn { s with wrap := false } r c) (vp : Value) (l : List Int) (T : Nat → Prop) (hT : ∀ x, T x → x < w.heap.size) (hl : SL vI w T vp l) (hll : l.length ≤ 1048576) (hw : Whole s.cells r c) (h0 : ∀ x ∈ l, 0 ≤ x) :
  Calls Tryz.prog 111 #[.agg (vS s vc vt vo (.slice A4 n4 k4) (.slice A5 n5 k5) (.slice A6 n6 k6)), vp, .int .u8 67] w (PsPost base vc vt vo (toS s (s.y) (s.x + paramL l 0 1)) w) := by
 have H0 := Lib.hid (show ∀ x, OwB vc vt vo x → x < w.heap.size from fun x hx => (h.lt x hx).2)
 have HW := Lib.hid hw
 have HL0 := Lib.hid h0
 clear hw h0
 obtain ⟨g1, k1, g2, k2, A3, k3, rfl, rfl, rfl, ⟨b1, l1, p1, q1⟩, ⟨b2, l2, p2, q2⟩, p3, q3⟩ := h.open_ hi
 have H := Lib.hid h
 have HI := Lib.hid hi
 obtain ⟨hlen, hr1, hr2, hc1, hc2, HR, HCO, hr3, hr4, hc3, hc4, y0, y1, x0, x1, t0, t1, u1⟩ := pIn hi
 clear h hi
 have HT := Lib.hid hT
 obtain ⟨AP, kP, rfl, pP, qP⟩ := hl.form
 have HLI := Lib.hid hl
 clear hT hl
 have HTW : Hid (∀ x, T x → x < ((w.alloc (.cells (vS s (.slice (some ⟨g1, 0, none⟩) s.cells.length k1) (.slice (some ⟨g2, 0, none⟩) s.tabs.length k2) (.slice A3 s.other.length k3) (.slice A4 n4 k4) (.slice A5 n5 k5) (.slice A6 n6 k6)) 31)).alloc (.cells zQ 31)).heap.size) := fun x hx => Nat.lt_of_lt_of_le (HT.out x hx) (two_new w _ _).1.size
 have HLW := Lib.hid (HLI.out.keep (w' := (w.alloc (.cells (vS s (.slice (some ⟨g1, 0, none⟩) s.cells.length k1) (.slice (some ⟨g2, 0, none⟩) s.tabs.length k2) (.slice A3 s.other.length k3) (.slice A4 n4 k4) (.slice A5 n5 k5) (.slice A6 n6 k6)) 31)).alloc (.cells zQ 31)) (fun q hq => (two_new w _ _).1.cell (HT.out _ hq)))
 go_enter Tryz.func111, Tryz.ntmps111
 go_upto_region 11 with fail
 refine wp_region_lit ?_
 refine wpl_loadS rfl (.tmp 3) rfl rfl (heap_a1 w _ _) rfl ?_
 go_wp2_with fail
 ((with_reducible refine (pmove_67 s r c _ _ _ A4 A5 A6 n4 n5 n6 k4 k5 k6 base _ (by simp; omega) (((H.out.alloc _).alloc _).like rfl rfl rfl) HI.out _ l T HTW.out HLW.out hll ).mono ?_); rintro e w4 ⟨uc, ut, uo, up, ui, uu, rfl, hsl, hs4, hf4, hsub4⟩)
 have f1 := hf4.var (heap_a2 w _ _) (H.out.far (by omega))
 rename_i K hK
 refine hK _ _ ?_
 refine wpl_storeS rfl (.tmp 6) (.tmp 21) rfl rfl rfl f1 rfl rfl (hs4.one hsl) ?_
 go_wp2
 refine psEndV (w.heap.size + 1) 6 Tryz.results111 rfl rfl f1 (by omega) (by simp) (H.out.far (by omega)) (Fr.of (two_new w _ _).1 _) (fun x hx => .inl hx) hsl hs4 hf4 hsub4
theorem pusual_68 (s : Sc) (r c : Nat) (vc vt vo : Value) (A4 A5 A6 : Option Addr) (n4 n5 n6 k4 k5 k6 : Nat) (base : Nat) (w : World) (hbase : base ≤ w.heap.size) (h : PsL w base vc vt vo s) (hi : ScIn { s with wrap := false } r c) (vp : Value) (l : List Int) (T : Nat → Prop) (hT : ∀ x, T x → x < w.heap.size) (hl : SL vI w T vp l) (hll : l.length ≤ 1048576) (hw : Whole s.cells r c) (h0 : ∀ x ∈ l, 0 ≤ x) :
  Calls Tryz.prog 111 #[.agg (vS s vc vt vo (.slice A4 n4 k4) (.slice A5 n5 k5) (.slice A6 n6 k6)), vp, .int .u8 68] w (PsPost base vc vt vo (toS s (s.y) (s.x - paramL l 0 1)) w) := by
 have H0 := Lib.hid (show ∀ x, OwB vc vt vo x → x < w.heap.size from fun x hx => (h.lt x hx).2)
 have HW := Lib.hid hw
 have HL0 := Lib.hid h0
 clear hw h0
 obtain ⟨g1, k1, g2, k2, A3, k3, rfl, rfl, rfl, ⟨b1, l1, p1, q1⟩, ⟨b2, l2, p2, q2⟩, p3, q3⟩ := h.open_ hi
 have H := Lib.hid h
 have HI := Lib.hid hi
 obtain ⟨hlen, hr1, hr2, hc1, hc2, HR, HCO, hr3, hr4, hc3, hc4, y0, y1, x0, x1, t0, t1, u1⟩ := pIn hi
 clear h hi
 have HT := Lib.hid hT
 obtain ⟨AP, kP, rfl, pP, qP⟩ := hl.form
 have HLI := Lib.hid hl
 clear hT hl
 have HTW : Hid (∀ x, T x → x < ((w.alloc (.cells (vS s (.slice (some ⟨g1, 0, none⟩) s.cells.length k1) (.slice (some ⟨g2, 0, none⟩) s.tabs.length k2) (.slice A3 s.other.length k3) (.slice A4 n4 k4) (.slice A5 n5 k5) (.slice A6 n6 k6)) 31)).alloc (.cells zQ 31)).heap.size) := fun x hx => Nat.lt_of_lt_of_le (HT.out x hx) (two_new w _ _).1.size
 have HLW := Lib.hid (HLI.out.keep (w' := (w.alloc (.cells (vS s (.slice (some ⟨g1, 0, none⟩) s.cells.length k1) (.slice (some ⟨g2, 0, none⟩) s.tabs.length k2) (.slice A3 s.other.length k3) (.slice A4 n4 k4) (.slice A5 n5 k5) (.slice A6 n6 k6)) 31)).alloc (.cells zQ 31)) (fun q hq => (two_new w _ _).1.cell (HT.out _ hq)))
 go_enter Tryz.func111, Tryz.ntmps111
 go_upto_region 11 with fail
 refine wp_region_lit ?_
 refine wpl_loadS rfl (.tmp 3) rfl rfl (heap_a1 w _ _) rfl ?_
 go_wp2_with fail
 ((with_reducible refine (pmove_68 s r c _ _ _ A4 A5 A6 n4 n5 n6 k4 k5 k6 base _ (by simp; omega) (((H.out.alloc _).alloc _).like rfl rfl rfl) HI.out _ l T HTW.out HLW.out hll ).mono ?_); rintro e w4 ⟨uc, ut, uo, up, ui, uu, rfl, hsl, hs4, hf4, hsub4⟩)
 have f1 := hf4.var (heap_a2 w _ _) (H.out.far (by omega))
 rename_i K hK
 refine hK _ _ ?_
 refine wpl_storeS rfl (.tmp 6) (.tmp 21) rfl rfl rfl f1 rfl rfl (hs4.one hsl) ?_
 go_wp2
 refine psEndV (w.heap.size + 1) 6 Tryz.results111 rfl rfl f1 (by omega) (by simp) (H.out.far (by omega)) (Fr.of (two_new w _ _).1 _) (fun x hx => .inl hx) hsl hs4 hf4 hsub4
theorem pusual_71 (s : Sc) (r c : Nat) (vc vt vo : Value) (A4 A5 A6 : Option Addr) (n4 n5 n6 k4 k5 k6 : Nat) (base : Nat) (w : World) (hbase : base ≤ w.heap.size) (h : PsL w base vc vt vo s) (hi : ScIn { s with wrap := false } r c) (vp : Value) (l : List Int) (T : Nat → Prop) (hT : ∀ x, T x → x < w.heap.size) (hl : SL vI w T vp l) (hll : l.length ≤ 1048576) (hw : Whole s.cells r c) (h0 : ∀ x ∈ l, 0 ≤ x) :
  Calls Tryz.prog 111 #[.agg (vS s vc vt vo (.slice A4 n4 k4) (.slice A5 n5 k5) (.slice A6 n6 k6)), vp, .int .u8 71] w (PsPost base vc vt vo (toS s (s.y) (paramL l 0 1 - 1)) w) := by
 have H0 := Lib.hid (show ∀ x, OwB vc vt vo x → x < w.heap.size from fun x hx => (h.lt x hx).2)
 have HW := Lib.hid hw
 have HL0 := Lib.hid h0
 clear hw h0
 obtain ⟨g1, k1, g2, k2, A3, k3, rfl, rfl, rfl, ⟨b1, l1, p1, q1⟩, ⟨b2, l2, p2, q2⟩, p3, q3⟩ := h.open_ hi
 have H := Lib.hid h
 have HI := Lib.hid hi
 obtain ⟨hlen, hr1, hr2, hc1, hc2, HR, HCO, hr3, hr4, hc3, hc4, y0, y1, x0, x1, t0, t1, u1⟩ := pIn hi
 clear h hi
 have HT := Lib.hid hT
 obtain ⟨AP, kP, rfl, pP, qP⟩ := hl.form
 have HLI := Lib.hid hl
 clear hT hl
 have HTW : Hid (∀ x, T x → x < ((w.alloc (.cells (vS s (.slice (some ⟨g1, 0, none⟩) s.cells.length k1) (.slice (some ⟨g2, 0, none⟩) s.tabs.length k2) (.slice A3 s.other.length k3) (.slice A4 n4 k4) (.slice A5 n5 k5) (.slice A6 n6 k6)) 31)).alloc (.cells zQ 31)).heap.size) := fun x hx => Nat.lt_of_lt_of_le (HT.out x hx) (two_new w _ _).1.size
 have HLW := Lib.hid (HLI.out.keep (w' := (w.alloc (.cells (vS s (.slice (some ⟨g1, 0, none⟩) s.cells.length k1) (.slice (some ⟨g2, 0, none⟩) s.tabs.length k2) (.slice A3 s.other.length k3) (.slice A4 n4 k4) (.slice A5 n5 k5) (.slice A6 n6 k6)) 31)).alloc (.cells zQ 31)) (fun q hq => (two_new w _ _).1.cell (HT.out _ hq)))
 go_enter Tryz.func111, Tryz.ntmps111
 go_upto_region 11 with fail
 refine wp_region_lit ?_
 refine wpl_loadS rfl (.tmp 3) rfl rfl (heap_a1 w _ _) rfl ?_
 go_wp2_with fail
 ((with_reducible refine (pmove_71 s r c _ _ _ A4 A5 A6 n4 n5 n6 k4 k5 k6 base _ (by simp; omega) (((H.out.alloc _).alloc _).like rfl rfl rfl) HI.out _ l T HTW.out HLW.out hll ).mono ?_); rintro e w4 ⟨uc, ut, uo, up, ui, uu, rfl, hsl, hs4, hf4, hsub4⟩)
 have f1 := hf4.var (heap_a2 w _ _) (H.out.far (by omega))
 rename_i K hK
 refine hK _ _ ?_
 refine wpl_storeS rfl (.tmp 6) (.tmp 21) rfl rfl rfl f1 rfl rfl (hs4.one hsl) ?_
 go_wp2
 refine psEndV (w.heap.size + 1) 6 Tryz.results111 rfl rfl f1 (by omega) (by simp) (H.out.far (by omega)) (Fr.of (two_new w _ _).1 _) (fun x hx => .inl hx) hsl hs4 hf4 hsub4
theorem pusual_96 (s : Sc) (r c : Nat) (vc vt vo : Value) (A4 A5 A6 : Option Addr) (n4 n5 n6 k4 k5 k6 : Nat) (base : Nat) (w : World) (hbase : base ≤ w.heap.size) (h : PsL w base vc vt vo s) (hi : ScIn { s with wrap := false } r c) (vp : Value) (l : List Int) (T : Nat → Prop) (hT : ∀ x, T x → x < w.heap.size) (hl : SL vI w T vp l) (hll : l.length ≤ 1048576) (hw : Whole s.cells r c) (h0 : ∀ x ∈ l, 0 ≤ x) :
  Calls Tryz.prog 111 #[.agg (vS s vc vt vo (.slice A4 n4 k4) (.slice A5 n5 k5) (.slice A6 n6 k6)), vp, .int .u8 96] w (PsPost base vc vt vo (toS s (s.y) (paramL l 0 1 - 1)) w) := by
 have H0 := Lib.hid (show ∀ x, OwB vc vt vo x → x < w.heap.size from fun x hx => (h.lt x hx).2)
 have HW := Lib.hid hw
 have HL0 := Lib.hid h0
 clear hw h0
 obtain ⟨g1, k1, g2, k2, A3, k3, rfl, rfl, rfl, ⟨b1, l1, p1, q1⟩, ⟨b2, l2, p2, q2⟩, p3, q3⟩ := h.open_ hi
 have H := Lib.hid h
 have HI := Lib.hid hi
 obtain ⟨hlen, hr1, hr2, hc1, hc2, HR, HCO, hr3, hr4, hc3, hc4, y0, y1, x0, x1, t0, t1, u1⟩ := pIn hi
 clear h hi
 have HT := Lib.hid hT
 obtain ⟨AP, kP, rfl, pP, qP⟩ := hl.form
 have HLI := Lib.hid hl
 clear hT hl
 have HTW : Hid (∀ x, T x → x < ((w.alloc (.cells (vS s (.slice (some ⟨g1, 0, none⟩) s.cells.length k1) (.slice (some ⟨g2, 0, none⟩) s.tabs.length k2) (.slice A3 s.other.length k3) (.slice A4 n4 k4) (.slice A5 n5 k5) (.slice A6 n6 k6)) 31)).alloc (.cells zQ 31)).heap.size) := fun x hx => Nat.lt_of_lt_of_le (HT.out x hx) (two_new w _ _).1.size
 have HLW := Lib.hid (HLI.out.keep (w' := (w.alloc (.cells (vS s (.slice (some ⟨g1, 0, none⟩) s.cells.length k1) (.slice (some ⟨g2, 0, none⟩) s.tabs.length k2) (.slice A3 s.other.length k3) (.slice A4 n4 k4) (.slice A5 n5 k5) (.slice A6 n6 k6)) 31)).alloc (.cells zQ 31)) (fun q hq => (two_new w _ _).1.cell (HT.out _ hq)))
 go_enter Tryz.func111, Tryz.ntmps111
 go_upto_region 11 with fail
 refine wp_region_lit ?_
 refine wpl_loadS rfl (.tmp 3) rfl rfl (heap_a1 w _ _) rfl ?_
 go_wp2_with fail
 ((with_reducible refine (pmove_96 s r c _ _ _ A4 A5 A6 n4 n5 n6 k4 k5 k6 base _ (by simp; omega) (((H.out.alloc _).alloc _).like rfl rfl rfl) HI.out _ l T HTW.out HLW.out hll ).mono ?_); rintro e w4 ⟨uc, ut, uo, up, ui, uu, rfl, hsl, hs4, hf4, hsub4⟩)
 have f1 := hf4.var (heap_a2 w _ _) (H.out.far (by omega))
 rename_i K hK
 refine hK _ _ ?_
 refine wpl_storeS rfl (.tmp 6) (.tmp 21) rfl rfl rfl f1 rfl rfl (hs4.one hsl) ?_
 go_wp2
 refine psEndV (w.heap.size + 1) 6 Tryz.results111 rfl rfl f1 (by omega) (by simp) (H.out.far (by omega)) (Fr.of (two_new w _ _).1 _) (fun x hx => .inl hx) hsl hs4 hf4 hsub4
theorem pusual_100 (s : Sc) (r c : Nat) (vc vt vo : Value) (A4 A5 A6 : Option Addr) (n4 n5 n6 k4 k5 k6 : Nat) (base : Nat) (w : World) (hbase : base ≤ w.heap.size) (h : PsL w base vc vt vo s) (hi : ScIn { s with wrap := false } r c) (vp : Value) (l : List Int) (T : Nat → Prop) (hT : ∀ x, T x → x < w.heap.size) (hl : SL vI w T vp l) (hll : l.length ≤ 1048576) (hw : Whole s.cells r c) (h0 : ∀ x ∈ l, 0 ≤ x) :
  Calls Tryz.prog 111 #[.agg (vS s vc vt vo (.slice A4 n4 k4) (.slice A5 n5 k5) (.slice A6 n6 k6)), vp, .int .u8 100] w (PsPost base vc vt vo (toS s (paramL l 0 1 - 1) (s.x)) w) := by
 have H0 := Lib.hid (show ∀ x, OwB vc vt vo x → x < w.heap.size from fun x hx => (h.lt x hx).2)
 have HW := Lib.hid hw
 have HL0 := Lib.hid h0
 clear hw h0
 obtain ⟨g1, k1, g2, k2, A3, k3, rfl, rfl, rfl, ⟨b1, l1, p1, q1⟩, ⟨b2, l2, p2, q2⟩, p3, q3⟩ := h.open_ hi
 have H := Lib.hid h
 have HI := Lib.hid hi
 obtain ⟨hlen, hr1, hr2, hc1, hc2, HR, HCO, hr3, hr4, hc3, hc4, y0, y1, x0, x1, t0, t1, u1⟩ := pIn hi
 clear h hi
 have HT := Lib.hid hT
 obtain ⟨AP, kP, rfl, pP, qP⟩ := hl.form
 have HLI := Lib.hid hl
 clear hT hl
 have HTW : Hid (∀ x, T x → x < ((w.alloc (.cells (vS s (.slice (some ⟨g1, 0, none⟩) s.cells.length k1) (.slice (some ⟨g2, 0, none⟩) s.tabs.length k2) (.slice A3 s.other.length k3) (.slice A4 n4 k4) (.slice A5 n5 k5) (.slice A6 n6 k6)) 31)).alloc (.cells zQ 31)).heap.size) := fun x hx => Nat.lt_of_lt_of_le (HT.out x hx) (two_new w _ _).1.size
 have HLW := Lib.hid (HLI.out.keep (w' := (w.alloc (.cells (vS s (.slice (some ⟨g1, 0, none⟩) s.cells.length k1) (.slice (some ⟨g2, 0, none⟩) s.tabs.length k2) (.slice A3 s.other.length k3) (.slice A4 n4 k4) (.slice A5 n5 k5) (.slice A6 n6 k6)) 31)).alloc (.cells zQ 31)) (fun q hq => (two_new w _ _).1.cell (HT.out _ hq)))
 go_enter Tryz.func111, Tryz.ntmps111
 go_upto_region 11 with fail
 refine wp_region_lit ?_
 refine wpl_loadS rfl (.tmp 3) rfl rfl (heap_a1 w _ _) rfl ?_
 go_wp2_with fail
 ((with_reducible refine (pmove_100 s r c _ _ _ A4 A5 A6 n4 n5 n6 k4 k5 k6 base _ (by simp; omega) (((H.out.alloc _).alloc _).like rfl rfl rfl) HI.out _ l T HTW.out HLW.out hll ).mono ?_); rintro e w4 ⟨uc, ut, uo, up, ui, uu, rfl, hsl, hs4, hf4, hsub4⟩)
 have f1 := hf4.var (heap_a2 w _ _) (H.out.far (by omega))
 rename_i K hK
 refine hK _ _ ?_
 refine wpl_storeS rfl (.tmp 6) (.tmp 21) rfl rfl rfl f1 rfl rfl (hs4.one hsl) ?_
 go_wp2
 refine psEndV (w.heap.size + 1) 6 Tryz.results111 rfl rfl f1 (by omega) (by simp) (H.out.far (by omega)) (Fr.of (two_new w _ _).1 _) (fun x hx => .inl hx) hsl hs4 hf4 hsub4
theorem pusual_72 (s : Sc) (r c : Nat) (vc vt vo : Value) (A4 A5 A6 : Option Addr) (n4 n5 n6 k4 k5 k6 : Nat) (base : Nat) (w : World) (hbase : base ≤ w.heap.size) (h : PsL w base vc vt vo s) (hi : ScIn { s with wrap := false } r c) (vp : Value) (l : List Int) (T : Nat → Prop) (hT : ∀ x, T x → x < w.heap.size) (hl : SL vI w T vp l) (hll : l.length ≤ 1048576) (hw : Whole s.cells r c) (h0 : ∀ x ∈ l, 0 ≤ x) :
  Calls Tryz.prog 111 #[.agg (vS s vc vt vo (.slice A4 n4 k4) (.slice A5 n5 k5) (.slice A6 n6 k6)), vp, .int .u8 72] w (PsPost base vc vt vo (toS s (paramL l 0 1 - 1) (paramL l 1 1 - 1)) w) := by
 have H0 := Lib.hid (show ∀ x, OwB vc vt vo x → x < w.heap.size from fun x hx => (h.lt x hx).2)
 have HW := Lib.hid hw
 have HL0 := Lib.hid h0
 clear hw h0
 obtain ⟨g1, k1, g2, k2, A3, k3, rfl, rfl, rfl, ⟨b1, l1, p1, q1⟩, ⟨b2, l2, p2, q2⟩, p3, q3⟩ := h.open_ hi
 have H := Lib.hid h
 have HI := Lib.hid hi
 obtain ⟨hlen, hr1, hr2, hc1, hc2, HR, HCO, hr3, hr4, hc3, hc4, y0, y1, x0, x1, t0, t1, u1⟩ := pIn hi
 clear h hi
 have HT := Lib.hid hT
 obtain ⟨AP, kP, rfl, pP, qP⟩ := hl.form
 have HLI := Lib.hid hl
 clear hT hl
 have HTW : Hid (∀ x, T x → x < ((w.alloc (.cells (vS s (.slice (some ⟨g1, 0, none⟩) s.cells.length k1) (.slice (some ⟨g2, 0, none⟩) s.tabs.length k2) (.slice A3 s.other.length k3) (.slice A4 n4 k4) (.slice A5 n5 k5) (.slice A6 n6 k6)) 31)).alloc (.cells zQ 31)).heap.size) := fun x hx => Nat.lt_of_lt_of_le (HT.out x hx) (two_new w _ _).1.size
 have HLW := Lib.hid (HLI.out.keep (w' := (w.alloc (.cells (vS s (.slice (some ⟨g1, 0, none⟩) s.cells.length k1) (.slice (some ⟨g2, 0, none⟩) s.tabs.length k2) (.slice A3 s.other.length k3) (.slice A4 n4 k4) (.slice A5 n5 k5) (.slice A6 n6 k6)) 31)).alloc (.cells zQ 31)) (fun q hq => (two_new w _ _).1.cell (HT.out _ hq)))
 go_enter Tryz.func111, Tryz.ntmps111
 go_upto_region 11 with fail
 refine wp_region_lit ?_
 refine wpl_loadS rfl (.tmp 3) rfl rfl (heap_a1 w _ _) rfl ?_
 go_wp2_with fail
 ((with_reducible refine (pmove_72 s r c _ _ _ A4 A5 A6 n4 n5 n6 k4 k5 k6 base _ (by simp; omega) (((H.out.alloc _).alloc _).like rfl rfl rfl) HI.out _ l T HTW.out HLW.out hll ).mono ?_); rintro e w4 ⟨uc, ut, uo, up, ui, uu, rfl, hsl, hs4, hf4, hsub4⟩)
 have f1 := hf4.var (heap_a2 w _ _) (H.out.far (by omega))
 rename_i K hK
 refine hK _ _ ?_
 refine wpl_storeS rfl (.tmp 6) (.tmp 21) rfl rfl rfl f1 rfl rfl (hs4.one hsl) ?_
 go_wp2
 refine psEndV (w.heap.size + 1) 6 Tryz.results111 rfl rfl f1 (by omega) (by simp) (H.out.far (by omega)) (Fr.of (two_new w _ _).1 _) (fun x hx => .inl hx) hsl hs4 hf4 hsub4
theorem pusual_102 (s : Sc) (r c : Nat) (vc vt vo : Value) (A4 A5 A6 : Option Addr) (n4 n5 n6 k4 k5 k6 : Nat) (base : Nat) (w : World) (hbase : base ≤ w.heap.size) (h : PsL w base vc vt vo s) (hi : ScIn { s with wrap := false } r c) (vp : Value) (l : List Int) (T : Nat → Prop) (hT : ∀ x, T x → x < w.heap.size) (hl : SL vI w T vp l) (hll : l.length ≤ 1048576) (hw : Whole s.cells r c) (h0 : ∀ x ∈ l, 0 ≤ x) :
  Calls Tryz.prog 111 #[.agg (vS s vc vt vo (.slice A4 n4 k4) (.slice A5 n5 k5) (.slice A6 n6 k6)), vp, .int .u8 102] w (PsPost base vc vt vo (toS s (paramL l 0 1 - 1) (paramL l 1 1 - 1)) w) := by
 have H0 := Lib.hid (show ∀ x, OwB vc vt vo x → x < w.heap.size from fun x hx => (h.lt x hx).2)
 have HW := Lib.hid hw
 have HL0 := Lib.hid h0
 clear hw h0
 obtain ⟨g1, k1, g2, k2, A3, k3, rfl, rfl, rfl, ⟨b1, l1, p1, q1⟩, ⟨b2, l2, p2, q2⟩, p3, q3⟩ := h.open_ hi
 have H := Lib.hid h
 have HI := Lib.hid hi
 obtain ⟨hlen, hr1, hr2, hc1, hc2, HR, HCO, hr3, hr4, hc3, hc4, y0, y1, x0, x1, t0, t1, u1⟩ := pIn hi
 clear h hi
 have HT := Lib.hid hT
 obtain ⟨AP, kP, rfl, pP, qP⟩ := hl.form
 have HLI := Lib.hid hl
 clear hT hl
 have HTW : Hid (∀ x, T x → x < ((w.alloc (.cells (vS s (.slice (some ⟨g1, 0, none⟩) s.cells.length k1) (.slice (some ⟨g2, 0, none⟩) s.tabs.length k2) (.slice A3 s.other.length k3) (.slice A4 n4 k4) (.slice A5 n5 k5) (.slice A6 n6 k6)) 31)).alloc (.cells zQ 31)).heap.size) := fun x hx => Nat.lt_of_lt_of_le (HT.out x hx) (two_new w _ _).1.size
 have HLW := Lib.hid (HLI.out.keep (w' := (w.alloc (.cells (vS s (.slice (some ⟨g1, 0, none⟩) s.cells.length k1) (.slice (some ⟨g2, 0, none⟩) s.tabs.length k2) (.slice A3 s.other.length k3) (.slice A4 n4 k4) (.slice A5 n5 k5) (.slice A6 n6 k6)) 31)).alloc (.cells zQ 31)) (fun q hq => (two_new w _ _).1.cell (HT.out _ hq)))
 go_enter Tryz.func111, Tryz.ntmps111
 go_upto_region 11 with fail
 refine wp_region_lit ?_
 refine wpl_loadS rfl (.tmp 3) rfl rfl (heap_a1 w _ _) rfl ?_
 go_wp2_with fail
 ((with_reducible refine (pmove_102 s r c _ _ _ A4 A5 A6 n4 n5 n6 k4 k5 k6 base _ (by simp; omega) (((H.out.alloc _).alloc _).like rfl rfl rfl) HI.out _ l T HTW.out HLW.out hll ).mono ?_); rintro e w4 ⟨uc, ut, uo, up, ui, uu, rfl, hsl, hs4, hf4, hsub4⟩)
 have f1 := hf4.var (heap_a2 w _ _) (H.out.far (by omega))
 rename_i K hK
 refine hK _ _ ?_
 refine wpl_storeS rfl (.tmp 6) (.tmp 21) rfl rfl rfl f1 rfl rfl (hs4.one hsl) ?_
 go_wp2
 refine psEndV (w.heap.size + 1) 6 Tryz.results111 rfl rfl f1 (by omega) (by simp) (H.out.far (by omega)) (Fr.of (two_new w _ _).1 _) (fun x hx => .inl hx) hsl hs4 hf4 hsub4
end Go.Proofs.YtlolgfgcgfjdjaaGreatDoor

namespace Go.Proofs.YtlolgfgcgfjdjaaGreatDoor
open Go.RowKit
set_option linter.unusedVariables false
set_option linter.unusedSimpArgs false
set_option maxHeartbeats 2000000
set_option maxRecDepth 100000
theorem pusual_74 (s : Sc) (r c : Nat) (vc vt vo : Value) (A4 A5 A6 : Option Addr) (n4 n5 n6 k4 k5 k6 : Nat) (base : Nat) (w : World) (hbase : base ≤ w.heap.size) (h : PsL w base vc vt vo s) (hi : ScIn { s with wrap := false } r c) (vp : Value) (l : List Int) (T : Nat → Prop) (hT : ∀ x, T x → x < w.heap.size) (hl : SL vI w T vp l) (hll : l.length ≤ 1048576) (hw : Whole s.cells r c) (h0 : ∀ x ∈ l, 0 ≤ x) :
  Calls Tryz.prog 111 #[.agg (vS s vc vt vo (.slice A4 n4 k4) (.slice A5 n5 k5) (.slice A6 n6 k6)), vp, .int .u8 74] w (PsPost base vc vt vo (eraseS s false (paramL l 0 0)) w) := by
 have H0 := Lib.hid (show ∀ x, OwB vc vt vo x → x < w.heap.size from fun x hx => (h.lt x hx).2)
 have HW := Lib.hid hw
 have HL0 := Lib.hid h0
 clear hw h0
 obtain ⟨g1, k1, g2, k2, A3, k3, rfl, rfl, rfl, ⟨b1, l1, p1, q1⟩, ⟨b2, l2, p2, q2⟩, p3, q3⟩ := h.open_ hi
 have H := Lib.hid h
 have HI := Lib.hid hi
 obtain ⟨hlen, hr1, hr2, hc1, hc2, HR, HCO, hr3, hr4, hc3, hc4, y0, y1, x0, x1, t0, t1, u1⟩ := pIn hi
 clear h hi
 have HT := Lib.hid hT
 obtain ⟨AP, kP, rfl, pP, qP⟩ := hl.form
 have HLI := Lib.hid hl
 clear hT hl
 have HTW : Hid (∀ x, T x → x < ((w.alloc (.cells (vS s (.slice (some ⟨g1, 0, none⟩) s.cells.length k1) (.slice (some ⟨g2, 0, none⟩) s.tabs.length k2) (.slice A3 s.other.length k3) (.slice A4 n4 k4) (.slice A5 n5 k5) (.slice A6 n6 k6)) 31)).alloc (.cells zQ 31)).heap.size) := fun x hx => Nat.lt_of_lt_of_le (HT.out x hx) (two_new w _ _).1.size
 have HLW := Lib.hid (HLI.out.keep (w' := (w.alloc (.cells (vS s (.slice (some ⟨g1, 0, none⟩) s.cells.length k1) (.slice (some ⟨g2, 0, none⟩) s.tabs.length k2) (.slice A3 s.other.length k3) (.slice A4 n4 k4) (.slice A5 n5 k5) (.slice A6 n6 k6)) 31)).alloc (.cells zQ 31)) (fun q hq => (two_new w _ _).1.cell (HT.out _ hq)))
 go_enter Tryz.func111, Tryz.ntmps111
 go_upto_region 15 with fail
 refine wp_region_lit ?_
 refine wpl_loadS rfl (.tmp 3) rfl rfl (heap_a1 w _ _) rfl ?_
 go_wp2_with fail
 ((with_reducible refine (perase_Jany s r c _ _ _ A4 A5 A6 n4 n5 n6 k4 k5 k6 base _ (by simp; omega) (((H.out.alloc _).alloc _).like rfl rfl rfl) HI.out _ l T HTW.out HLW.out hll HW.out HL0.out).mono ?_); rintro e w4 ⟨uc, ut, uo, up, ui, uu, rfl, hsl, hs4, hf4, hsub4⟩)
 have f1 := hf4.var (heap_a2 w _ _) (H.out.far (by omega))
 rename_i K hK
 refine hK _ _ ?_
 refine wpl_storeS rfl (.tmp 6) (.tmp 29) rfl rfl rfl f1 rfl rfl (hs4.one hsl) ?_
 go_wp2
 refine psEndV (w.heap.size + 1) 6 Tryz.results111 rfl rfl f1 (by omega) (by simp) (H.out.far (by omega)) (Fr.of (two_new w _ _).1 _) (fun x hx => .inl hx) hsl hs4 hf4 hsub4
theorem pusual_75 (s : Sc) (r c : Nat) (vc vt vo : Value) (A4 A5 A6 : Option Addr) (n4 n5 n6 k4 k5 k6 : Nat) (base : Nat) (w : World) (hbase : base ≤ w.heap.size) (h : PsL w base vc vt vo s) (hi : ScIn { s with wrap := false } r c) (vp : Value) (l : List Int) (T : Nat → Prop) (hT : ∀ x, T x → x < w.heap.size) (hl : SL vI w T vp l) (hll : l.length ≤ 1048576) (hw : Whole s.cells r c) (h0 : ∀ x ∈ l, 0 ≤ x) :
  Calls Tryz.prog 111 #[.agg (vS s vc vt vo (.slice A4 n4 k4) (.slice A5 n5 k5) (.slice A6 n6 k6)), vp, .int .u8 75] w (PsPost base vc vt vo (eraseS s true (paramL l 0 0)) w) := by
 have H0 := Lib.hid (show ∀ x, OwB vc vt vo x → x < w.heap.size from fun x hx => (h.lt x hx).2)
 have HW := Lib.hid hw
 have HL0 := Lib.hid h0
 clear hw h0
 obtain ⟨g1, k1, g2, k2, A3, k3, rfl, rfl, rfl, ⟨b1, l1, p1, q1⟩, ⟨b2, l2, p2, q2⟩, p3, q3⟩ := h.open_ hi
 have H := Lib.hid h
 have HI := Lib.hid hi
 obtain ⟨hlen, hr1, hr2, hc1, hc2, HR, HCO, hr3, hr4, hc3, hc4, y0, y1, x0, x1, t0, t1, u1⟩ := pIn hi
 clear h hi
 have HT := Lib.hid hT
 obtain ⟨AP, kP, rfl, pP, qP⟩ := hl.form
 have HLI := Lib.hid hl
 clear hT hl
 have HTW : Hid (∀ x, T x → x < ((w.alloc (.cells (vS s (.slice (some ⟨g1, 0, none⟩) s.cells.length k1) (.slice (some ⟨g2, 0, none⟩) s.tabs.length k2) (.slice A3 s.other.length k3) (.slice A4 n4 k4) (.slice A5 n5 k5) (.slice A6 n6 k6)) 31)).alloc (.cells zQ 31)).heap.size) := fun x hx => Nat.lt_of_lt_of_le (HT.out x hx) (two_new w _ _).1.size
 have HLW := Lib.hid (HLI.out.keep (w' := (w.alloc (.cells (vS s (.slice (some ⟨g1, 0, none⟩) s.cells.length k1) (.slice (some ⟨g2, 0, none⟩) s.tabs.length k2) (.slice A3 s.other.length k3) (.slice A4 n4 k4) (.slice A5 n5 k5) (.slice A6 n6 k6)) 31)).alloc (.cells zQ 31)) (fun q hq => (two_new w _ _).1.cell (HT.out _ hq)))
 go_enter Tryz.func111, Tryz.ntmps111
 go_upto_region 15 with fail
 refine wp_region_lit ?_
 refine wpl_loadS rfl (.tmp 3) rfl rfl (heap_a1 w _ _) rfl ?_
 go_wp2_with fail
 ((with_reducible refine (perase_Kany s r c _ _ _ A4 A5 A6 n4 n5 n6 k4 k5 k6 base _ (by simp; omega) (((H.out.alloc _).alloc _).like rfl rfl rfl) HI.out _ l T HTW.out HLW.out hll HW.out HL0.out).mono ?_); rintro e w4 ⟨uc, ut, uo, up, ui, uu, rfl, hsl, hs4, hf4, hsub4⟩)
 have f1 := hf4.var (heap_a2 w _ _) (H.out.far (by omega))
 rename_i K hK
 refine hK _ _ ?_
 refine wpl_storeS rfl (.tmp 6) (.tmp 29) rfl rfl rfl f1 rfl rfl (hs4.one hsl) ?_
 go_wp2
 refine psEndV (w.heap.size + 1) 6 Tryz.results111 rfl rfl f1 (by omega) (by simp) (H.out.far (by omega)) (Fr.of (two_new w _ _).1 _) (fun x hx => .inl hx) hsl hs4 hf4 hsub4
theorem pusual_88 (s : Sc) (r c : Nat) (vc vt vo : Value) (A4 A5 A6 : Option Addr) (n4 n5 n6 k4 k5 k6 : Nat) (base : Nat) (w : World) (hbase : base ≤ w.heap.size) (h : PsL w base vc vt vo s) (hi : ScIn { s with wrap := false } r c) (vp : Value) (l : List Int) (T : Nat → Prop) (hT : ∀ x, T x → x < w.heap.size) (hl : SL vI w T vp l) (hll : l.length ≤ 1048576) (hw : Whole s.cells r c) (h0 : ∀ x ∈ l, 0 ≤ x) :
  Calls Tryz.prog 111 #[.agg (vS s vc vt vo (.slice A4 n4 k4) (.slice A5 n5 k5) (.slice A6 n6 k6)), vp, .int .u8 88] w (PsPost base vc vt vo ({ s with cells := eraseL s.cells s.cols s.y s.x (s.x + paramL l 0 1), wrap := false }) w) := by
 have H0 := Lib.hid (show ∀ x, OwB vc vt vo x → x < w.heap.size from fun x hx => (h.lt x hx).2)
 have HW := Lib.hid hw
 have HL0 := Lib.hid h0
 clear hw h0
 obtain ⟨g1, k1, g2, k2, A3, k3, rfl, rfl, rfl, ⟨b1, l1, p1, q1⟩, ⟨b2, l2, p2, q2⟩, p3, q3⟩ := h.open_ hi
 have H := Lib.hid h
 have HI := Lib.hid hi
 obtain ⟨hlen, hr1, hr2, hc1, hc2, HR, HCO, hr3, hr4, hc3, hc4, y0, y1, x0, x1, t0, t1, u1⟩ := pIn hi
 clear h hi
 have HT := Lib.hid hT
 obtain ⟨AP, kP, rfl, pP, qP⟩ := hl.form
 have HLI := Lib.hid hl
 clear hT hl
 have HTW : Hid (∀ x, T x → x < ((w.alloc (.cells (vS s (.slice (some ⟨g1, 0, none⟩) s.cells.length k1) (.slice (some ⟨g2, 0, none⟩) s.tabs.length k2) (.slice A3 s.other.length k3) (.slice A4 n4 k4) (.slice A5 n5 k5) (.slice A6 n6 k6)) 31)).alloc (.cells zQ 31)).heap.size) := fun x hx => Nat.lt_of_lt_of_le (HT.out x hx) (two_new w _ _).1.size
 have HLW := Lib.hid (HLI.out.keep (w' := (w.alloc (.cells (vS s (.slice (some ⟨g1, 0, none⟩) s.cells.length k1) (.slice (some ⟨g2, 0, none⟩) s.tabs.length k2) (.slice A3 s.other.length k3) (.slice A4 n4 k4) (.slice A5 n5 k5) (.slice A6 n6 k6)) 31)).alloc (.cells zQ 31)) (fun q hq => (two_new w _ _).1.cell (HT.out _ hq)))
 go_enter Tryz.func111, Tryz.ntmps111
 go_upto_region 15 with fail
 refine wp_region_lit ?_
 refine wpl_loadS rfl (.tmp 3) rfl rfl (heap_a1 w _ _) rfl ?_
 go_wp2_with fail
 ((with_reducible refine (perase_X s r c _ _ _ A4 A5 A6 n4 n5 n6 k4 k5 k6 base _ (by simp; omega) (((H.out.alloc _).alloc _).like rfl rfl rfl) HI.out _ l T HTW.out HLW.out hll HW.out (paramL_ge HL0.out 0 1 (by decide))).mono ?_); rintro e w4 ⟨uc, ut, uo, up, ui, uu, rfl, hsl, hs4, hf4, hsub4⟩)
 have f1 := hf4.var (heap_a2 w _ _) (H.out.far (by omega))
 rename_i K hK
 refine hK _ _ ?_
 refine wpl_storeS rfl (.tmp 6) (.tmp 29) rfl rfl rfl f1 rfl rfl (hs4.one hsl) ?_
 go_wp2
 refine psEndV (w.heap.size + 1) 6 Tryz.results111 rfl rfl f1 (by omega) (by simp) (H.out.far (by omega)) (Fr.of (two_new w _ _).1 _) (fun x hx => .inl hx) hsl hs4 hf4 hsub4
end Go.Proofs.YtlolgfgcgfjdjaaGreatDoor
