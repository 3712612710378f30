/- What is proved here: parts of layer 10's proofs. -/
import Derived.Test.YthepofkdgbcifaaGreatS10
import Derived.Lib.OwnKind
namespace Go.Proofs.YthepofkdgbcifaaGreat
open Go.RowKit
set_option linter.unusedVariables false
set_option linter.unusedSimpArgs false
set_option maxHeartbeats 2000000
set_option maxRecDepth 100000
theorem pisRegion_any (m : Int) (s : Sc) (A1 A2 A3 A4 A5 A6 : Option Addr) (n1 n2 n3 n4 n5 n6 k1 k2 k3 k4 k5 k6 : Nat) (a b : Int) (w : World) : Calls Tryz.prog 80 #[.agg (vNq m s A1 A2 A3 A4 A5 A6 n1 n2 n3 n4 n5 n6 k1 k2 k3 k4 k5 k6), .int .i64 a, .int .i64 b] w fun e w' => e = .returned (.bool (decide (0 ≤ a ∧ a < b ∧ b < s.rows))) ∧ Below w.heap.size w w' := by
 by_cases h0 : 0 ≤ a
 ·by_cases h1 : a < b
  ·by_cases h2 : b < s.rows
   ·rw [decide_eq_true ⟨h0, h1, h2⟩]
    go_enter Tryz.func80, Tryz.ntmps80
    go_wp2
    go_ret
    exact ⟨rfl, (Below.refl _ _).alloc (Nat.le_refl _) _⟩
   ·rw [decide_eq_false (fun h => h2 h.2.2)]
    go_enter Tryz.func80, Tryz.ntmps80
    go_wp2
    go_ret
    exact ⟨rfl, (Below.refl _ _).alloc (Nat.le_refl _) _⟩
  ·rw [decide_eq_false (fun h => h1 h.2.1)]
   go_enter Tryz.func80, Tryz.ntmps80
   go_wp2
   go_ret
   exact ⟨rfl, (Below.refl _ _).alloc (Nat.le_refl _) _⟩
 ·rw [decide_eq_false (fun h => h0 h.1)]
  go_enter Tryz.func80, Tryz.ntmps80
  go_wp2
  go_ret
  exact ⟨rfl, (Below.refl _ _).alloc (Nat.le_refl _) _⟩
theorem pisPlace_any (m : Int) (s : Sc) (A1 A2 A3 A4 A5 A6 : Option Addr) (n1 n2 n3 n4 n5 n6 k1 k2 k3 k4 k5 k6 : Nat) (y x : Int) (w : World) : Calls Tryz.prog 46 #[.agg (vNq m s A1 A2 A3 A4 A5 A6 n1 n2 n3 n4 n5 n6 k1 k2 k3 k4 k5 k6), .int .i64 y, .int .i64 x] w fun e w' => e = .returned (.bool (decide (0 ≤ y ∧ y < s.rows ∧ 0 ≤ x ∧ x < s.cols))) ∧ Below w.heap.size w w' := by
 by_cases h0 : 0 ≤ y
 ·by_cases h1 : y < s.rows
  ·by_cases h2 : 0 ≤ x
   ·by_cases h3 : x < s.cols
    ·rw [decide_eq_true ⟨h0, h1, h2, h3⟩]
     go_enter Tryz.func46, Tryz.ntmps46
     go_wp2
     go_ret
     exact ⟨rfl, (Below.refl _ _).alloc (Nat.le_refl _) _⟩
    ·rw [decide_eq_false (fun h => h3 h.2.2.2)]
     go_enter Tryz.func46, Tryz.ntmps46
     go_wp2
     go_ret
     exact ⟨rfl, (Below.refl _ _).alloc (Nat.le_refl _) _⟩
   ·rw [decide_eq_false (fun h => h2 h.2.2.1)]
    go_enter Tryz.func46, Tryz.ntmps46
    go_wp2
    go_ret
    exact ⟨rfl, (Below.refl _ _).alloc (Nat.le_refl _) _⟩
  ·rw [decide_eq_false (fun h => h1 h.2.1)]
   go_enter Tryz.func46, Tryz.ntmps46
   go_wp2
   go_ret
   exact ⟨rfl, (Below.refl _ _).alloc (Nat.le_refl _) _⟩
 ·rw [decide_eq_false (fun h => h0 h.1)]
  go_enter Tryz.func46, Tryz.ntmps46
  go_wp2
  go_ret
  exact ⟨rfl, (Below.refl _ _).alloc (Nat.le_refl _) _⟩
theorem prightAttr_any (a : Nat) (w : World) : Calls Tryz.prog 47 #[.int .u16 (a : Int)] w fun e w' => e = .returned (.bool (attrB a)) ∧ Below w.heap.size w w' := by
 have h := fun W => right_fit ⟨32, a, 0⟩ (by show (-2147483648 : Int) ≤ 32; omega) (by show (32 : Int) ≤ 2147483647; omega) (by show 0 < 256; omega) W
 rw [show cellB ⟨32, a, 0⟩ = attrB a by
  have e : mayR 32 = true := by decide
  unfold cellB
  rw [e]
  simp] at h
 have H := Lh h
 clear h
 go_enter Tryz.func47, Tryz.ntmps47
 go_wp2_with (refine (H.out _).mono ?_; rintro e w4 ⟨rfl, b4⟩)
 go_ret
 exact ⟨rfl, b4⟩
theorem prightRegion_any (m : Int) (s : Sc) (A1 A2 A3 A4 A5 A6 : Option Addr) (n1 n2 n3 n4 n5 n6 k1 k2 k3 k4 k5 k6 : Nat) (w : World) : Calls Tryz.prog 48 #[.agg (vNq m s A1 A2 A3 A4 A5 A6 n1 n2 n3 n4 n5 n6 k1 k2 k3 k4 k5 k6)] w fun e w' => (∃ b, e = .returned (.bool b) ∧ (b = true ↔ (s.rows = 1 ∧ s.top = 0 ∧ s.bottom = 0) ∨ (s.rows ≠ 1 ∧ 0 ≤ s.top ∧ s.top < s.bottom ∧ s.bottom < s.rows))) ∧ Below w.heap.size w w' := by
 by_cases h1 : s.rows = 1
 ·have e1 : (s.rows == 1) = true := by simpa using h1
  have HH1 := Lh h1
  clear h1
  by_cases h2 : s.top = 0
  ·have e2 : (s.top == 0) = true := by simpa using h2
   have HH2 := Lh h2
   clear h2
   by_cases h3 : s.bottom = 0
   ·have e3 : (s.bottom == 0) = true := by simpa using h3
    have HH3 := Lh h3
    clear h3
    go_enter Tryz.func48, Tryz.ntmps48
    go_wp2
    go_ret
    exact ⟨⟨_, rfl, by simp [HH1.out, HH2.out, HH3.out]⟩, (Below.refl _ _).alloc (Nat.le_refl _) _⟩
   ·have e3 : (s.bottom == 0) = false := by simpa using h3
    have HH3 := Lh h3
    clear h3
    go_enter Tryz.func48, Tryz.ntmps48
    go_wp2
    go_ret
    exact ⟨⟨_, rfl, by simp [HH1.out, HH2.out, HH3.out]⟩, (Below.refl _ _).alloc (Nat.le_refl _) _⟩
  ·have e2 : (s.top == 0) = false := by simpa using h2
   have HH2 := Lh h2
   clear h2
   go_enter Tryz.func48, Tryz.ntmps48
   go_wp2
   go_ret
   exact ⟨⟨_, rfl, by simp [HH1.out, HH2.out]⟩, (Below.refl _ _).alloc (Nat.le_refl _) _⟩
 ·have e1 : (s.rows == 1) = false := by simpa using h1
  have HH1 := Lh h1
  have K0 := Lh (heap_alloc_new w (.cells (vNq m s A1 A2 A3 A4 A5 A6 n1 n2 n3 n4 n5 n6 k1 k2 k3 k4 k5 k6) 30))
  have HC := Lh (fun W => pisRegion_any m s A1 A2 A3 A4 A5 A6 n1 n2 n3 n4 n5 n6 k1 k2 k3 k4 k5 k6 s.top s.bottom W)
  clear h1
  go_enter Tryz.func48, Tryz.ntmps48
  go_upto_region 3 with fail
  refine wp_region_lit ?_
  refine wpl_loadS rfl (.tmp 1) rfl rfl K0.out rfl ?_
  go_wp2_with (refine (HC.out _).mono ?_; rintro e w4 ⟨rfl, b4⟩)
  go_ret
  exact ⟨⟨_, rfl, by simp [HH1.out]⟩, ((Below.refl _ _).alloc (Nat.le_refl _) _).trans (b4.mono (by simp))⟩
def rowL (l : List Cl) (c y : Nat) : List Cl := (l.drop (y * c)).take c
section
variable {l : List Cl} {r c : Nat}
theorem row_end {y : Nat} (hy : y < r) : y * c + c ≤ r * c := by
 have := Nat.mul_le_mul_right c (show y + 1 ≤ r from hy)
 rw [Nat.add_mul, Nat.one_mul] at this
 exact this
theorem rowL_len (hg : GOk l.length r c) {y : Nat} (hy : y < r) : (rowL l c y).length = c := by
 have h := row_end (c := c) hy
 rw [← hg.n] at h
 unfold rowL
 simp
 omega
theorem rowL_ok (hg : GOk l.length r c) {y : Nat} (hy : y < r) : GOk (rowL l c y).length 1 c := ⟨hg.c1, hg.c2, Nat.le_refl _, by omega, by rw [rowL_len hg hy, Nat.one_mul]⟩
theorem rowL_getC (y x : Nat) (hx : x < c) : getC (rowL l c y) x = getC l (y * c + x) := by
 unfold rowL
 rw [getC_take _ _ hx, getC_drop]
theorem badH_two {l m : List Cl} {c y y' x : Nat} (he : ∀ x, x < c → getC m (y * c + x) = getC l (y' * c + x)) (hx : x < c) : badH m c (y * c + x) x = badH l c (y' * c + x) x := by
 unfold badH
 rw [he x hx]
 have e1 : (decide (x + 1 = c) || decide ((getC m (y * c + x + 1)).h ≠ 2)) = (decide (x + 1 = c) || decide ((getC l (y' * c + x + 1)).h ≠ 2)) := by
  by_cases h : x + 1 = c
  ·simp [h]
  ·rw [Nat.add_assoc, he (x + 1) (by omega), ← Nat.add_assoc]
 have e2 : (decide (x = 0) || decide ((getC m (y * c + x - 1)).h ≠ 1)) = (decide (x = 0) || decide ((getC l (y' * c + x - 1)).h ≠ 1)) := by
  by_cases h : x = 0
  ·simp [h]
  ·rw [show y * c + x - 1 = y * c + (x - 1) by omega, he (x - 1) (by omega), show y' * c + x - 1 = y' * c + (x - 1) by omega]
 rw [e1, e2]
theorem mend_row0 {F G : List Cl} {y : Nat} (hF : GOk F.length r c) (hG : GOk G.length 1 c) (hy : y < r) (h1 : ∀ x, x < c → getC G x = getC F (y * c + x)) (x : Nat) (hx : x < c) : getC (mendL G (c : Int) 0) x = getC (mendL F (c : Int) (y : Int)) (y * c + x) := by
 have a := mendL_row hG 0 (by omega) x hx
 rw [Nat.zero_mul, Nat.zero_add] at a
 have b := badH_two (l := F) (m := G) (c := c) (y := 0) (y' := y) (x := x) (fun z hz => by rw [Nat.zero_mul, Nat.zero_add]; exact h1 z hz) hx
 rw [Nat.zero_mul, Nat.zero_add] at b
 rw [show ((0 : Nat) : Int) = 0 from rfl] at a
 rw [a, mendL_row hF y hy x hx, b, h1 x hx]
end
section
variable {l : List Cl} {r c : Nat}
end
def ArPost (l : List Cl) (w : World) (e : Ending) (w' : World) : Prop := ∃ b, e = .returned (.bool b) ∧ (b = true ↔ ∀ x ∈ l, cellB x = true) ∧ Below w.heap.size w w'
theorem drewN_bel {w W : World} {n : Nat} (h : Below w.heap.size w W) : Below w.heap.size w (W.drewN n) := ⟨h.os, h.tape, h.output, h.size, h.block⟩
theorem allRight_any (v : Value) (l : List Cl) (w : World) (h : CS w w.heap.size v l) (hf : ∀ x ∈ l, CellFit x) (hl : l.length ≤ 1048576) :
  Calls Tryz.prog 77 #[v] w (ArPost l w) := by
 obtain ⟨A, cp, rfl, g1, g2⟩ := h.form
 have H := Lh h
 have HF := Lh hf
 clear h hf
 go_enter Tryz.func77, Tryz.ntmps77
 go_wp2
 go_loopw [7] (fun i wr => CrRel1 l w i wr) (fun i _ => l.length - (intOf i).toNat)
 case atStart => exact ⟨0, Nat.zero_le _, rfl, fun j x hj => absurd hj (by omega), Below.refl _ _⟩
 case round =>
  generalize wr = w2 at *
  obtain ⟨k, hk, rfl, hall, hb⟩ := hrel
  have HB := Lh hb
  have HALL := Lh hall
  clear hb hall
  by_cases hlt : k < l.length
  ·obtain ⟨x, hx⟩ : ∃ x, l[k]? = some x := ⟨_, List.getElem?_eq_getElem hlt⟩
   obtain ⟨ad, hA, hba, t0, t1, t2⟩ := (H.out.below HB.out).get k x hx
   subst hA
   have hxf := HF.out x (List.mem_of_getElem? hx)
   have hki : (k : Int) < (l.length : Int) := by omega
   have HX := Lh hx
   have HNX : Hid (cellB x = true → ∀ j y, j < k + 1 → l[j]? = some y → cellB y = true) := fun hc j y hj hy => by
    by_cases hjk : j = k
    ·subst hjk
     rw [HX.out] at hy
     rw [← Option.some.inj hy]
     exact hc
    ·exact HALL.out j y (by omega) hy
   have hNO : cellB x = false → ¬ ∀ y ∈ l, cellB y = true := fun hc g => by
    have := g x (List.mem_of_getElem? HX.out)
    rw [hc] at this
    cases this
   have HNO := Lh hNO
   have HCX := Lh (fun W => right_fit x hxf.1 hxf.2.1 hxf.2.2 W)
   have HT0 := Lh t0
   have HT1 := Lh t1
   have HT2 := Lh t2
   have hbz := HB.out.size
   clear hx hNO
   by_cases hk0 : k = 0
   ·have hkz : ¬ (0 : Int) < (k : Int) := by omega
    have hkz2 : (k : Int) ≤ 0 := by omega
    have cb : decide (0 < k) = false := decide_eq_false (by omega)
    clear hk0
    go_upto_region 4 with fail
    go_quiet (fail)
    have hw3 : Below w.heap.size w ((w2.alloc (.cells #[.int .i32 x.r, .int .u16 (x.a : Int), .int .u8 (x.h : Int)] 65)).drewN nq) := drewN_bel (HB.out.alloc hbz _)
    have HW3 := Lh hw3
    clear hw3
    cases hc : cellB x with
    | true =>
     rw [hc] at HCX
     go_wp2_with ((refine (HCX.out _).mono ?_); rintro e w4 ⟨rfl, b4⟩)
     go_roundw
     case rel => exact ⟨k + 1, hlt, by go_num, HNX.out hc, HW3.out.trans (b4.mono HW3.out.size)⟩
     case measure => simp [intOf]; omega
    | false =>
     rw [hc] at HCX
     go_wp2_with ((refine (HCX.out _).mono ?_); rintro e w4 ⟨rfl, b4⟩)
     go_ret
     exact ⟨false, rfl, ⟨(fun h => by cases h), fun h => absurd h (HNO.out hc)⟩, HW3.out.trans (b4.mono HW3.out.size)⟩
   ·obtain ⟨q, hq⟩ : ∃ q, k = q + 1 := ⟨k - 1, by omega⟩
    have hkz : (0 : Int) < (k : Int) := by omega
    have cb : decide (0 < k) = true := decide_eq_true (by omega)
    obtain ⟨y, hy⟩ : ∃ y, l[q]? = some y := ⟨_, List.getElem?_eq_getElem (by omega)⟩
    obtain ⟨ad2, hA2, hba2, u0, u1, u2⟩ := (H.out.below HB.out).get q y hy
    obtain rfl : ad = ad2 := Option.some.inj hA2
    clear hA2
    have HY := Lh hy
    have hqq : IntKind.i64.wrap ((k : Int) - 1) = (q : Int) := by rw [IntKind.wrap_i64]; omega
    have hql : (q : Int) < (l.length : Int) := by omega
    have HCY : Hid (cellB y = true) := HALL.out q y (by omega) HY.out
    have hbq : (ad.add (q * 3)).block < w2.heap.size := by rw [block_add]; omega
    clear hy hk0 hq
    by_cases hxy : x = y
    ·subst hxy
     go_upto_region 4 with fail
     go_quiet (fail)
     have hw3 : Below w.heap.size w ((w2.alloc (.cells #[.int .i32 x.r, .int .u16 (x.a : Int), .int .u8 (x.h : Int)] 65)).drewN nq) := drewN_bel (HB.out.alloc hbz _)
     have HW3 := Lh hw3
     clear hw3
     go_wp2
     go_roundw
     case rel => exact ⟨k + 1, hlt, by go_num, HNX.out HCY.out, HW3.out⟩
     case measure => simp [intOf]; omega
    ·have hk3 := cl_ne hxy
     clear hxy
     rcases hk3 with hbq2 | ⟨hrq, hbq2⟩ | ⟨hrq, haq, hbq2⟩
     all_goals
      try rw [← hrq] at u0
      try rw [← haq] at u1
      try clear hrq
      try clear haq
      go_upto_region 4 with fail
      go_quiet (fail)
      have hw3 : Below w.heap.size w ((w2.alloc (.cells #[.int .i32 x.r, .int .u16 (x.a : Int), .int .u8 (x.h : Int)] 65)).drewN nq) := drewN_bel (HB.out.alloc hbz _)
      have HW3 := Lh hw3
      clear hw3
      cases hc : cellB x with
      | true =>
       rw [hc] at HCX
       go_wp2_with ((refine (HCX.out _).mono ?_); rintro e w4 ⟨rfl, b4⟩)
       go_roundw
       case rel => exact ⟨k + 1, hlt, by go_num, HNX.out hc, HW3.out.trans (b4.mono HW3.out.size)⟩
       case measure => simp [intOf]; omega
      | false =>
       rw [hc] at HCX
       go_wp2_with ((refine (HCX.out _).mono ?_); rintro e w4 ⟨rfl, b4⟩)
       go_ret
       exact ⟨false, rfl, ⟨(fun h => by cases h), fun h => absurd h (HNO.out hc)⟩, HW3.out.trans (b4.mono HW3.out.size)⟩
  ·obtain rfl : k = l.length := by omega
   have hcells : ∀ x ∈ l, cellB x = true := by
    intro x hx
    obtain ⟨j, hj⟩ := List.getElem?_of_mem hx
    exact HALL.out j x (List.getElem?_eq_some_iff.1 hj).1 hj
   have HCS := Lh hcells
   clear hcells HALL
   go_wp2
   go_ret
   exact ⟨true, rfl, by simp only [true_iff]; exact HCS.out, HB.out⟩
def EqRel (n : Nat) (l m : List Cl) (w : World) (i : Value) (wr : World) : Prop := ∃ k : Nat, k ≤ n ∧ i = .int .i64 (k : Int) ∧ (∀ j, j < k → l[j]? = m[j]?) ∧ Below w.heap.size w wr
theorem equalC_any (v u : Value) (l m : List Cl) (w : World) (h : CS w w.heap.size v l) (g : CS w w.heap.size u m) (hl : l.length ≤ 1048576) (hm : m.length = l.length) :
  Calls Tryz.prog 30 #[v, u] w fun e w' => (∃ b, e = .returned (.bool b) ∧ (b = true ↔ l = m)) ∧ Below w.heap.size w w' := by
 obtain ⟨A, cp, rfl, g1, g2⟩ := h.form
 obtain ⟨D, cd, rfl, g3, g4⟩ := g.form
 have H := Lh h
 have G := Lh g
 have hlm : (((l.length : Nat) : Int) != ((m.length : Nat) : Int)) = false := by rw [hm]; simp
 obtain ⟨n, hn⟩ : ∃ n, n = l.length := ⟨_, rfl⟩
 rw [← hn] at g1 hl hm hlm H
 rw [hm] at g3 hlm G
 rw [← hn, hm]
 have HN := Lh hn
 have HM := Lh hm
 clear h g hn hm
 go_enter Tryz.func30, Tryz.ntmps30
 go_wp2
 go_loopw [13] (fun i wr => EqRel n l m w i wr) (fun i _ => n - (intOf i).toNat)
 case atStart => exact ⟨0, Nat.zero_le _, rfl, fun j hj => absurd hj (by omega), Below.refl _ _⟩
 case round =>
  generalize wr = w2 at *
  obtain ⟨k, hk, rfl, hall, hb⟩ := hrel
  have HB := Lh hb
  have HALL := Lh hall
  clear hb hall
  by_cases hlt : k < n
  ·obtain ⟨x, hx⟩ : ∃ x, l[k]? = some x := ⟨_, List.getElem?_eq_getElem (by have := HN.out; omega)⟩
   obtain ⟨y, hy⟩ : ∃ y, m[k]? = some y := ⟨_, List.getElem?_eq_getElem (by have := HM.out; omega)⟩
   obtain ⟨ad, hA, hba, t0, t1, t2⟩ := (H.out.below HB.out).get k x hx
   obtain ⟨ad2, hA2, hba2, u0, u1, u2⟩ := (G.out.below HB.out).get k y hy
   subst hA hA2
   have hki : (k : Int) < (n : Int) := by omega
   have HX := Lh hx
   have HY := Lh hy
   clear hx hy
   by_cases hxy : x = y
   ·subst hxy
    go_wp2
    go_quiet (fail)
    have hbq := below_drewW HB.out nq
    go_wp2
    go_roundw
    case rel =>
     refine ⟨k + 1, hlt, by go_num, ?_, hbq⟩
     intro j hj
     by_cases e : j = k
     ·rw [e, HX.out, HY.out]
     ·exact HALL.out j (by omega)
    case measure => simp [intOf]; omega
   ·have hk3 := cl_ne hxy
    have hno : ¬ l = m := fun e => hxy (by have h1 := HX.out; rw [e, HY.out] at h1; exact (Option.some.inj h1).symm)
    rcases hk3 with hbq | ⟨hrq, hbq⟩ | ⟨hrq, haq, hbq⟩
    all_goals
     try rw [hrq] at t0
     try rw [haq] at t1
     try clear hrq
     try clear haq
     go_wp2
     go_quiet (fail)
     have hbq2 := below_drewW HB.out nq
     go_wp2
     go_ret
     exact ⟨⟨false, rfl, ⟨(fun h => by cases h), fun h => absurd h hno⟩⟩, hbq2⟩
  ·obtain rfl : k = n := by omega
   have heq : l = m := by
    apply List.ext_getElem?
    intro j
    by_cases hj : j < k
    ·exact HALL.out j hj
    ·rw [List.getElem?_eq_none (by have := HN.out; omega), List.getElem?_eq_none (by have := HM.out; omega)]
   have HE := Lh heq
   clear heq
   go_wp2
   go_ret
   exact ⟨⟨true, rfl, by simp only [true_iff]; exact HE.out⟩, HB.out⟩
theorem row_whole {l : List Cl} {r c y : Nat} (hg : GOk l.length r c) (hy : y < r) : mendL (rowL l c y) (c : Int) 0 = rowL l c y ↔ RowW l c y := by
 have hr := rowL_ok hg hy
 have hlen := rowL_len hg hy
 constructor
 ·intro e x hx
  have h1 := mend_row0 (F := l) (G := rowL l c y) hg hr hy (fun x hx => rowL_getC y x hx) x hx
  rw [e, rowL_getC y x hx] at h1
  exact row_of_mend hg hy (fun x hx => by
   have h2 := mend_row0 (F := l) (G := rowL l c y) hg hr hy (fun x hx => rowL_getC y x hx) x hx
   rw [e, rowL_getC y x hx] at h2
   exact h2.symm) x hx
 ·intro hw
  refine rows_ext (r := 1) (c := c) (by rw [mendL_len, hlen, Nat.one_mul]) (by rw [hlen, Nat.one_mul]) hg.c1 (fun y' x hy' hx => ?_)
  obtain rfl : y' = 0 := by omega
  rw [Nat.zero_mul, Nat.zero_add, mend_row0 (F := l) (G := rowL l c y) hg hr hy (fun x hx => rowL_getC y x hx) x hx, rowL_getC y x hx, mendL_same hg y hy hw]
def RcRel9 (l : List Cl) (r c : Nat) (w : World) (box : Obj) (i : Value) (wr : World) : Prop := ∃ y : Nat, y ≤ r ∧ i = .int .i64 (y : Int) ∧ (∀ y', y' < y → RowW l c y') ∧ wr.heap[w.heap.size]? = some box ∧ w.heap.size < wr.heap.size ∧ Below w.heap.size w wr
theorem prightCells_any (m : Int) (s : Sc) (A1 A2 A3 A4 A5 A6 : Option Addr) (n1 n2 n3 n4 n5 n6 k1 k2 k3 k4 k5 k6 : Nat) (v : Value) (l : List Cl) (r c : Nat) (w : World) (hr : s.rows = r) (hcs : s.cols = c) (h : CS w w.heap.size v l) (hf : ∀ x ∈ l, CellFit x) (hl : l.length ≤ 1048576) (r1 : 1 ≤ r) (r2 : r ≤ 1000) (c1 : 1 ≤ c) (c2 : c ≤ 1000) :
  Calls Tryz.prog 44 #[.agg (vRaw m s (.slice A1 n1 k1) (.slice A2 n2 k2) (.slice A3 n3 k3) (.slice A4 n4 k4) (.slice A5 n5 k5) (.slice A6 n6 k6)), v] w (CellsRPost l r c w) := by
 obtain ⟨A, cp, rfl, g1, g2⟩ := h.form
 have H := Lh h
 have HF := Lh hf
 clear h hf
 obtain ⟨n0, hn0⟩ : ∃ n0 : Nat, n0 = r * c := ⟨_, rfl⟩
 have hrc : (r : Int) * (c : Int) = (n0 : Int) := by rw [hn0, Int.natCast_mul]
 have hrc2 : n0 ≤ 1000000 := by rw [hn0]; exact rc_le r2 c2
 have HN0 := Lh hn0
 have k0 := heap_alloc_new w (.cells (vRaw m s (.slice A1 n1 k1) (.slice A2 n2 k2) (.slice A3 n3 k3) (.slice A4 n4 k4) (.slice A5 n5 k5) (.slice A6 n6 k6)) 30)
 obtain ⟨d0, -⟩ := cellR (v := .int .i64 s.rows) k0 0 rfl
 obtain ⟨d1, -⟩ := cellR (v := .int .i64 s.cols) k0 1 rfl
 rw [hr] at d0
 rw [hcs] at d1
 have K0 := Lh k0
 have HCS := Lh hcs
 have HRS := Lh hr
 have HAR := Lh (allRight_any (.slice A l.length cp) l (w.alloc (.cells (vRaw m s (.slice A1 n1 k1) (.slice A2 n2 k2) (.slice A3 n3 k3) (.slice A4 n4 k4) (.slice A5 n5 k5) (.slice A6 n6 k6)) 30)) (H.out.alloc (Nat.le_refl _) _ |>.more (by simp)) HF.out hl)
 have hb1 : Below w.heap.size w (w.alloc (.cells (vRaw m s (.slice A1 n1 k1) (.slice A2 n2 k2) (.slice A3 n3 k3) (.slice A4 n4 k4) (.slice A5 n5 k5) (.slice A6 n6 k6)) 30)) := (Below.refl _ _).alloc (Nat.le_refl _) _
 have hz1 : (w.alloc (.cells (vRaw m s (.slice A1 n1 k1) (.slice A2 n2 k2) (.slice A3 n3 k3) (.slice A4 n4 k4) (.slice A5 n5 k5) (.slice A6 n6 k6)) 30)).heap.size = w.heap.size + 1 := by simp
 have HB1 := Lh hb1
 have HZ1 := Lh hz1
 clear hn0 k0 hr hcs hb1 hz1
 by_cases hlen : l.length = n0
 ·have hd2 : (((l.length : Nat) : Int) != (n0 : Int)) = false := by rw [hlen]; simp
  have hg : GOk l.length r c := ⟨c1, c2, r1, r2, by rw [hlen, HN0.out]⟩
  have HG := Lh hg
  clear hg hlen
  go_enter Tryz.func44, Tryz.ntmps44
  go_upto_region 2 with fail
  ((with_reducible refine HAR.out.mono ?_); rintro e w3 ⟨b, rfl, hiff, b3⟩)
  have k3 : w3.heap[w.heap.size]? = _ := (b3.block _ (by rw [HZ1.out]; omega)).trans K0.out
  have hz3 : w.heap.size < w3.heap.size := by have := b3.size; rw [HZ1.out] at this; omega
  have HB3 := Lh (HB1.out.trans (b3.mono HB1.out.size))
  have K3 := Lh k3
  have HIFF := Lh hiff
  clear b3 k3 hiff d0 d1
  rename_i K hK
  refine hK _ _ ?_
  clear hK K
  cases b with
  | false =>
   go_wp2
   go_ret
   exact cellsR_no (fun g => by have := HIFF.out.2 g.2.1; cases this) HB3.out
  | true =>
   have HALL := Lh (HIFF.out.1 rfl)
   obtain ⟨d0, -⟩ := cellR (v := .int .i64 s.rows) K3.out 0 rfl
   rw [HRS.out] at d0
   go_wp2
   go_loopw [22] (fun i wr => RcRel9 l r c w (.cells (vRaw m s (.slice A1 n1 k1) (.slice A2 n2 k2) (.slice A3 n3 k3) (.slice A4 n4 k4) (.slice A5 n5 k5) (.slice A6 n6 k6)) 30) i wr) (fun i _ => r - (intOf i).toNat)
   case atStart => exact ⟨0, Nat.zero_le _, rfl, fun y hy => absurd hy (by omega), K3.out, hz3, HB3.out⟩
   case round =>
    clear d0 hz3
    generalize wr = w4 at *
    obtain ⟨y, hy, rfl, hrow, hk, hsz, hb⟩ := hrel
    have HROW := Lh hrow
    have HK := Lh hk
    have HB4 := Lh hb
    clear hrow hk hb
    by_cases hlt : y < r
    ·have hyi : (y : Int) < (r : Int) := by omega
     obtain ⟨p, hp⟩ : ∃ p, p = y * c := ⟨_, rfl⟩
     have he := row_end (c := c) hlt
     rw [← hp, ← HG.out.n] at he
     have hq1 : (y : Int) * (c : Int) = (p : Int) := by rw [hp]; simp
     have hq2 : ((y : Int) + 1) * (c : Int) = (p : Int) + (c : Int) := by rw [Int.add_mul, Int.one_mul, hq1]
     have hq3 : p + c - p = c := by omega
     have hlp : 0 < l.length := by omega
     have hne : ¬ cp = p := by omega
     have hCS := (H.out.below HB4.out).more HB4.out.size
     obtain ⟨ad, hA, -, -⟩ := hCS.get 0 _ (List.getElem?_eq_getElem hlp)
     subst hA
     have hrowCS := hCS.cut p c c (by omega) rfl
     rw [if_neg hne] at hrowCS
     simp only [Option.map_some] at hrowCS
     have hrl : ((l.drop p).take c) = rowL l c y := by rw [hp]; rfl
     rw [hrl] at hrowCS
     have HRC := Lh hrowCS
     have HRL := Lh (rowL_len HG.out hlt)
     have HML : Hid ((mendL (rowL l c y) (c : Int) 0).length = c) := by show _ = _; rw [mendL_len, HRL.out]
     obtain ⟨d1, -⟩ := cellR (v := .int .i64 s.cols) HK.out 1 rfl
     rw [HCS.out] at d1
     have hRW := row_whole HG.out hlt
     have HP := Lh hp
     clear hp hrl hrowCS hCS
     by_cases hw : RowW l c y
     ·have HEQ : Hid (∀ b : Bool, (b = true ↔ mendL (rowL l c y) (c : Int) 0 = rowL l c y) → b = true) := fun b h => h.2 (hRW.2 hw)
      have HW := Lh hw
      clear hw hRW
      go_upto_region 7 with fail
      rw [hq3]
      clear hq1 hq2 hne
      go_wp2_with ((go_at_call 78; (with_reducible refine (gmend_any _ (rowL l c y) (c : Int) 0 _ HRC.out (by rw [HRL.out]; omega)).mono ?_); rintro e w6 ⟨v6, rfl, o6, b6⟩; obtain ⟨A6', k6', rfl, p6', q6'⟩ := o6.form; rw [HML.out] at p6'; have HO6 := Lh o6; have HB6 := Lh b6; clear o6 b6))
      (with_reducible refine (equalC_any _ _ (mendL (rowL l c y) (c : Int) 0) (rowL l c y) _ HO6.out ((HRC.out.below HB6.out).more HB6.out.size) (by rw [HML.out]; omega) (by rw [HML.out, HRL.out])).mono ?_)
      rintro e w7 ⟨⟨b, rfl, hb⟩, b7⟩
      obtain rfl := HEQ.out b hb
      have HB7 := Lh b7
      clear b7
      go_wp2
      go_roundw
      case rel =>
       refine ⟨y + 1, hlt, by go_num, ?_, (HB7.out.block _ (by have := HB6.out.size; omega)).trans ((HB6.out.block _ hsz).trans HK.out), by have := HB6.out.size; have := HB7.out.size; omega, (HB4.out.trans (HB6.out.mono HB4.out.size)).trans (HB7.out.mono (Nat.le_trans HB4.out.size HB6.out.size))⟩
       intro y' hy'
       by_cases e : y' = y
       ·rw [e]; exact HW.out
       ·exact HROW.out y' (by omega)
      case measure => simp [intOf]; omega
     ·have HEQ : Hid (∀ b : Bool, (b = true ↔ mendL (rowL l c y) (c : Int) 0 = rowL l c y) → b = false) := fun b h => by
       cases b with
       | false => rfl
       | true => exact absurd (hRW.1 (h.1 rfl)) hw
      have HNO : Hid (¬ CellsR l r c) := fun g => hw (g.2.2 y hlt)
      clear hw hRW
      go_upto_region 7 with fail
      rw [hq3]
      clear hq1 hq2 hne
      go_wp2_with ((go_at_call 78; (with_reducible refine (gmend_any _ (rowL l c y) (c : Int) 0 _ HRC.out (by rw [HRL.out]; omega)).mono ?_); rintro e w6 ⟨v6, rfl, o6, b6⟩; obtain ⟨A6', k6', rfl, p6', q6'⟩ := o6.form; rw [HML.out] at p6'; have HO6 := Lh o6; have HB6 := Lh b6; clear o6 b6))
      (with_reducible refine (equalC_any _ _ (mendL (rowL l c y) (c : Int) 0) (rowL l c y) _ HO6.out ((HRC.out.below HB6.out).more HB6.out.size) (by rw [HML.out]; omega) (by rw [HML.out, HRL.out])).mono ?_)
      rintro e w7 ⟨⟨b, rfl, hb⟩, b7⟩
      obtain rfl := HEQ.out b hb
      have HB7 := Lh b7
      clear b7
      go_wp2
      go_ret
      exact cellsR_no HNO.out ((HB4.out.trans (HB6.out.mono HB4.out.size)).trans (HB7.out.mono (Nat.le_trans HB4.out.size HB6.out.size)))
    ·obtain rfl : r = y := by omega
     go_wp2
     go_ret
     exact ⟨true, rfl, by simp only [true_iff]; exact ⟨HG.out.n, HALL.out, HROW.out⟩, HB4.out⟩
 ·have hd2 : (((l.length : Nat) : Int) != (n0 : Int)) = true := by rw [bne_iff_ne]; omega
  have HLN := Lh hlen
  clear hlen
  go_enter Tryz.func44, Tryz.ntmps44
  go_wp2
  go_ret
  exact cellsR_no (fun g => HLN.out (by rw [HN0.out]; exact g.1)) HB1.out
@[reducible] def v5 (m pv : Int) (Ap : Option Addr) (np cp : Nat) (Ai : Option Addr) (ni ci : Nat) (Au : Option Addr) (nu cu : Nat) : Array Value := #[.int .i64 m, .int .u8 pv, .slice Ap np cp, .slice Ai ni ci, .slice Au nu cu]
section
variable {w w' : World} {base : Nat} {B B' : Nat → Prop} {vp vi vu av : Value} {ps : List Int} {is us : List UInt8} {l : List Ac} {r : Pr} {m pv : Int}
end
def kindN (b : UInt8) : Nat := if b.toNat < 32 then 0 else if b.toNat < 48 then 1 else if b.toNat < 64 then 2 else if b.toNat < 127 then 3 else if b.toNat = 127 then 4 else 5
theorem kindOf_any (b : UInt8) (w : World) : Calls Tryz.prog 132 #[.int .u8 (b.toNat : Int)] w fun e w' => e = .returned (.int .i64 (kindN b : Int)) ∧ w = w' := by
 unfold kindN
 split
 ·rename_i h
  have d0 : (b.toNat : Int) < 32 := by omega
  go_enter Tryz.func132, Tryz.ntmps132
  go_wp2
  go_ret
  exact ⟨rfl, rfl⟩
 rename_i h0
 have d0 : decide ((b.toNat : Int) < 32) = false := by simp; omega
 split
 ·rename_i h
  have d1 : (b.toNat : Int) < 48 := by omega
  go_enter Tryz.func132, Tryz.ntmps132
  go_wp2
  go_ret
  exact ⟨rfl, rfl⟩
 rename_i h1
 have d1 : decide ((b.toNat : Int) < 48) = false := by simp; omega
 split
 ·rename_i h
  have d2 : (b.toNat : Int) < 64 := by omega
  go_enter Tryz.func132, Tryz.ntmps132
  go_wp2
  go_ret
  exact ⟨rfl, rfl⟩
 rename_i h2
 have d2 : decide ((b.toNat : Int) < 64) = false := by simp; omega
 split
 ·rename_i h
  have d3 : (b.toNat : Int) < 127 := by omega
  go_enter Tryz.func132, Tryz.ntmps132
  go_wp2
  go_ret
  exact ⟨rfl, rfl⟩
 rename_i h3
 have d3 : decide ((b.toNat : Int) < 127) = false := by simp; omega
 split
 ·rename_i h
  have d4 : ((b.toNat : Int) == 127) = true := beq_iff_eq.2 (by omega)
  go_enter Tryz.func132, Tryz.ntmps132
  go_wp2
  go_ret
  exact ⟨rfl, rfl⟩
 ·have d4 : ((b.toNat : Int) == 127) = false := bF (by omega)
  go_enter Tryz.func132, Tryz.ntmps132
  go_wp2
  go_ret
  exact ⟨rfl, rfl⟩
theorem noInter_any (b : UInt8) (w : World) : Calls Tryz.prog 119 #[.int .u8 (b.toNat : Int)] w fun e w' => e = .returned (.bool (!interB b)) ∧ w = w' := by
 have hk : interB b = decide (kindN b = 1) := by
  unfold kindN interB
  repeat' split
  all_goals simp <;> omega
 by_cases h : kindN b = 1
 ·have d : ((kindN b : Int) == 1) = true := beq_iff_eq.2 (by omega)
  rw [hk, decide_eq_true h]
  clear hk h
  go_enter Tryz.func119, Tryz.ntmps119
  go_wp2_with (go_at_call 132; refine (kindOf_any b _).mono ?_; rintro e w' ⟨rfl, rfl⟩)
  go_ret
  exact ⟨congrArg (fun t => Ending.returned (Value.bool (!t))) d, rfl⟩
 ·have d : ((kindN b : Int) == 1) = false := bF (by omega)
  rw [hk, decide_eq_false h]
  clear hk h
  go_enter Tryz.func119, Tryz.ntmps119
  go_wp2_with (go_at_call 132; refine (kindOf_any b _).mono ?_; rintro e w' ⟨rfl, rfl⟩)
  go_ret
  exact ⟨congrArg (fun t => Ending.returned (Value.bool (!t))) d, rfl⟩
theorem noParam_any (n : Int) (w : World) : Calls Tryz.prog 117 #[.int .i64 n] w fun e w' => e = .returned (.bool (!decide (0 ≤ n ∧ n ≤ 65535))) ∧ w = w' := by
 by_cases h0 : n < 0
 ·rw [decide_eq_false (by omega)]
  go_enter Tryz.func117, Tryz.ntmps117
  go_wp2
  go_ret
  exact ⟨rfl, rfl⟩
 have d0 : decide (n < 0) = false := by simp; omega
 by_cases h1 : 65535 < n
 ·rw [decide_eq_false (by omega)]
  clear h0
  go_enter Tryz.func117, Tryz.ntmps117
  go_wp2
  go_ret
  exact ⟨rfl, rfl⟩
 ·have d1 : decide (65535 < n) = false := by simp; omega
  rw [decide_eq_true (by omega)]
  clear h0 h1
  go_enter Tryz.func117, Tryz.ntmps117
  go_wp2
  go_ret
  exact ⟨rfl, rfl⟩
def fsN (x : Nat) : Nat := if x < 128 then 1 else if x < 194 then 0 else if x < 224 then 2 else if x < 240 then 3 else if x < 245 then 4 else 0
theorem fs_1 (x : Nat) (h : x < 128) : fsN x = 1 := by unfold fsN; rw [if_pos h]
theorem fs_0 (x : Nat) (h : 128 ≤ x) (h2 : x < 194) : fsN x = 0 := by unfold fsN; rw [if_neg (by omega), if_pos h2]
theorem fs_2 (x : Nat) (h : 194 ≤ x) (h2 : x < 224) : fsN x = 2 := by unfold fsN; rw [if_neg (by omega), if_neg (by omega), if_pos h2]
theorem fs_3 (x : Nat) (h : 224 ≤ x) (h2 : x < 240) : fsN x = 3 := by unfold fsN; rw [if_neg (by omega), if_neg (by omega), if_neg (by omega), if_pos h2]
theorem fs_4 (x : Nat) (h : 240 ≤ x) (h2 : x < 245) : fsN x = 4 := by unfold fsN; rw [if_neg (by omega), if_neg (by omega), if_neg (by omega), if_neg (by omega), if_pos h2]
theorem fs_5 (x : Nat) (h : 245 ≤ x) : fsN x = 0 := by unfold fsN; rw [if_neg (by omega), if_neg (by omega), if_neg (by omega), if_neg (by omega), if_neg (by omega)]
theorem fs_le (x : Nat) : fsN x ≤ 4 := by unfold fsN; (repeat' split) <;> omega
def okT (a : UInt8) (i : Nat) (c : UInt8) : Bool := if i = 0 then secB a c else contB c
def tailsL (a : UInt8) : Nat → List UInt8 → Bool
  | _, [] => true
  | i, c :: t => okT a i c && tailsL a (i + 1) t
def fitsL : List UInt8 → Bool
  | [] => false
  | a :: t => decide (t.length < fsN a.toNat) && tailsL a 0 t
theorem tails_all (a : UInt8) (t : List UInt8) : ∀ i, (∀ k (h : k < t.length), okT a (i + k) t[k] = true) → tailsL a i t = true := by
  induction t with
  | nil => intro i _; rfl
  | cons c t ih =>
    intro i h
    unfold tailsL
    have h0 := h 0 (by simp)
    have h1 := ih (i + 1) (fun k hk => by
      have := h (k + 1) (by simp; omega)
      rw [show i + 1 + k = i + (k + 1) from by omega]
      simpa using this)
    simp at h0
    rw [h0, h1]
    rfl
theorem tails_not (a : UInt8) (t : List UInt8) : ∀ i k (h : k < t.length), okT a (i + k) t[k] = false → tailsL a i t = false := by
  induction t with
  | nil => intro i k h; simp at h
  | cons c t ih =>
    intro i k h h2
    unfold tailsL
    cases k with
    | zero =>
      simp at h2
      rw [h2]
      rfl
    | succ k =>
      have := ih (i + 1) k (by simpa using h) (by
        rw [show i + 1 + k = i + (k + 1) from by omega]
        simpa using h2)
      rw [this, Bool.and_false]
theorem fsize_any (x : Nat) (w : World) (hx : x < 256) : Calls Tryz.prog 129 #[.int .u8 (x : Int)] w fun e w' => e = .returned (.int .i64 (fsN x : Int)) ∧ w = w' := by
  by_cases h1 : x < 128
  · rw [fs_1 x h1]
    have d1 : (x : Int) < 128 := by omega
    go_enter Tryz.func129, Tryz.ntmps129
    go_wp2
    go_ret
    exact ⟨rfl, rfl⟩
  have d1 : decide ((x : Int) < 128) = false := by simp; omega
  by_cases h2 : x < 194
  · rw [fs_0 x (by omega) h2]
    have d2 : (x : Int) < 194 := by omega
    go_enter Tryz.func129, Tryz.ntmps129
    go_wp2
    go_ret
    exact ⟨rfl, rfl⟩
  have d2 : decide ((x : Int) < 194) = false := by simp; omega
  by_cases h3 : x < 224
  · rw [fs_2 x (by omega) h3]
    have d3 : (x : Int) < 224 := by omega
    go_enter Tryz.func129, Tryz.ntmps129
    go_wp2
    go_ret
    exact ⟨rfl, rfl⟩
  have d3 : decide ((x : Int) < 224) = false := by simp; omega
  by_cases h4 : x < 240
  · rw [fs_3 x (by omega) h4]
    have d4 : (x : Int) < 240 := by omega
    go_enter Tryz.func129, Tryz.ntmps129
    go_wp2
    go_ret
    exact ⟨rfl, rfl⟩
  have d4 : decide ((x : Int) < 240) = false := by simp; omega
  by_cases h5 : x < 245
  · rw [fs_4 x (by omega) h5]
    have d5 : (x : Int) < 245 := by omega
    go_enter Tryz.func129, Tryz.ntmps129
    go_wp2
    go_ret
    exact ⟨rfl, rfl⟩
  have d5 : decide ((x : Int) < 245) = false := by simp; omega
  rw [fs_5 x (by omega)]
  go_enter Tryz.func129, Tryz.ntmps129
  go_wp2
  go_ret
  exact ⟨rfl, rfl⟩
theorem second_any (x : Nat) (w : World) (hx : x < 256) : Calls Tryz.prog 135 #[.int .u8 (x : Int)] w fun e w' => e = .returned (.tuple #[.int .u8 (loB x : Int), .int .u8 (hiB x : Int)]) ∧ w = w' := by
  by_cases h1 : x = 224
  · subst h1
    go_enter Tryz.func135, Tryz.ntmps135
    go_wp2
    go_ret2
    exact ⟨rfl, rfl⟩
  by_cases h2 : x = 237
  · subst h2
    go_enter Tryz.func135, Tryz.ntmps135
    go_wp2
    go_ret2
    exact ⟨rfl, rfl⟩
  by_cases h3 : x = 240
  · subst h3
    go_enter Tryz.func135, Tryz.ntmps135
    go_wp2
    go_ret2
    exact ⟨rfl, rfl⟩
  by_cases h4 : x = 244
  · subst h4
    go_enter Tryz.func135, Tryz.ntmps135
    go_wp2
    go_ret2
    exact ⟨rfl, rfl⟩
  have e224 : ((x : Int) == 224) = false := bF (by omega)
  have e237 : ((x : Int) == 237) = false := bF (by omega)
  have e240 : ((x : Int) == 240) = false := bF (by omega)
  have e244 : ((x : Int) == 244) = false := bF (by omega)
  rw [lo_other x h1 h3, hi_other x h2 h4]
  clear h1 h2 h3 h4
  go_enter Tryz.func135, Tryz.ntmps135
  go_wp2
  go_ret2
  exact ⟨rfl, rfl⟩
def FitPost (l : List UInt8) (w : World) (e : Ending) (w' : World) : Prop := e = .returned (.bool (fitsL l)) ∧ w = w'
theorem fitPost_of {l : List UInt8} {w : World} {b : Bool} (h : b = fitsL l) : FitPost l w (.returned (.bool b)) w := ⟨by rw [h], rfl⟩
def FitRel (a : UInt8) (t : List UInt8) (m : Nat) (i : Value) : Prop := i = .int .i64 0 ∨ ∃ k : Nat, 1 ≤ k ∧ k ≤ m ∧ i = .int .i64 (k : Int) ∧ ∀ j (h : j < t.length), j < k → okT a j t[j] = true
theorem fits_yes (a : UInt8) (t : List UInt8) (h : t.length < fsN a.toNat) (h2 : ∀ j (h : j < t.length), okT a j t[j] = true) : fitsL (a :: t) = true := by
  show (decide (t.length < fsN a.toNat) && tailsL a 0 t) = _
  rw [tails_all a t 0 (fun k hk => by simpa using h2 k hk), Bool.and_true]
  exact decide_eq_true h
theorem fits_no (a : UInt8) (t : List UInt8) (k : Nat) (h : k < t.length) (h2 : okT a k t[k] = false) : fitsL (a :: t) = false := by
  show (decide (t.length < fsN a.toNat) && tailsL a 0 t) = _
  rw [tails_not a t 0 k h (by simpa using h2), Bool.and_false]
theorem fits_long (a : UInt8) (t : List UInt8) (h : fsN a.toNat ≤ t.length) : fitsL (a :: t) = false := by
  show (decide (t.length < fsN a.toNat) && tailsL a 0 t) = _
  rw [decide_eq_false (by omega), Bool.false_and]
theorem okT_zero (a : UInt8) (t : List UInt8) (c : Nat) (h : 0 < t.length) (hc : (t[0]'h).toNat = c) (x : Nat) (hx : a.toNat = x) : okT a 0 t[0] = (decide (loB x ≤ c) && decide (c ≤ hiB x)) := by
  unfold okT secB
  rw [if_pos rfl, hc, hx]
theorem okT_pos (a : UInt8) (c : UInt8) (k : Nat) (h : 1 ≤ k) : okT a k c = contB c := by
  unfold okT
  rw [if_neg (by omega)]
theorem fits_cons (ad : Addr) (cp n : Nat) (a : UInt8) (t : List UInt8) (x : Nat) (w : World) (hx : a.toNat = x) (ca : w.cell? ad = some (.int .u8 (x : Int))) (hcs : ∀ j b, t[j]? = some b → w.cell? ⟨ad.block, ad.off + (j + 1), none⟩ = some (.int .u8 (b.toNat : Int)))
    (hn : n = t.length + 1) (hlen : n ≤ cp) (hcp : cp ≤ 9223372036854775807) : Calls Tryz.prog 128 #[.slice (some ad) n cp] w (FitPost (a :: t) w) := by
  have hx1 : x < 256 := by rw [← hx]; exact a.toNat_lt
  have HX := Lh hx
  have HC := Lh hcs
  have hn1 : 1 ≤ n := by omega
  have HT := Lh hn
  clear hx hcs hn
  have hfs := fs_le x
  have e0 : ((n : Int) == 0) = false := bF (by omega)
  obtain ⟨N, hN⟩ : ∃ N, fsN x = N := ⟨_, rfl⟩
  have HN := Lh hN
  rw [hN] at hfs
  clear hN
  by_cases hf : n ≤ N
  · have HF : Hid (t.length < fsN a.toNat) := by
      have := HT.out
      rw [HX.out, HN.out]
      show t.length < N
      omega
    have d1 : decide (N < n) = false := by simp; omega
    by_cases hc1 : cp = 1
    · obtain rfl : n = 1 := by omega
      have hnil : t = [] := List.eq_nil_of_length_eq_zero (by have := HT.out; omega)
      subst hnil
      subst hc1
      go_enter Tryz.func128, Tryz.ntmps128
      go_wp2_with (go_at_call 129; refine (fsize_any x w hx1).mono ?_; rintro e w' ⟨rfl, rfl⟩; rw [HN.out])
      go_loop [22] (fun i => i = .int .i64 0) (fun i => 1 - (intOf i).toNat)
      case atStart => rfl
      case round =>
        obtain rfl := hrel
        go_wp2
        go_ret
        exact fitPost_of (fits_yes a [] HF.out (fun j h => by simp at h)).symm
    · obtain ⟨m, hm⟩ : ∃ m, n - 1 = m := ⟨_, rfl⟩
      have hmn : m < n := by omega
      have HM : Hid (m = t.length) := by
        have := HT.out
        show m = t.length
        omega
      go_enter Tryz.func128, Tryz.ntmps128
      go_wp2_with (go_at_call 129; refine (fsize_any x w hx1).mono ?_; rintro e w' ⟨rfl, rfl⟩; rw [HN.out])
      clear hm d1 e0
      go_loop [22] (fun i => FitRel a t m i) (fun i => m - (intOf i).toNat)
      case atStart => exact .inl rfl
      case round =>
        rcases hrel with rfl | ⟨k, hk1, hk2, rfl, hok⟩
        · by_cases hlt : 0 < m
          · have ht : 0 < t.length := by rw [← HM.out]; exact hlt
            have hc := HC.out 0 t[0] (List.getElem?_eq_getElem ht)
            obtain ⟨c, hce⟩ : ∃ c, (t[0]'ht).toNat = c := ⟨_, rfl⟩
            have hc1 : c < 256 := by rw [← hce]; exact UInt8.toNat_lt _
            rw [hce] at hc
            have HO : Hid _ := okT_zero a t c ht hce x HX.out
            have hlo := lo_ge x
            have hhi := hiB_le x
            clear hce
            obtain ⟨L, hL⟩ : ∃ L, loB x = L := ⟨_, rfl⟩
            obtain ⟨H, hH⟩ : ∃ H, hiB x = H := ⟨_, rfl⟩
            rw [hL] at hlo HO
            rw [hH] at hhi HO
            have HL := Lh hL
            have HH := Lh hH
            clear hL hH
            by_cases c1 : c < L
            · have HZ := Lh (fits_no a t 0 ht (by rw [HO.out, decide_eq_false (by omega), Bool.false_and]))
              go_wp2_with (go_at_call 135; refine (second_any x w hx1).mono ?_; rintro e w' ⟨rfl, rfl⟩; rw [HL.out, HH.out])
              go_ret
              exact fitPost_of HZ.out.symm
            have d1 : decide (c < L) = false := by simp; omega
            by_cases c2 : H < c
            · have HZ := Lh (fits_no a t 0 ht (by rw [HO.out, decide_eq_false (show ¬ c ≤ H by omega), Bool.and_false]))
              go_wp2_with (go_at_call 135; refine (second_any x w hx1).mono ?_; rintro e w' ⟨rfl, rfl⟩; rw [HL.out, HH.out])
              go_ret
              exact fitPost_of HZ.out.symm
            have d2 : decide (H < c) = false := by simp; omega
            have HZ : Hid (okT a 0 t[0] = true) := by
              rw [HO.out, decide_eq_true (show L ≤ c by omega), decide_eq_true (show c ≤ H by omega)]
              rfl
            go_wp2_with (go_at_call 135; refine (second_any x w hx1).mono ?_; rintro e w' ⟨rfl, rfl⟩; rw [HL.out, HH.out])
            go_round
            case rel => exact .inr ⟨1, by omega, by omega, rfl, fun j h hj => by obtain rfl : j = 0 := by omega
                                                                                 exact HZ.out⟩
            case measure => simp [intOf]; omega
          · have hm0 : m = 0 := by omega
            subst hm0
            have hnil : t = [] := List.eq_nil_of_length_eq_zero HM.out.symm
            subst hnil
            go_wp2
            go_ret
            exact fitPost_of (fits_yes a [] HF.out (fun j h => by simp at h)).symm
        · have HK := Lh hok
          clear hok
          have e1 : ((k : Int) == 0) = false := bF (by omega)
          by_cases hlt : k < m
          · have ht : k < t.length := by rw [← HM.out]; exact hlt
            have hc0 := HC.out k t[k] (List.getElem?_eq_getElem ht)
            have hc : w.cell? ⟨ad.block, ad.off + 1 + k, none⟩ = some (.int .u8 ((t[k]).toNat : Int)) := by
              rw [← hc0, show ad.off + 1 + k = ad.off + (k + 1) from by omega]
            clear hc0
            have HO := Lh (okT_pos a t[k] k hk1)
            have hci := contB_iff t[k]
            obtain ⟨c, hce⟩ : ∃ c, (t[k]'ht).toNat = c := ⟨_, rfl⟩
            have hc1 : c < 256 := by rw [← hce]; exact UInt8.toNat_lt _
            rw [hce] at hc hci
            have HI := Lh hci
            clear hce hci
            by_cases c1 : c < 128
            · have c1' : (c : Int) < 128 := by omega
              have HZ := Lh (fits_no a t k ht (by rw [HO.out, ← Bool.not_eq_true, HI.out]; omega))
              go_wp2
              go_ret
              exact fitPost_of HZ.out.symm
            have d1 : decide ((c : Int) < 128) = false := by simp; omega
            by_cases c2 : 191 < c
            · have c2' : 191 < (c : Int) := by omega
              have HZ := Lh (fits_no a t k ht (by rw [HO.out, ← Bool.not_eq_true, HI.out]; omega))
              go_wp2
              go_ret
              exact fitPost_of HZ.out.symm
            have d2 : decide (191 < (c : Int)) = false := by simp; omega
            have HZ : Hid (okT a k t[k] = true) := by
              rw [HO.out]
              exact HI.out.2 (by omega)
            go_wp2
            go_round
            case rel => exact .inr ⟨k + 1, by omega, by omega, by go_num, fun j h hj => by
              by_cases hjk : j = k
              · subst hjk
                exact HZ.out
              · exact HK.out j h (by omega)⟩
            case measure => simp [intOf]; omega
          · have hkm : k = m := by omega
            subst hkm
            have HZ := Lh (fits_yes a t HF.out (fun j h => HK.out j h (by rw [HM.out]; exact h)))
            go_wp2
            go_ret
            exact fitPost_of HZ.out.symm
  · have HF : Hid (fsN a.toNat ≤ t.length) := by
      have := HT.out
      rw [HX.out, HN.out]
      show N ≤ t.length
      omega
    have d1 : N < n := by omega
    go_enter Tryz.func128, Tryz.ntmps128
    go_wp2_with (go_at_call 129; refine (fsize_any x w hx1).mono ?_; rintro e w' ⟨rfl, rfl⟩; rw [HN.out])
    go_ret
    exact fitPost_of (fits_long a t HF.out).symm
theorem fits_nil (A : Option Addr) (cp : Nat) (w : World) : Calls Tryz.prog 128 #[.slice A 0 cp] w (FitPost [] w) := by
  go_enter Tryz.func128, Tryz.ntmps128
  go_wp2
  go_ret
  exact fitPost_of rfl
theorem fits_any (v : Value) (l : List UInt8) (B : Nat) (w : World) (hv : BS w B v l) : Calls Tryz.prog 128 #[v] w (FitPost l w) := by
  match l, hv with
  | [], hv =>
    obtain ⟨A, c, rfl, _⟩ := hv
    exact fits_nil A c w
  | a :: t, hv =>
    obtain ⟨ad, cp, rfl, h1, h2, ca, hcs⟩ := hv.lits
    unfold maxLen at h2
    exact fits_cons ad cp _ a t a.toNat w rfl ca hcs rfl h1 (by omega)
theorem okT0 (a c : UInt8) : okT a 0 c = secB a c := rfl
theorem okT1 (a c : UInt8) (k : Nat) : okT a (k + 1) c = contB c := rfl
theorem fits1_iff (a : UInt8) : fitsL [a] = true ↔ 0 < fsN a.toNat := by
 show (decide (0 < fsN a.toNat) && tailsL a 0 []) = true ↔ _
 simp [tailsL]
theorem fits2_iff (a b : UInt8) : fitsL [a, b] = true ↔ 1 < fsN a.toNat ∧ secB a b = true := by
 show (decide (1 < fsN a.toNat) && tailsL a 0 [b]) = true ↔ _
 simp [tailsL, okT0]
theorem fits3_iff (a b c : UInt8) : fitsL [a, b, c] = true ↔ 2 < fsN a.toNat ∧ secB a b = true ∧ contB c = true := by
 show (decide (2 < fsN a.toNat) && tailsL a 0 [b, c]) = true ↔ _
 simp [tailsL, okT0, okT1]
theorem fs_cases (x : Nat) : (x < 128 ∧ fsN x = 1) ∨ (128 ≤ x ∧ x < 194 ∧ fsN x = 0) ∨ (194 ≤ x ∧ x < 224 ∧ fsN x = 2) ∨ (224 ≤ x ∧ x < 240 ∧ fsN x = 3) ∨ (240 ≤ x ∧ x < 245 ∧ fsN x = 4) ∨ (245 ≤ x ∧ fsN x = 0) := by
 unfold fsN
 (repeat' split) <;> omega
theorem beg_fits (a : UInt8) (t : List UInt8) : beginsL (a :: t) = (fitsL (a :: t) && decide (t.length + 1 < fsN a.toNat)) := by
 have hx := fs_cases a.toNat
 match t with
 | [] =>
  rw [Bool.eq_iff_iff, beg1_iff, Bool.and_eq_true, fits1_iff, decide_eq_true_eq]
  simp only [List.length_nil]
  omega
 | [b] =>
  rw [Bool.eq_iff_iff, beg2_iff, Bool.and_eq_true, fits2_iff, secB_iff, decide_eq_true_eq]
  simp only [List.length_cons, List.length_nil]
  omega
 | [b, c] =>
  rw [Bool.eq_iff_iff, beg3_iff, Bool.and_eq_true, fits3_iff, secB_iff, decide_eq_true_eq]
  simp only [List.length_cons, List.length_nil]
  constructor
  ·rintro ⟨h1, h2, h3, h4, h5⟩
   exact ⟨⟨by omega, ⟨h3, h4⟩, h5⟩, by omega⟩
  ·rintro ⟨⟨h1, ⟨h3, h4⟩, h5⟩, h6⟩
   exact ⟨by omega, by omega, h3, h4, h5⟩
 | b :: c :: d :: t =>
  have := fs_le a.toNat
  rw [decide_eq_false (by simp; omega), Bool.and_false]
  rfl
theorem begins_any (v : Value) (l : List UInt8) (B : Nat) (w : World) (hv : BS w B v l) : Calls Tryz.prog 115 #[v] w (BegPost l w) := by
 have hfit := fits_any v l B w hv
 cases hf : fitsL l
 ·have HB : Hid (false = beginsL l) := by
   match l, hf with
   | [], _ => rfl
   | a :: t, hf => rw [beg_fits, hf, Bool.false_and]; rfl
  obtain ⟨A, c, rfl, _⟩ := hv
  unfold FitPost at hfit
  rw [hf] at hfit
  clear hf
  go_enter Tryz.func115, Tryz.ntmps115
  go_wp2_with (go_at_call 128; refine hfit.mono ?_; rintro e w' ⟨rfl, rfl⟩)
  go_ret
  exact begPost_of HB.out
 ·match l, hv, hfit, hf with
  | a :: t, hv, hfit, hf =>
   have hb := beg_fits a t
   rw [hf, Bool.true_and] at hb
   obtain ⟨ad, cp, rfl, h1, h2, ca, _⟩ := hv.lits
   unfold maxLen at h2
   unfold FitPost at hfit
   rw [hf] at hfit
   obtain ⟨x, hx⟩ : ∃ x, a.toNat = x := ⟨_, rfl⟩
   have hx1 : x < 256 := by rw [← hx]; exact a.toNat_lt
   rw [hx] at ca hb
   clear hf hx hv
   have hn : (a :: t).length = t.length + 1 := rfl
   rw [← hn] at hb
   have hn1 : 0 < (a :: t).length := by simp
   clear hn
   have hfs := fs_le x
   have hsz := fsize_any x w hx1
   have HB := Lh hb
   generalize (a :: t).length = n at *
   generalize fsN x = N at *
   clear hb
   go_enter Tryz.func115, Tryz.ntmps115
   go_wp2_with (first
    | (go_at_call 128; refine hfit.mono ?_; rintro e w' ⟨rfl, rfl⟩)
    | (go_at_call 129; refine hsz.mono ?_; rintro e w' ⟨rfl, rfl⟩))
   go_ret
   exact begPost_of HB.out.symm
def badP (x : Int) : Bool := !decide (0 ≤ x ∧ x ≤ 65535)
def badI (x : UInt8) : Bool := !interB x
theorem noParam_bad (n : Int) (w : World) : Calls Tryz.prog 117 #[.int .i64 n] w fun e w' => e = .returned (.bool (badP n)) ∧ w = w' := noParam_any n w
theorem noInter_bad (b : UInt8) (w : World) : Calls Tryz.prog 119 #[.int .u8 (b.toNat : Int)] w fun e w' => e = .returned (.bool (badI b)) ∧ w = w' := noInter_any b w
def NoneRel {α : Type} (P : α → Bool) (l : List α) (w : World) (i : Value) (wr : World) : Prop := ∃ k : Nat, k ≤ l.length ∧ i = .int .i64 (k : Int) ∧ (∀ x ∈ l.take k, P x = false) ∧ w = wr
theorem idxI_any (v : Value) (l : List Int) (w : World) (hv : IS w w.heap.size v l) (hl : l.length ≤ 1048576) : Calls Tryz.prog 130 #[v, .func (.func 117) #[] #[]] w fun e w' => ∃ k : Int, e = .returned (.int .i64 k) ∧ (decide (0 ≤ k) = l.any fun x => badP x) ∧ w = w' := by
 have HV := Lh hv
 obtain ⟨A, c, rfl, g1, g2, g3⟩ := hv.at_
 unfold maxLen at g2
 clear hv
 go_enter Tryz.func130, Tryz.ntmps130
 go_wp2
 go_loopw [8] (fun i wr => NoneRel (fun x => badP x) l w i wr) (fun i _ => l.length - (intOf i).toNat)
 case atStart => exact ⟨0, Nat.zero_le _, rfl, by simp, rfl⟩
 case round =>
  obtain ⟨k, hk, rfl, hn, rfl⟩ := hrel
  have HN := Lh hn
  clear hn
  by_cases hlt : k < l.length
  ·obtain ⟨ad, rfl, hc⟩ := g3 k hlt
   obtain ⟨x, hx⟩ : ∃ x, l[k] = x := ⟨_, rfl⟩
   rw [hx] at hc
   unfold vI at hc
   have hX : l[k]? = some x := by rw [List.getElem?_eq_getElem hlt, hx]
   have HX := Lh hX
   clear hx g3 hX
   have HC : Hid _ := fun (w : World) => noParam_bad x w
   cases ht : badP x
   all_goals rw [ht] at HC
   all_goals have HT := Lh ht
   all_goals clear ht
   rotate_left 0
   ·go_wp2_with (go_at_call 117; refine (HC.out _).mono ?_; rintro e w' ⟨rfl, rfl⟩)
    go_roundw
    case rel =>
     refine ⟨k + 1, hlt, by go_num, fun y hy => ?_, rfl⟩
     rw [List.take_succ_eq_append_getElem hlt, List.mem_append, List.mem_singleton] at hy
     rcases hy with hy | hy
     ·exact HN.out y hy
     ·have : x = l[k] := (List.getElem?_eq_some_iff.1 HX.out).2.symm
      rw [hy, ← this]; exact HT.out
    case measure => simp [intOf]; omega
   ·go_wp2_with (go_at_call 117; refine (HC.out _).mono ?_; rintro e w' ⟨rfl, rfl⟩)
    go_ret
    refine ⟨(k : Int), rfl, ?_, rfl⟩
    rw [decide_eq_true (by omega)]
    exact (List.any_eq_true.2 ⟨x, List.mem_of_getElem? HX.out, HT.out⟩).symm
  ·obtain rfl : k = l.length := by omega
   rw [List.take_length] at HN
   clear g3
   go_wp2
   go_ret
   refine ⟨-1, rfl, ?_, rfl⟩
   rw [decide_eq_false (by omega)]
   exact (List.any_eq_false.2 fun x hx => by rw [HN.out x hx]; simp).symm
theorem hasI_any (v : Value) (l : List Int) (w : World) (hv : IS w w.heap.size v l) (hl : l.length ≤ 1048576) : Calls Tryz.prog 116 #[v, .func (.func 117) #[] #[]] w fun e w' => e = .returned (.bool (l.any fun x => badP x)) ∧ w = w' := by
 have HC := Lh (idxI_any v l w hv hl)
 obtain ⟨A, c, rfl, g1, g2, g3⟩ := hv.at_
 clear hv g3
 go_enter Tryz.func116, Tryz.ntmps116
 go_wp2_with (go_at_call 130; refine HC.out.mono ?_; rintro e w' ⟨k, rfl, hk, rfl⟩; have HK := Lh hk; clear hk)
 go_ret
 exact ⟨congrArg (fun t => Ending.returned (.bool t)) HK.out, rfl⟩
theorem idxB_any (v : Value) (l : List UInt8) (w : World) (hv : BS w w.heap.size v l) (hl : l.length ≤ 1048576) : Calls Tryz.prog 131 #[v, .func (.func 119) #[] #[]] w fun e w' => ∃ k : Int, e = .returned (.int .i64 k) ∧ (decide (0 ≤ k) = l.any fun x => badI x) ∧ w = w' := by
 have HV := Lh hv
 obtain ⟨A, c, rfl, g1, g2, g3⟩ := hv.at_
 unfold maxLen at g2
 clear hv
 go_enter Tryz.func131, Tryz.ntmps131
 go_wp2
 go_loopw [8] (fun i wr => NoneRel (fun x => badI x) l w i wr) (fun i _ => l.length - (intOf i).toNat)
 case atStart => exact ⟨0, Nat.zero_le _, rfl, by simp, rfl⟩
 case round =>
  obtain ⟨k, hk, rfl, hn, rfl⟩ := hrel
  have HN := Lh hn
  clear hn
  by_cases hlt : k < l.length
  ·obtain ⟨ad, rfl, hc⟩ := g3 k hlt
   obtain ⟨x, hx⟩ : ∃ x, l[k] = x := ⟨_, rfl⟩
   rw [hx] at hc
   unfold vB at hc
   have hX : l[k]? = some x := by rw [List.getElem?_eq_getElem hlt, hx]
   have HX := Lh hX
   clear hx g3 hX
   have HC : Hid _ := fun (w : World) => noInter_bad x w
   cases ht : badI x
   all_goals rw [ht] at HC
   all_goals have HT := Lh ht
   all_goals clear ht
   rotate_left 0
   ·go_wp2_with (go_at_call 119; refine (HC.out _).mono ?_; rintro e w' ⟨rfl, rfl⟩)
    go_roundw
    case rel =>
     refine ⟨k + 1, hlt, by go_num, fun y hy => ?_, rfl⟩
     rw [List.take_succ_eq_append_getElem hlt, List.mem_append, List.mem_singleton] at hy
     rcases hy with hy | hy
     ·exact HN.out y hy
     ·have : x = l[k] := (List.getElem?_eq_some_iff.1 HX.out).2.symm
      rw [hy, ← this]; exact HT.out
    case measure => simp [intOf]; omega
   ·go_wp2_with (go_at_call 119; refine (HC.out _).mono ?_; rintro e w' ⟨rfl, rfl⟩)
    go_ret
    refine ⟨(k : Int), rfl, ?_, rfl⟩
    rw [decide_eq_true (by omega)]
    exact (List.any_eq_true.2 ⟨x, List.mem_of_getElem? HX.out, HT.out⟩).symm
  ·obtain rfl : k = l.length := by omega
   rw [List.take_length] at HN
   clear g3
   go_wp2
   go_ret
   refine ⟨-1, rfl, ?_, rfl⟩
   rw [decide_eq_false (by omega)]
   exact (List.any_eq_false.2 fun x hx => by rw [HN.out x hx]; simp).symm
theorem hasB_any (v : Value) (l : List UInt8) (w : World) (hv : BS w w.heap.size v l) (hl : l.length ≤ 1048576) : Calls Tryz.prog 118 #[v, .func (.func 119) #[] #[]] w fun e w' => e = .returned (.bool (l.any fun x => badI x)) ∧ w = w' := by
 have HC := Lh (idxB_any v l w hv hl)
 obtain ⟨A, c, rfl, g1, g2, g3⟩ := hv.at_
 clear hv g3
 go_enter Tryz.func118, Tryz.ntmps118
 go_wp2_with (go_at_call 131; refine HC.out.mono ?_; rintro e w' ⟨k, rfl, hk, rfl⟩; have HK := Lh hk; clear hk)
 go_ret
 exact ⟨congrArg (fun t => Ending.returned (.bool t)) HK.out, rfl⟩
def RPost (P : Prop) (w : World) (e : Ending) (w' : World) : Prop := ∃ r, e = .returned (.bool r) ∧ (r = true ↔ P) ∧ Below w.heap.size w w'
theorem RPost.yes {P : Prop} {w w' : World} (h : P) (hb : Below w.heap.size w w') : RPost P w (.returned (.bool true)) w' := ⟨true, rfl, by simp [h], hb⟩
theorem RPost.no {P : Prop} {w w' : World} (h : ¬ P) (hb : Below w.heap.size w w') : RPost P w (.returned (.bool false)) w' := ⟨false, rfl, by simp [h], hb⟩
theorem anyP (l : List Int) : (l.any fun x => badP x) = false ↔ ∀ x ∈ l, 0 ≤ x ∧ x ≤ 65535 := by
 rw [List.any_eq_false]
 constructor
 ·intro h x hx
  have := h x hx
  simpa [badP] using this
 ·intro h x hx
  have := h x hx
  simp [badP, this]
theorem anyI (l : List UInt8) : (l.any fun x => badI x) = false ↔ ∀ x ∈ l, interB x = true := by
 rw [List.any_eq_false]
 constructor
 ·intro h x hx
  have := h x hx
  simpa [badI] using this
 ·intro h x hx
  have := h x hx
  simp [badI, this]
theorem rightUtf_any (vp vi vu : Value) (m : Int) (pv : Nat) (ps : List Int) (is us : List UInt8) (S : Nat → Prop) (w : World) (hp : SL vI w S vp ps) (hi : SL vB w S vi is) (hu : SL vB w S vu us) (hS : ∀ x, S x → x < w.heap.size) (hus : us.length ≤ 1048576) : Calls Tryz.prog 81 #[.agg #[.int .i64 m, .int .u8 (pv : Int), vp, vi, vu]] w (RPost (us.length = 0 ∨ m = 0 ∧ beginsL us = true) w) := by
 have HP : Hid (∀ o, IS (w.alloc o) (w.alloc o).heap.size vp ps) := fun o => ((hp.is hS).alloc (Nat.le_refl _) o).more (by simp)
 have HI : Hid (∀ o, BS (w.alloc o) (w.alloc o).heap.size vi is) := fun o => ((hi.bs hS).alloc (Nat.le_refl _) o).more (by simp)
 have HU : Hid (∀ o, BS (w.alloc o) (w.alloc o).heap.size vu us) := fun o => ((hu.bs hS).alloc (Nat.le_refl _) o).more (by simp)
 obtain ⟨Ap, cp, rfl, p1, p2⟩ := hp.form
 obtain ⟨Ai, ci, rfl, i1, i2⟩ := hi.form
 obtain ⟨Au, cu, rfl, u1, u2⟩ := hu.form
 clear hp hi hu hS
 have HB : Hid (∀ o, Below w.heap.size w (w.alloc o)) := fun o => (Below.refl _ _).alloc (Nat.le_refl _) o
 by_cases h0 : us.length = 0
 ·have d0 : ((us.length : Int) == 0) = true := beq_iff_eq.2 (by omega)
  have HX := Lh (show us.length = 0 ∨ m = 0 ∧ beginsL us = true from .inl h0)
  clear h0
  go_enter Tryz.func81, Tryz.ntmps81
  go_wp2
  go_ret
  exact RPost.yes HX.out (HB.out _)
 ·have d0 : ((us.length : Int) == 0) = false := bF (by omega)
  by_cases h1 : m = 0
  ·have d1 : (m == 0) = true := beq_iff_eq.2 (by omega)
   cases hb : beginsL us
   ·have HX := Lh (show ¬ (us.length = 0 ∨ m = 0 ∧ false = true) from fun h => h.elim h0 (fun h => by cases h.2))
    have HBG := Lh hb
    clear h0 h1 hb
    go_enter Tryz.func81, Tryz.ntmps81
    go_wp2_with (go_at_call 115; (with_reducible refine (begins_any _ us _ _ (HU.out _)).mono ?_); rintro e w' ⟨rfl, rfl⟩; rw [HBG.out])
    go_ret
    exact RPost.no HX.out (HB.out _)
   ·have HX := Lh (show us.length = 0 ∨ m = 0 ∧ true = true from .inr ⟨h1, rfl⟩)
    have HBG := Lh hb
    clear h0 h1 hb
    go_enter Tryz.func81, Tryz.ntmps81
    go_wp2_with (go_at_call 115; (with_reducible refine (begins_any _ us _ _ (HU.out _)).mono ?_); rintro e w' ⟨rfl, rfl⟩; rw [HBG.out])
    go_ret
    exact RPost.yes HX.out (HB.out _)
  ·have d1 : (m == 0) = false := bF (by omega)
   have HX := Lh (show ¬ (us.length = 0 ∨ m = 0 ∧ beginsL us = true) from fun h => h.elim h0 (fun h => h1 h.1))
   clear h0 h1
   go_enter Tryz.func81, Tryz.ntmps81
   go_wp2
   go_ret
   exact RPost.no HX.out (HB.out _)
theorem rightParams_4 (vp vi vu : Value) (m : Int) (pv : Nat) (ps : List Int) (is us : List UInt8) (S : Nat → Prop) (w : World) (hp : SL vI w S vp ps) (hi : SL vB w S vi is) (hu : SL vB w S vu us) (hS : ∀ x, S x → x < w.heap.size) (hm : m = 4) : Calls Tryz.prog 82 #[.agg #[.int .i64 m, .int .u8 (pv : Int), vp, vi, vu]] w (RPost ((pv = 0 ∨ (60 ≤ pv ∧ pv ≤ 63)) ∧ ps.length ≤ 16 ∧ (∀ x ∈ ps, 0 ≤ x ∧ x ≤ 65535)) w) := by
 have HP : Hid (∀ o, IS (w.alloc o) (w.alloc o).heap.size vp ps) := fun o => ((hp.is hS).alloc (Nat.le_refl _) o).more (by simp)
 have HI : Hid (∀ o, BS (w.alloc o) (w.alloc o).heap.size vi is) := fun o => ((hi.bs hS).alloc (Nat.le_refl _) o).more (by simp)
 have HU : Hid (∀ o, BS (w.alloc o) (w.alloc o).heap.size vu us) := fun o => ((hu.bs hS).alloc (Nat.le_refl _) o).more (by simp)
 obtain ⟨Ap, cp, rfl, p1, p2⟩ := hp.form
 obtain ⟨Ai, ci, rfl, i1, i2⟩ := hi.form
 obtain ⟨Au, cu, rfl, u1, u2⟩ := hu.form
 clear hp hi hu hS
 have HB : Hid (∀ o, Below w.heap.size w (w.alloc o)) := fun o => (Below.refl _ _).alloc (Nat.le_refl _) o
 have m4 : (m == 4) = true := beq_iff_eq.2 (by omega)
 clear hm
 by_cases hpv : pv = 0
 ·have e0 : ((pv : Int) == 0) = true := beq_iff_eq.2 (by omega)
  by_cases hl : ps.length ≤ 16
  ·have dl : (ps.length : Int) ≤ 16 := by omega
   cases ha : ps.any fun x => badP x
   ·have HX := Lh (show (pv = 0 ∨ (60 ≤ pv ∧ pv ≤ 63)) ∧ ps.length ≤ 16 ∧ (∀ x ∈ ps, 0 ≤ x ∧ x ≤ 65535) from ⟨by omega, hl, (anyP ps).1 ha⟩)
    have HA := Lh ha
    clear ha hpv
    go_enter Tryz.func82, Tryz.ntmps82
    go_wp2_with (go_at_call 116; refine (hasI_any _ ps _ (HP.out _) (by omega)).mono ?_; rintro e w' ⟨rfl, rfl⟩; rw [HA.out])
    go_ret
    exact RPost.yes HX.out (HB.out _)
   ·have HX := Lh (show ¬ ((pv = 0 ∨ (60 ≤ pv ∧ pv ≤ 63)) ∧ ps.length ≤ 16 ∧ (∀ x ∈ ps, 0 ≤ x ∧ x ≤ 65535)) from fun h => by rw [(anyP ps).2 h.2.2] at ha; cases ha)
    have HA := Lh ha
    clear ha hpv
    go_enter Tryz.func82, Tryz.ntmps82
    go_wp2_with (go_at_call 116; refine (hasI_any _ ps _ (HP.out _) (by omega)).mono ?_; rintro e w' ⟨rfl, rfl⟩; rw [HA.out])
    go_ret
    exact RPost.no HX.out (HB.out _)
  ·have dl : decide ((ps.length : Int) ≤ 16) = false := by simp; omega
   have HX := Lh (show ¬ ((pv = 0 ∨ (60 ≤ pv ∧ pv ≤ 63)) ∧ ps.length ≤ 16 ∧ (∀ x ∈ ps, 0 ≤ x ∧ x ≤ 65535)) from fun h => hl h.2.1)
   clear hl hpv
   go_enter Tryz.func82, Tryz.ntmps82
   go_wp2
   go_ret
   exact RPost.no HX.out (HB.out _)
 ·have e0 : ((pv : Int) == 0) = false := bF (by omega)
  by_cases h60 : 60 ≤ pv
  ·have e1 : (60 : Int) ≤ (pv : Int) := by omega
   by_cases h63 : pv ≤ 63
   ·have e2 : (pv : Int) ≤ 63 := by omega
    by_cases hl : ps.length ≤ 16
    ·have dl : (ps.length : Int) ≤ 16 := by omega
     cases ha : ps.any fun x => badP x
     ·have HX := Lh (show (pv = 0 ∨ (60 ≤ pv ∧ pv ≤ 63)) ∧ ps.length ≤ 16 ∧ (∀ x ∈ ps, 0 ≤ x ∧ x ≤ 65535) from ⟨by omega, hl, (anyP ps).1 ha⟩)
      have HA := Lh ha
      clear ha hpv
      go_enter Tryz.func82, Tryz.ntmps82
      go_wp2_with (go_at_call 116; refine (hasI_any _ ps _ (HP.out _) (by omega)).mono ?_; rintro e w' ⟨rfl, rfl⟩; rw [HA.out])
      go_ret
      exact RPost.yes HX.out (HB.out _)
     ·have HX := Lh (show ¬ ((pv = 0 ∨ (60 ≤ pv ∧ pv ≤ 63)) ∧ ps.length ≤ 16 ∧ (∀ x ∈ ps, 0 ≤ x ∧ x ≤ 65535)) from fun h => by rw [(anyP ps).2 h.2.2] at ha; cases ha)
      have HA := Lh ha
      clear ha hpv
      go_enter Tryz.func82, Tryz.ntmps82
      go_wp2_with (go_at_call 116; refine (hasI_any _ ps _ (HP.out _) (by omega)).mono ?_; rintro e w' ⟨rfl, rfl⟩; rw [HA.out])
      go_ret
      exact RPost.no HX.out (HB.out _)
    ·have dl : decide ((ps.length : Int) ≤ 16) = false := by simp; omega
     have HX := Lh (show ¬ ((pv = 0 ∨ (60 ≤ pv ∧ pv ≤ 63)) ∧ ps.length ≤ 16 ∧ (∀ x ∈ ps, 0 ≤ x ∧ x ≤ 65535)) from fun h => hl h.2.1)
     clear hl hpv
     go_enter Tryz.func82, Tryz.ntmps82
     go_wp2
     go_ret
     exact RPost.no HX.out (HB.out _)
   ·have e2 : decide ((pv : Int) ≤ 63) = false := by simp; omega
    have HX := Lh (show ¬ ((pv = 0 ∨ (60 ≤ pv ∧ pv ≤ 63)) ∧ ps.length ≤ 16 ∧ (∀ x ∈ ps, 0 ≤ x ∧ x ≤ 65535)) from fun h => by have := h.1; omega)
    clear hpv
    go_enter Tryz.func82, Tryz.ntmps82
    go_wp2
    go_ret
    exact RPost.no HX.out (HB.out _)
  ·have e1 : decide ((60 : Int) ≤ (pv : Int)) = false := by simp; omega
   have HX := Lh (show ¬ ((pv = 0 ∨ (60 ≤ pv ∧ pv ≤ 63)) ∧ ps.length ≤ 16 ∧ (∀ x ∈ ps, 0 ≤ x ∧ x ≤ 65535)) from fun h => by have := h.1; omega)
   clear hpv
   go_enter Tryz.func82, Tryz.ntmps82
   go_wp2
   go_ret
   exact RPost.no HX.out (HB.out _)
theorem rightParams_5 (vp vi vu : Value) (m : Int) (pv : Nat) (ps : List Int) (is us : List UInt8) (S : Nat → Prop) (w : World) (hp : SL vI w S vp ps) (hi : SL vB w S vi is) (hu : SL vB w S vu us) (hS : ∀ x, S x → x < w.heap.size) (hm : m = 5) : Calls Tryz.prog 82 #[.agg #[.int .i64 m, .int .u8 (pv : Int), vp, vi, vu]] w (RPost ((pv = 0 ∨ (60 ≤ pv ∧ pv ≤ 63)) ∧ ps.length ≤ 16 ∧ (∀ x ∈ ps, 0 ≤ x ∧ x ≤ 65535)) w) := by
 have HP : Hid (∀ o, IS (w.alloc o) (w.alloc o).heap.size vp ps) := fun o => ((hp.is hS).alloc (Nat.le_refl _) o).more (by simp)
 have HI : Hid (∀ o, BS (w.alloc o) (w.alloc o).heap.size vi is) := fun o => ((hi.bs hS).alloc (Nat.le_refl _) o).more (by simp)
 have HU : Hid (∀ o, BS (w.alloc o) (w.alloc o).heap.size vu us) := fun o => ((hu.bs hS).alloc (Nat.le_refl _) o).more (by simp)
 obtain ⟨Ap, cp, rfl, p1, p2⟩ := hp.form
 obtain ⟨Ai, ci, rfl, i1, i2⟩ := hi.form
 obtain ⟨Au, cu, rfl, u1, u2⟩ := hu.form
 clear hp hi hu hS
 have HB : Hid (∀ o, Below w.heap.size w (w.alloc o)) := fun o => (Below.refl _ _).alloc (Nat.le_refl _) o
 have m4 : (m == 4) = false := bF (by omega)
 have m5 : (m == 5) = true := beq_iff_eq.2 (by omega)
 clear hm
 by_cases hpv : pv = 0
 ·have e0 : ((pv : Int) == 0) = true := beq_iff_eq.2 (by omega)
  by_cases hl : ps.length ≤ 16
  ·have dl : (ps.length : Int) ≤ 16 := by omega
   cases ha : ps.any fun x => badP x
   ·have HX := Lh (show (pv = 0 ∨ (60 ≤ pv ∧ pv ≤ 63)) ∧ ps.length ≤ 16 ∧ (∀ x ∈ ps, 0 ≤ x ∧ x ≤ 65535) from ⟨by omega, hl, (anyP ps).1 ha⟩)
    have HA := Lh ha
    clear ha hpv
    go_enter Tryz.func82, Tryz.ntmps82
    go_wp2_with (go_at_call 116; refine (hasI_any _ ps _ (HP.out _) (by omega)).mono ?_; rintro e w' ⟨rfl, rfl⟩; rw [HA.out])
    go_ret
    exact RPost.yes HX.out (HB.out _)
   ·have HX := Lh (show ¬ ((pv = 0 ∨ (60 ≤ pv ∧ pv ≤ 63)) ∧ ps.length ≤ 16 ∧ (∀ x ∈ ps, 0 ≤ x ∧ x ≤ 65535)) from fun h => by rw [(anyP ps).2 h.2.2] at ha; cases ha)
    have HA := Lh ha
    clear ha hpv
    go_enter Tryz.func82, Tryz.ntmps82
    go_wp2_with (go_at_call 116; refine (hasI_any _ ps _ (HP.out _) (by omega)).mono ?_; rintro e w' ⟨rfl, rfl⟩; rw [HA.out])
    go_ret
    exact RPost.no HX.out (HB.out _)
  ·have dl : decide ((ps.length : Int) ≤ 16) = false := by simp; omega
   have HX := Lh (show ¬ ((pv = 0 ∨ (60 ≤ pv ∧ pv ≤ 63)) ∧ ps.length ≤ 16 ∧ (∀ x ∈ ps, 0 ≤ x ∧ x ≤ 65535)) from fun h => hl h.2.1)
   clear hl hpv
   go_enter Tryz.func82, Tryz.ntmps82
   go_wp2
   go_ret
   exact RPost.no HX.out (HB.out _)
 ·have e0 : ((pv : Int) == 0) = false := bF (by omega)
  by_cases h60 : 60 ≤ pv
  ·have e1 : (60 : Int) ≤ (pv : Int) := by omega
   by_cases h63 : pv ≤ 63
   ·have e2 : (pv : Int) ≤ 63 := by omega
    by_cases hl : ps.length ≤ 16
    ·have dl : (ps.length : Int) ≤ 16 := by omega
     cases ha : ps.any fun x => badP x
     ·have HX := Lh (show (pv = 0 ∨ (60 ≤ pv ∧ pv ≤ 63)) ∧ ps.length ≤ 16 ∧ (∀ x ∈ ps, 0 ≤ x ∧ x ≤ 65535) from ⟨by omega, hl, (anyP ps).1 ha⟩)
      have HA := Lh ha
      clear ha hpv
      go_enter Tryz.func82, Tryz.ntmps82
      go_wp2_with (go_at_call 116; refine (hasI_any _ ps _ (HP.out _) (by omega)).mono ?_; rintro e w' ⟨rfl, rfl⟩; rw [HA.out])
      go_ret
      exact RPost.yes HX.out (HB.out _)
     ·have HX := Lh (show ¬ ((pv = 0 ∨ (60 ≤ pv ∧ pv ≤ 63)) ∧ ps.length ≤ 16 ∧ (∀ x ∈ ps, 0 ≤ x ∧ x ≤ 65535)) from fun h => by rw [(anyP ps).2 h.2.2] at ha; cases ha)
      have HA := Lh ha
      clear ha hpv
      go_enter Tryz.func82, Tryz.ntmps82
      go_wp2_with (go_at_call 116; refine (hasI_any _ ps _ (HP.out _) (by omega)).mono ?_; rintro e w' ⟨rfl, rfl⟩; rw [HA.out])
      go_ret
      exact RPost.no HX.out (HB.out _)
    ·have dl : decide ((ps.length : Int) ≤ 16) = false := by simp; omega
     have HX := Lh (show ¬ ((pv = 0 ∨ (60 ≤ pv ∧ pv ≤ 63)) ∧ ps.length ≤ 16 ∧ (∀ x ∈ ps, 0 ≤ x ∧ x ≤ 65535)) from fun h => hl h.2.1)
     clear hl hpv
     go_enter Tryz.func82, Tryz.ntmps82
     go_wp2
     go_ret
     exact RPost.no HX.out (HB.out _)
   ·have e2 : decide ((pv : Int) ≤ 63) = false := by simp; omega
    have HX := Lh (show ¬ ((pv = 0 ∨ (60 ≤ pv ∧ pv ≤ 63)) ∧ ps.length ≤ 16 ∧ (∀ x ∈ ps, 0 ≤ x ∧ x ≤ 65535)) from fun h => by have := h.1; omega)
    clear hpv
    go_enter Tryz.func82, Tryz.ntmps82
    go_wp2
    go_ret
    exact RPost.no HX.out (HB.out _)
  ·have e1 : decide ((60 : Int) ≤ (pv : Int)) = false := by simp; omega
   have HX := Lh (show ¬ ((pv = 0 ∨ (60 ≤ pv ∧ pv ≤ 63)) ∧ ps.length ≤ 16 ∧ (∀ x ∈ ps, 0 ≤ x ∧ x ≤ 65535)) from fun h => by have := h.1; omega)
   clear hpv
   go_enter Tryz.func82, Tryz.ntmps82
   go_wp2
   go_ret
   exact RPost.no HX.out (HB.out _)
theorem rightParams_0 (vp vi vu : Value) (m : Int) (pv : Nat) (ps : List Int) (is us : List UInt8) (S : Nat → Prop) (w : World) (hp : SL vI w S vp ps) (hi : SL vB w S vi is) (hu : SL vB w S vu us) (hS : ∀ x, S x → x < w.heap.size) (hm4 : m ≠ 4) (hm5 : m ≠ 5) : Calls Tryz.prog 82 #[.agg #[.int .i64 m, .int .u8 (pv : Int), vp, vi, vu]] w (RPost (pv = 0 ∧ ps.length = 0) w) := by
 have HP : Hid (∀ o, IS (w.alloc o) (w.alloc o).heap.size vp ps) := fun o => ((hp.is hS).alloc (Nat.le_refl _) o).more (by simp)
 have HI : Hid (∀ o, BS (w.alloc o) (w.alloc o).heap.size vi is) := fun o => ((hi.bs hS).alloc (Nat.le_refl _) o).more (by simp)
 have HU : Hid (∀ o, BS (w.alloc o) (w.alloc o).heap.size vu us) := fun o => ((hu.bs hS).alloc (Nat.le_refl _) o).more (by simp)
 obtain ⟨Ap, cp, rfl, p1, p2⟩ := hp.form
 obtain ⟨Ai, ci, rfl, i1, i2⟩ := hi.form
 obtain ⟨Au, cu, rfl, u1, u2⟩ := hu.form
 clear hp hi hu hS
 have HB : Hid (∀ o, Below w.heap.size w (w.alloc o)) := fun o => (Below.refl _ _).alloc (Nat.le_refl _) o
 have m4 : (m == 4) = false := bF (by omega)
 have m5 : (m == 5) = false := bF (by omega)
 clear hm4 hm5
 by_cases hpv : pv = 0
 ·have e0 : ((pv : Int) == 0) = true := beq_iff_eq.2 (by omega)
  by_cases hl : ps.length = 0
  ·have dl : ((ps.length : Int) == 0) = true := beq_iff_eq.2 (by omega)
   have HX := Lh (And.intro hpv hl)
   clear hl hpv
   go_enter Tryz.func82, Tryz.ntmps82
   go_wp2
   go_ret
   exact RPost.yes HX.out (HB.out _)
  ·have dl : ((ps.length : Int) == 0) = false := bF (by omega)
   have HX := Lh (show ¬ (pv = 0 ∧ ps.length = 0) from fun h => hl h.2)
   clear hl hpv
   go_enter Tryz.func82, Tryz.ntmps82
   go_wp2
   go_ret
   exact RPost.no HX.out (HB.out _)
 ·have e0 : ((pv : Int) == 0) = false := bF (by omega)
  have HX := Lh (show ¬ (pv = 0 ∧ ps.length = 0) from fun h => hpv h.1)
  clear hpv
  go_enter Tryz.func82, Tryz.ntmps82
  go_wp2
  go_ret
  exact RPost.no HX.out (HB.out _)
theorem rightInter_2 (vp vi vu : Value) (m : Int) (pv : Nat) (ps : List Int) (is us : List UInt8) (S : Nat → Prop) (w : World) (hp : SL vI w S vp ps) (hi : SL vB w S vi is) (hu : SL vB w S vu us) (hS : ∀ x, S x → x < w.heap.size) (hm : m = 2) : Calls Tryz.prog 83 #[.agg #[.int .i64 m, .int .u8 (pv : Int), vp, vi, vu]] w (RPost ((0 < is.length ∧ is.length ≤ 2) ∧ (∀ x ∈ is, interB x = true)) w) := by
 have HP : Hid (∀ o, IS (w.alloc o) (w.alloc o).heap.size vp ps) := fun o => ((hp.is hS).alloc (Nat.le_refl _) o).more (by simp)
 have HI : Hid (∀ o, BS (w.alloc o) (w.alloc o).heap.size vi is) := fun o => ((hi.bs hS).alloc (Nat.le_refl _) o).more (by simp)
 have HU : Hid (∀ o, BS (w.alloc o) (w.alloc o).heap.size vu us) := fun o => ((hu.bs hS).alloc (Nat.le_refl _) o).more (by simp)
 obtain ⟨Ap, cp, rfl, p1, p2⟩ := hp.form
 obtain ⟨Ai, ci, rfl, i1, i2⟩ := hi.form
 obtain ⟨Au, cu, rfl, u1, u2⟩ := hu.form
 clear hp hi hu hS
 have HB : Hid (∀ o, Below w.heap.size w (w.alloc o)) := fun o => (Below.refl _ _).alloc (Nat.le_refl _) o
 have m2 : (m == 2) = true := beq_iff_eq.2 (by omega)
 clear hm
 by_cases h0 : 0 < is.length
 ·have d0 : 0 < is.length := h0
  by_cases h2 : is.length ≤ 2
  ·have d2 : (is.length : Int) ≤ 2 := by omega
   cases ha : is.any fun x => badI x
   ·have HX := Lh (show (0 < is.length ∧ is.length ≤ 2) ∧ (∀ x ∈ is, interB x = true) from ⟨⟨h0, h2⟩, (anyI is).1 ha⟩)
    have HA := Lh ha
    clear ha h0
    go_enter Tryz.func83, Tryz.ntmps83
    go_wp2_with (go_at_call 118; refine (hasB_any _ is _ (HI.out _) (by omega)).mono ?_; rintro e w' ⟨rfl, rfl⟩; rw [HA.out])
    go_ret
    exact RPost.yes HX.out (HB.out _)
   ·have HX := Lh (show ¬ ((0 < is.length ∧ is.length ≤ 2) ∧ (∀ x ∈ is, interB x = true)) from fun h => by rw [(anyI is).2 h.2] at ha; cases ha)
    have HA := Lh ha
    clear ha h0
    go_enter Tryz.func83, Tryz.ntmps83
    go_wp2_with (go_at_call 118; refine (hasB_any _ is _ (HI.out _) (by omega)).mono ?_; rintro e w' ⟨rfl, rfl⟩; rw [HA.out])
    go_ret
    exact RPost.no HX.out (HB.out _)
  ·have d2 : decide ((is.length : Int) ≤ 2) = false := by simp; omega
   have HX := Lh (show ¬ ((0 < is.length ∧ is.length ≤ 2) ∧ (∀ x ∈ is, interB x = true)) from fun h => h2 h.1.2)
   clear h2 h0
   go_enter Tryz.func83, Tryz.ntmps83
   go_wp2
   go_ret
   exact RPost.no HX.out (HB.out _)
 ·have d0 : decide (0 < is.length) = false := decide_eq_false h0
  have HX := Lh (show ¬ ((0 < is.length ∧ is.length ≤ 2) ∧ (∀ x ∈ is, interB x = true)) from fun h => h0 h.1.1)
  clear h0
  go_enter Tryz.func83, Tryz.ntmps83
  go_wp2
  go_ret
  exact RPost.no HX.out (HB.out _)
theorem rightInter_5 (vp vi vu : Value) (m : Int) (pv : Nat) (ps : List Int) (is us : List UInt8) (S : Nat → Prop) (w : World) (hp : SL vI w S vp ps) (hi : SL vB w S vi is) (hu : SL vB w S vu us) (hS : ∀ x, S x → x < w.heap.size) (hm : m = 5) : Calls Tryz.prog 83 #[.agg #[.int .i64 m, .int .u8 (pv : Int), vp, vi, vu]] w (RPost ((0 < is.length ∧ is.length ≤ 2) ∧ (∀ x ∈ is, interB x = true)) w) := by
 have HP : Hid (∀ o, IS (w.alloc o) (w.alloc o).heap.size vp ps) := fun o => ((hp.is hS).alloc (Nat.le_refl _) o).more (by simp)
 have HI : Hid (∀ o, BS (w.alloc o) (w.alloc o).heap.size vi is) := fun o => ((hi.bs hS).alloc (Nat.le_refl _) o).more (by simp)
 have HU : Hid (∀ o, BS (w.alloc o) (w.alloc o).heap.size vu us) := fun o => ((hu.bs hS).alloc (Nat.le_refl _) o).more (by simp)
 obtain ⟨Ap, cp, rfl, p1, p2⟩ := hp.form
 obtain ⟨Ai, ci, rfl, i1, i2⟩ := hi.form
 obtain ⟨Au, cu, rfl, u1, u2⟩ := hu.form
 clear hp hi hu hS
 have HB : Hid (∀ o, Below w.heap.size w (w.alloc o)) := fun o => (Below.refl _ _).alloc (Nat.le_refl _) o
 have m2 : (m == 2) = false := bF (by omega)
 have m5 : (m == 5) = true := beq_iff_eq.2 (by omega)
 clear hm
 by_cases h0 : 0 < is.length
 ·have d0 : 0 < is.length := h0
  by_cases h2 : is.length ≤ 2
  ·have d2 : (is.length : Int) ≤ 2 := by omega
   cases ha : is.any fun x => badI x
   ·have HX := Lh (show (0 < is.length ∧ is.length ≤ 2) ∧ (∀ x ∈ is, interB x = true) from ⟨⟨h0, h2⟩, (anyI is).1 ha⟩)
    have HA := Lh ha
    clear ha h0
    go_enter Tryz.func83, Tryz.ntmps83
    go_wp2_with (go_at_call 118; refine (hasB_any _ is _ (HI.out _) (by omega)).mono ?_; rintro e w' ⟨rfl, rfl⟩; rw [HA.out])
    go_ret
    exact RPost.yes HX.out (HB.out _)
   ·have HX := Lh (show ¬ ((0 < is.length ∧ is.length ≤ 2) ∧ (∀ x ∈ is, interB x = true)) from fun h => by rw [(anyI is).2 h.2] at ha; cases ha)
    have HA := Lh ha
    clear ha h0
    go_enter Tryz.func83, Tryz.ntmps83
    go_wp2_with (go_at_call 118; refine (hasB_any _ is _ (HI.out _) (by omega)).mono ?_; rintro e w' ⟨rfl, rfl⟩; rw [HA.out])
    go_ret
    exact RPost.no HX.out (HB.out _)
  ·have d2 : decide ((is.length : Int) ≤ 2) = false := by simp; omega
   have HX := Lh (show ¬ ((0 < is.length ∧ is.length ≤ 2) ∧ (∀ x ∈ is, interB x = true)) from fun h => h2 h.1.2)
   clear h2 h0
   go_enter Tryz.func83, Tryz.ntmps83
   go_wp2
   go_ret
   exact RPost.no HX.out (HB.out _)
 ·have d0 : decide (0 < is.length) = false := decide_eq_false h0
  have HX := Lh (show ¬ ((0 < is.length ∧ is.length ≤ 2) ∧ (∀ x ∈ is, interB x = true)) from fun h => h0 h.1.1)
  clear h0
  go_enter Tryz.func83, Tryz.ntmps83
  go_wp2
  go_ret
  exact RPost.no HX.out (HB.out _)
theorem rightInter_0 (vp vi vu : Value) (m : Int) (pv : Nat) (ps : List Int) (is us : List UInt8) (S : Nat → Prop) (w : World) (hp : SL vI w S vp ps) (hi : SL vB w S vi is) (hu : SL vB w S vu us) (hS : ∀ x, S x → x < w.heap.size) (hm2 : m ≠ 2) (hm5 : m ≠ 5) : Calls Tryz.prog 83 #[.agg #[.int .i64 m, .int .u8 (pv : Int), vp, vi, vu]] w (RPost (is.length = 0) w) := by
 have HP : Hid (∀ o, IS (w.alloc o) (w.alloc o).heap.size vp ps) := fun o => ((hp.is hS).alloc (Nat.le_refl _) o).more (by simp)
 have HI : Hid (∀ o, BS (w.alloc o) (w.alloc o).heap.size vi is) := fun o => ((hi.bs hS).alloc (Nat.le_refl _) o).more (by simp)
 have HU : Hid (∀ o, BS (w.alloc o) (w.alloc o).heap.size vu us) := fun o => ((hu.bs hS).alloc (Nat.le_refl _) o).more (by simp)
 obtain ⟨Ap, cp, rfl, p1, p2⟩ := hp.form
 obtain ⟨Ai, ci, rfl, i1, i2⟩ := hi.form
 obtain ⟨Au, cu, rfl, u1, u2⟩ := hu.form
 clear hp hi hu hS
 have HB : Hid (∀ o, Below w.heap.size w (w.alloc o)) := fun o => (Below.refl _ _).alloc (Nat.le_refl _) o
 have m2 : (m == 2) = false := bF (by omega)
 have m5 : (m == 5) = false := bF (by omega)
 clear hm2 hm5
 by_cases hl : is.length = 0
 ·have dl : ((is.length : Int) == 0) = true := beq_iff_eq.2 (by omega)
  have HX := Lh hl
  clear hl
  go_enter Tryz.func83, Tryz.ntmps83
  go_wp2
  go_ret
  exact RPost.yes HX.out (HB.out _)
 ·have dl : ((is.length : Int) == 0) = false := bF (by omega)
  have HX := Lh hl
  clear hl
  go_enter Tryz.func83, Tryz.ntmps83
  go_wp2
  go_ret
  exact RPost.no HX.out (HB.out _)
def PaP (m : Int) (pv : Nat) (ps : List Int) : Prop := ((m = 4 ∨ m = 5) ∧ (pv = 0 ∨ (60 ≤ pv ∧ pv ≤ 63)) ∧ ps.length ≤ 16 ∧ (∀ x ∈ ps, 0 ≤ x ∧ x ≤ 65535)) ∨ (¬ (m = 4 ∨ m = 5) ∧ pv = 0 ∧ ps.length = 0)
def InP (m : Int) (is : List UInt8) : Prop := ((m = 2 ∨ m = 5) ∧ (0 < is.length ∧ is.length ≤ 2) ∧ (∀ x ∈ is, interB x = true)) ∨ (¬ (m = 2 ∨ m = 5) ∧ is.length = 0)
def UtP (m : Int) (us : List UInt8) : Prop := us.length = 0 ∨ m = 0 ∧ beginsL us = true
theorem RPost.iff {P Q : Prop} {w w' : World} {e : Ending} (h : RPost P w e w') (hq : P ↔ Q) : RPost Q w e w' := by
 obtain ⟨r, he, h1, h2⟩ := h
 exact ⟨r, he, h1.trans hq, h2⟩
theorem rightParams_any (vp vi vu : Value) (m : Int) (pv : Nat) (ps : List Int) (is us : List UInt8) (S : Nat → Prop) (w : World) (hp : SL vI w S vp ps) (hi : SL vB w S vi is) (hu : SL vB w S vu us) (hS : ∀ x, S x → x < w.heap.size) : Calls Tryz.prog 82 #[.agg #[.int .i64 m, .int .u8 (pv : Int), vp, vi, vu]] w (RPost (PaP m pv ps) w) := by
 by_cases h4 : m = 4
 ·exact (rightParams_4 vp vi vu m pv ps is us S w hp hi hu hS h4).mono fun e w' h => h.iff ⟨fun h => .inl ⟨.inl h4, h⟩, fun h => h.elim (fun h => h.2) (fun h => absurd (.inl h4) h.1)⟩
 by_cases h5 : m = 5
 ·exact (rightParams_5 vp vi vu m pv ps is us S w hp hi hu hS h5).mono fun e w' h => h.iff ⟨fun h => .inl ⟨.inr h5, h⟩, fun h => h.elim (fun h => h.2) (fun h => absurd (.inr h5) h.1)⟩
 ·exact (rightParams_0 vp vi vu m pv ps is us S w hp hi hu hS h4 h5).mono fun e w' h => h.iff ⟨fun h => .inr ⟨fun hh => hh.elim h4 h5, h⟩, fun h => h.elim (fun h => absurd h.1 (fun hh => hh.elim h4 h5)) (fun h => h.2)⟩
theorem rightInter_any (vp vi vu : Value) (m : Int) (pv : Nat) (ps : List Int) (is us : List UInt8) (S : Nat → Prop) (w : World) (hp : SL vI w S vp ps) (hi : SL vB w S vi is) (hu : SL vB w S vu us) (hS : ∀ x, S x → x < w.heap.size) : Calls Tryz.prog 83 #[.agg #[.int .i64 m, .int .u8 (pv : Int), vp, vi, vu]] w (RPost (InP m is) w) := by
 by_cases h2 : m = 2
 ·exact (rightInter_2 vp vi vu m pv ps is us S w hp hi hu hS h2).mono fun e w' h => h.iff ⟨fun h => .inl ⟨.inl h2, h⟩, fun h => h.elim (fun h => h.2) (fun h => absurd (.inl h2) h.1)⟩
 by_cases h5 : m = 5
 ·exact (rightInter_5 vp vi vu m pv ps is us S w hp hi hu hS h5).mono fun e w' h => h.iff ⟨fun h => .inl ⟨.inr h5, h⟩, fun h => h.elim (fun h => h.2) (fun h => absurd (.inr h5) h.1)⟩
 ·exact (rightInter_0 vp vi vu m pv ps is us S w hp hi hu hS h2 h5).mono fun e w' h => h.iff ⟨fun h => .inr ⟨fun hh => hh.elim h2 h5, h⟩, fun h => h.elim (fun h => absurd h.1 (fun hh => hh.elim h2 h5)) (fun h => h.2)⟩
theorem right_iff (m : Int) (pv : Nat) (ps : List Int) (is us : List UInt8) : RightP m pv ps is us ↔ (0 ≤ m ∧ m ≤ 7) ∧ UtP m us ∧ PaP m pv ps ∧ InP m is := by
 unfold RightP UtP PaP InP
 constructor
 ·rintro ⟨⟨a1, a2, a3, a4, a5⟩, b1, b2, b3, b4, b5⟩
  refine ⟨⟨a1, a2⟩, ?_, ?_, ?_⟩
  ·rcases Nat.eq_zero_or_pos us.length with h | h
   ·exact .inl h
   ·exact .inr (a5 h)
  ·by_cases h : m = 4 ∨ m = 5
   ·exact .inl ⟨h, b3, a3, b1⟩
   ·exact .inr ⟨h, b4.elim (fun hh => absurd hh h) id⟩
  ·by_cases h : m = 2 ∨ m = 5
   ·exact .inl ⟨h, ⟨b5.1 h, a4⟩, b2⟩
   ·refine .inr ⟨h, ?_⟩
    rcases Nat.eq_zero_or_pos is.length with hh | hh
    ·exact hh
    ·exact absurd (b5.2 hh) h
 ·rintro ⟨⟨a1, a2⟩, hu, hp, hi⟩
  refine ⟨⟨a1, a2, ?_, ?_, ?_⟩, ?_, ?_, ?_, ?_, ?_⟩
  ·rcases hp with h | h <;> omega
  ·rcases hi with h | h <;> omega
  ·intro h; exact hu.elim (fun h0 => by omega) id
  ·rcases hp with h | h
   ·exact h.2.2.2
   ·have : ps = [] := List.eq_nil_of_length_eq_zero h.2.2
    rw [this]; simp
  ·rcases hi with h | h
   ·exact h.2.2
   ·have : is = [] := List.eq_nil_of_length_eq_zero h.2
    rw [this]; simp
  ·rcases hp with h | h
   ·exact h.2.1
   ·exact .inl h.2.1
  ·rcases hp with h | h
   ·exact .inl h.1
   ·exact .inr h.2
  ·rcases hi with h | h
   ·exact ⟨fun _ => h.2.1.1, fun _ => h.1⟩
   ·exact ⟨fun hh => absurd hh h.1, fun hh => by omega⟩
theorem rt {P : Prop} {f : FuncId} {x : Array Value} {w : World} (h : Calls Tryz.prog f x w (RPost P w)) (hp : P) : Calls Tryz.prog f x w fun e w' => e = .returned (.bool true) ∧ Below w.heap.size w w' := h.mono fun e w' ⟨r, he, h1, h2⟩ => ⟨by rw [he, h1.2 hp], h2⟩
theorem rf {P : Prop} {f : FuncId} {x : Array Value} {w : World} (h : Calls Tryz.prog f x w (RPost P w)) (hp : ¬ P) : Calls Tryz.prog f x w fun e w' => e = .returned (.bool false) ∧ Below w.heap.size w w' := h.mono fun e w' ⟨r, he, h1, h2⟩ => ⟨by
 cases r
 ·exact he
 ·exact absurd (h1.1 rfl) hp, h2⟩
theorem box_kept {w W W' : World} {o : Obj} (hz : w.heap.size < W.heap.size) (k : W.heap[w.heap.size]? = some o) (hb : Below W.heap.size W W') : W'.heap[w.heap.size]? = some o ∧ w.heap.size < W'.heap.size := ⟨(hb.block _ hz).trans k, Nat.lt_of_lt_of_le hz hb.size⟩
theorem vright_any (vp vi vu : Value) (m : Int) (pv : Nat) (ps : List Int) (is us : List UInt8) (S : Nat → Prop) (w : World) (hp : SL vI w S vp ps) (hi : SL vB w S vi is) (hu : SL vB w S vu us) (hS : ∀ x, S x → x < w.heap.size) (hm0 : -9223372036854775808 ≤ m) (hm7 : m ≤ 9223372036854775807) (hus : us.length ≤ 1048576) (hpv : pv < 256) :
  Calls Tryz.prog 49 #[.agg #[.int .i64 m, .int .u8 (pv : Int), vp, vi, vu]] w (RightPost m pv ps is us w) := by
 have HC1 : Hid (∀ W, Below w.heap.size w W → Calls Tryz.prog 81 #[.agg #[.int .i64 m, .int .u8 (pv : Int), vp, vi, vu]] W (RPost (UtP m us) W)) := fun W hb => rightUtf_any vp vi vu m pv ps is us S W (hp.keep (fun q hq => hb.cell (hS _ hq))) (hi.keep (fun q hq => hb.cell (hS _ hq))) (hu.keep (fun q hq => hb.cell (hS _ hq))) (fun x hx => Nat.lt_of_lt_of_le (hS x hx) hb.size) hus
 have HC2 : Hid (∀ W, Below w.heap.size w W → Calls Tryz.prog 82 #[.agg #[.int .i64 m, .int .u8 (pv : Int), vp, vi, vu]] W (RPost (PaP m pv ps) W)) := fun W hb => rightParams_any vp vi vu m pv ps is us S W (hp.keep (fun q hq => hb.cell (hS _ hq))) (hi.keep (fun q hq => hb.cell (hS _ hq))) (hu.keep (fun q hq => hb.cell (hS _ hq))) (fun x hx => Nat.lt_of_lt_of_le (hS x hx) hb.size)
 have HC3 : Hid (∀ W, Below w.heap.size w W → Calls Tryz.prog 83 #[.agg #[.int .i64 m, .int .u8 (pv : Int), vp, vi, vu]] W (RPost (InP m is) W)) := fun W hb => rightInter_any vp vi vu m pv ps is us S W (hp.keep (fun q hq => hb.cell (hS _ hq))) (hi.keep (fun q hq => hb.cell (hS _ hq))) (hu.keep (fun q hq => hb.cell (hS _ hq))) (fun x hx => Nat.lt_of_lt_of_le (hS x hx) hb.size)
 obtain ⟨Ap, cp, rfl, p1, p2⟩ := hp.form
 obtain ⟨Ai, ci, rfl, i1, i2⟩ := hi.form
 obtain ⟨Au, cu, rfl, u1, u2⟩ := hu.form
 have hri := right_iff m pv ps is us
 have HNO : Hid (¬ ((0 ≤ m ∧ m ≤ 7) ∧ UtP m us ∧ PaP m pv ps ∧ InP m is) → ∀ W, Below w.heap.size w W → RightPost m pv ps is us w (.returned (.bool false)) W) := fun h W hW => right_no (fun hr => h (hri.1 hr)) hW
 have HYES : Hid ((0 ≤ m ∧ m ≤ 7) ∧ UtP m us ∧ PaP m pv ps ∧ InP m is → ∀ W, Below w.heap.size w W → RightPost m pv ps is us w (.returned (.bool true)) W) := fun h W hW => ⟨true, rfl, by simp [hri.2 h], hW⟩
 clear hp hi hu hS hri
 have HB : Hid (∀ o, Below w.heap.size w (w.alloc o)) := fun o => (Below.refl _ _).alloc (Nat.le_refl _) o
 have HK : Hid (∀ o : Obj, (w.alloc o).heap[w.heap.size]? = some o ∧ w.heap.size < (w.alloc o).heap.size) := fun o => ⟨heap_alloc_new w o, by simp⟩
 by_cases b0 : 0 ≤ m
 ·by_cases b7 : m ≤ 7
  ·by_cases q1 : UtP m us
   ·have HQ1 : Hid _ := fun W hW => rt (HC1.out W hW) q1
    by_cases q2 : PaP m pv ps
    ·have HQ2 : Hid _ := fun W hW => rt (HC2.out W hW) q2
     by_cases q3 : InP m is
     ·have HQ3 : Hid _ := fun W hW => rt (HC3.out W hW) q3
      have HX := Lh (HYES.out ⟨⟨b0, b7⟩, q1, q2, q3⟩)
      clear q1 q2 q3
      go_enter Tryz.func49, Tryz.ntmps49
      go_wp2_with (first
       | (go_at_call 81; refine (HQ1.out _ (HB.out _)).mono ?_; rintro e w1 ⟨rfl, hb⟩; have HB1 := Lh ((HB.out _).trans (hb.mono (HB.out _).size)); have HK1 := Lh (box_kept (HK.out _).2 (HK.out _).1 hb); obtain ⟨c0, c1, c2, c3, c4, cf⟩ := five_cells HK1.out.1; clear hb)
       | (go_at_call 82; refine (HQ2.out _ HB1.out).mono ?_; rintro e w2 ⟨rfl, hb⟩; have HB2 := Lh (HB1.out.trans (hb.mono HB1.out.size)); have HK2 := Lh (box_kept (HK1.out).2 (HK1.out).1 hb); obtain ⟨c0, c1, c2, c3, c4, cf⟩ := five_cells HK2.out.1; clear hb)
       | (go_at_call 83; refine (HQ3.out _ HB2.out).mono ?_; rintro e w3 ⟨rfl, hb⟩; have HB3 := Lh (HB2.out.trans (hb.mono HB2.out.size)); have HK3 := Lh (box_kept (HK2.out).2 (HK2.out).1 hb); obtain ⟨c0, c1, c2, c3, c4, cf⟩ := five_cells HK3.out.1; clear hb))
      go_ret
      exact HX.out _ HB3.out
     ·have HQ3 : Hid _ := fun W hW => rf (HC3.out W hW) q3
      have HX := Lh (HNO.out (fun h => q3 h.2.2.2))
      clear q1 q2 q3
      go_enter Tryz.func49, Tryz.ntmps49
      go_wp2_with (first
       | (go_at_call 81; refine (HQ1.out _ (HB.out _)).mono ?_; rintro e w1 ⟨rfl, hb⟩; have HB1 := Lh ((HB.out _).trans (hb.mono (HB.out _).size)); have HK1 := Lh (box_kept (HK.out _).2 (HK.out _).1 hb); obtain ⟨c0, c1, c2, c3, c4, cf⟩ := five_cells HK1.out.1; clear hb)
       | (go_at_call 82; refine (HQ2.out _ HB1.out).mono ?_; rintro e w2 ⟨rfl, hb⟩; have HB2 := Lh (HB1.out.trans (hb.mono HB1.out.size)); have HK2 := Lh (box_kept (HK1.out).2 (HK1.out).1 hb); obtain ⟨c0, c1, c2, c3, c4, cf⟩ := five_cells HK2.out.1; clear hb)
       | (go_at_call 83; refine (HQ3.out _ HB2.out).mono ?_; rintro e w3 ⟨rfl, hb⟩; have HB3 := Lh (HB2.out.trans (hb.mono HB2.out.size)); have HK3 := Lh (box_kept (HK2.out).2 (HK2.out).1 hb); obtain ⟨c0, c1, c2, c3, c4, cf⟩ := five_cells HK3.out.1; clear hb))
      go_ret
      exact HX.out _ HB3.out
    ·have HQ2 : Hid _ := fun W hW => rf (HC2.out W hW) q2
     have HX := Lh (HNO.out (fun h => q2 h.2.2.1))
     clear q1 q2
     go_enter Tryz.func49, Tryz.ntmps49
     go_wp2_with (first
      | (go_at_call 81; refine (HQ1.out _ (HB.out _)).mono ?_; rintro e w1 ⟨rfl, hb⟩; have HB1 := Lh ((HB.out _).trans (hb.mono (HB.out _).size)); have HK1 := Lh (box_kept (HK.out _).2 (HK.out _).1 hb); obtain ⟨c0, c1, c2, c3, c4, cf⟩ := five_cells HK1.out.1; clear hb)
      | (go_at_call 82; refine (HQ2.out _ HB1.out).mono ?_; rintro e w2 ⟨rfl, hb⟩; have HB2 := Lh (HB1.out.trans (hb.mono HB1.out.size)); have HK2 := Lh (box_kept (HK1.out).2 (HK1.out).1 hb); obtain ⟨c0, c1, c2, c3, c4, cf⟩ := five_cells HK2.out.1; clear hb))
     go_ret
     exact HX.out _ HB2.out
   ·have HQ1 : Hid _ := fun W hW => rf (HC1.out W hW) q1
    have HX := Lh (HNO.out (fun h => q1 h.2.1))
    clear q1
    go_enter Tryz.func49, Tryz.ntmps49
    go_wp2_with (first
     | (go_at_call 81; refine (HQ1.out _ (HB.out _)).mono ?_; rintro e w1 ⟨rfl, hb⟩; have HB1 := Lh ((HB.out _).trans (hb.mono (HB.out _).size)); have HK1 := Lh (box_kept (HK.out _).2 (HK.out _).1 hb); obtain ⟨c0, c1, c2, c3, c4, cf⟩ := five_cells HK1.out.1; clear hb))
    go_ret
    exact HX.out _ HB1.out
  ·have d7 : decide (m ≤ 7) = false := decide_eq_false b7
   have HX := Lh (HNO.out (fun h => b7 h.1.2))
   clear b7
   go_enter Tryz.func49, Tryz.ntmps49
   go_wp2
   go_ret
   exact HX.out _ (HB.out _)
 ·have d0 : decide (0 ≤ m) = false := decide_eq_false b0
  have HX := Lh (HNO.out (fun h => b0 h.1.1))
  clear b0
  go_enter Tryz.func49, Tryz.ntmps49
  go_wp2
  go_ret
  exact HX.out _ (HB.out _)
end Go.Proofs.YthepofkdgbcifaaGreat
