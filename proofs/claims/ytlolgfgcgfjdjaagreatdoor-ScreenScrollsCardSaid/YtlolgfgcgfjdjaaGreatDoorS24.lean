/- What is proved here: contracts of the landed screen's allRight, of slices.Equal over cells, of rightCells: which cells may be; a contract of the program's Right: which parsers it calls right; a contract of the program's Right: which parsers it calls right, whatever the parser; contracts of the landed screen's rightOther and Right at any screen at all: they take the screens that the document's Right takes; plain facts on the document's screen: no half of a rune is alone on a screen, behind each act and each byte; no program is named. -/
import Derived.Test.YtlolgfgcgfjdjaaGreatDoorS21
import Derived.Test.YtlolgfgcgfjdjaaGreatDoorS16
import Derived.Test.YtlolgfgcgfjdjaaGreatDoorS12
import Derived.Test.YtlolgfgcgfjdjaaGreatDoorS11
import Derived.BigQuiet
import Derived.Deep.QuietTactic
import Derived.Test.YtlolgfgcgfjdjaaGreatDoorS20
import Derived.Test.YtlolgfgcgfjdjaaGreatDoorS22
import Derived.Test.YtlolgfgcgfjdjaaGreatDoorS23
import Derived.Test.YtlolgfgcgfjdjaaGreatDoorS10
namespace Go.Proofs.YtlolgfgcgfjdjaaGreatDoor
open Go.RowKit
set_option linter.unusedVariables false
set_option linter.unusedSimpArgs false
set_option maxHeartbeats 2000000
set_option maxRecDepth 100000
def ArPost (l : List Cl) (w : World) (e : Ending) (w' : World) : Prop := ∃ b, e = .returned (.bool b) ∧ (b = true ↔ ∀ x ∈ l, cellB x = true) ∧ Below w.heap.size w w'
theorem drewN_bel {w W : World} {n : Nat} (h : Below w.heap.size w W) : Below w.heap.size w (W.drewN n) := ⟨h.os, h.tape, h.output, h.size, h.block⟩
theorem allRight_any (v : Value) (l : List Cl) (w : World) (h : CS w w.heap.size v l) (hf : ∀ x ∈ l, CellFit x) (hl : l.length ≤ 1048576) :
  Calls Tryz.prog 53 #[v] w (ArPost l w) := by
 obtain ⟨A, cp, rfl, g1, g2⟩ := h.form
 have H := Lib.hid h
 have HF := Lib.hid hf
 clear h hf
 go_enter Tryz.func53, Tryz.ntmps53
 go_wp2
 go_loopw [7] (fun i wr => CrRel1 l w i wr) (fun i _ => l.length - (intOf i).toNat)
 case atStart => exact ⟨0, Nat.zero_le _, rfl, fun j x hj => absurd hj (by omega), Below.refl _ _⟩
 case round =>
  generalize wr = w2 at *
  obtain ⟨k, hk, rfl, hall, hb⟩ := hrel
  have HB := Lib.hid hb
  have HALL := Lib.hid hall
  clear hb hall
  by_cases hlt : k < l.length
  ·obtain ⟨x, hx⟩ : ∃ x, l[k]? = some x := ⟨_, List.getElem?_eq_getElem hlt⟩
   obtain ⟨ad, hA, hba, t0, t1, t2⟩ := (H.out.below HB.out).get k x hx
   subst hA
   have hxf := HF.out x (List.mem_of_getElem? hx)
   have hki : (k : Int) < (l.length : Int) := by omega
   have HX := Lib.hid hx
   have HNX : Hid (cellB x = true → ∀ j y, j < k + 1 → l[j]? = some y → cellB y = true) := fun hc j y hj hy => by
    by_cases hjk : j = k
    ·subst hjk
     rw [HX.out] at hy
     rw [← Option.some.inj hy]
     exact hc
    ·exact HALL.out j y (by omega) hy
   have hNO : cellB x = false → ¬ ∀ y ∈ l, cellB y = true := fun hc g => by
    have := g x (List.mem_of_getElem? HX.out)
    rw [hc] at this
    cases this
   have HNO := Lib.hid hNO
   have HCX := Lib.hid (fun W => right_fit x hxf.1 hxf.2.1 hxf.2.2 W)
   have HT0 := Lib.hid t0
   have HT1 := Lib.hid t1
   have HT2 := Lib.hid t2
   have hbz := HB.out.size
   clear hx hNO
   by_cases hk0 : k = 0
   ·have hkz : ¬ (0 : Int) < (k : Int) := by omega
    have hkz2 : (k : Int) ≤ 0 := by omega
    have cb : decide (0 < k) = false := decide_eq_false (by omega)
    clear hk0
    go_upto_region 4 with fail
    go_quiet (fail)
    have hw3 : Below w.heap.size w ((w2.alloc (.cells #[.int .i32 x.r, .int .u16 (x.a : Int), .int .u8 (x.h : Int)] 50)).drewN nq) := drewN_bel (HB.out.alloc hbz _)
    have HW3 := Lib.hid hw3
    clear hw3
    cases hc : cellB x with
    | true =>
     rw [hc] at HCX
     go_wp2_with ((refine (HCX.out _).mono ?_); rintro e w4 ⟨rfl, b4⟩)
     go_roundw
     case rel => exact ⟨k + 1, hlt, by go_num, HNX.out hc, HW3.out.trans (b4.mono HW3.out.size)⟩
     case measure => simp [intOf]; omega
    | false =>
     rw [hc] at HCX
     go_wp2_with ((refine (HCX.out _).mono ?_); rintro e w4 ⟨rfl, b4⟩)
     go_ret
     exact ⟨false, rfl, ⟨(fun h => by cases h), fun h => absurd h (HNO.out hc)⟩, HW3.out.trans (b4.mono HW3.out.size)⟩
   ·obtain ⟨q, hq⟩ : ∃ q, k = q + 1 := ⟨k - 1, by omega⟩
    have hkz : (0 : Int) < (k : Int) := by omega
    have cb : decide (0 < k) = true := decide_eq_true (by omega)
    obtain ⟨y, hy⟩ : ∃ y, l[q]? = some y := ⟨_, List.getElem?_eq_getElem (by omega)⟩
    obtain ⟨ad2, hA2, hba2, u0, u1, u2⟩ := (H.out.below HB.out).get q y hy
    obtain rfl : ad = ad2 := Option.some.inj hA2
    clear hA2
    have HY := Lib.hid hy
    have hqq : IntKind.i64.wrap ((k : Int) - 1) = (q : Int) := by rw [IntKind.wrap_i64]; omega
    have hql : (q : Int) < (l.length : Int) := by omega
    have HCY : Hid (cellB y = true) := HALL.out q y (by omega) HY.out
    have hbq : (ad.add (q * 3)).block < w2.heap.size := by rw [block_add]; omega
    clear hy hk0 hq
    by_cases hxy : x = y
    ·subst hxy
     go_upto_region 4 with fail
     go_quiet (fail)
     have hw3 : Below w.heap.size w ((w2.alloc (.cells #[.int .i32 x.r, .int .u16 (x.a : Int), .int .u8 (x.h : Int)] 50)).drewN nq) := drewN_bel (HB.out.alloc hbz _)
     have HW3 := Lib.hid hw3
     clear hw3
     go_wp2
     go_roundw
     case rel => exact ⟨k + 1, hlt, by go_num, HNX.out HCY.out, HW3.out⟩
     case measure => simp [intOf]; omega
    ·have hk3 := cl_ne hxy
     clear hxy
     rcases hk3 with hbq2 | ⟨hrq, hbq2⟩ | ⟨hrq, haq, hbq2⟩
     all_goals
      try rw [← hrq] at u0
      try rw [← haq] at u1
      try clear hrq
      try clear haq
      go_upto_region 4 with fail
      go_quiet (fail)
      have hw3 : Below w.heap.size w ((w2.alloc (.cells #[.int .i32 x.r, .int .u16 (x.a : Int), .int .u8 (x.h : Int)] 50)).drewN nq) := drewN_bel (HB.out.alloc hbz _)
      have HW3 := Lib.hid hw3
      clear hw3
      cases hc : cellB x with
      | true =>
       rw [hc] at HCX
       go_wp2_with ((refine (HCX.out _).mono ?_); rintro e w4 ⟨rfl, b4⟩)
       go_roundw
       case rel => exact ⟨k + 1, hlt, by go_num, HNX.out hc, HW3.out.trans (b4.mono HW3.out.size)⟩
       case measure => simp [intOf]; omega
      | false =>
       rw [hc] at HCX
       go_wp2_with ((refine (HCX.out _).mono ?_); rintro e w4 ⟨rfl, b4⟩)
       go_ret
       exact ⟨false, rfl, ⟨(fun h => by cases h), fun h => absurd h (HNO.out hc)⟩, HW3.out.trans (b4.mono HW3.out.size)⟩
  ·obtain rfl : k = l.length := by omega
   have hcells : ∀ x ∈ l, cellB x = true := by
    intro x hx
    obtain ⟨j, hj⟩ := List.getElem?_of_mem hx
    exact HALL.out j x (List.getElem?_eq_some_iff.1 hj).1 hj
   have HCS := Lib.hid hcells
   clear hcells HALL
   go_wp2
   go_ret
   exact ⟨true, rfl, by simp only [true_iff]; exact HCS.out, HB.out⟩
def EqRel (n : Nat) (l m : List Cl) (w : World) (i : Value) (wr : World) : Prop := ∃ k : Nat, k ≤ n ∧ i = .int .i64 (k : Int) ∧ (∀ j, j < k → l[j]? = m[j]?) ∧ Below w.heap.size w wr
theorem equalC_any (v u : Value) (l m : List Cl) (w : World) (h : CS w w.heap.size v l) (g : CS w w.heap.size u m) (hl : l.length ≤ 1048576) (hm : m.length = l.length) :
  Calls Tryz.prog 54 #[v, u] w fun e w' => (∃ b, e = .returned (.bool b) ∧ (b = true ↔ l = m)) ∧ Below w.heap.size w w' := by
 obtain ⟨A, cp, rfl, g1, g2⟩ := h.form
 obtain ⟨D, cd, rfl, g3, g4⟩ := g.form
 have H := Lib.hid h
 have G := Lib.hid g
 have hlm : (((l.length : Nat) : Int) != ((m.length : Nat) : Int)) = false := by rw [hm]; simp
 obtain ⟨n, hn⟩ : ∃ n, n = l.length := ⟨_, rfl⟩
 rw [← hn] at g1 hl hm hlm H
 rw [hm] at g3 hlm G
 rw [← hn, hm]
 have HN := Lib.hid hn
 have HM := Lib.hid hm
 clear h g hn hm
 go_enter Tryz.func54, Tryz.ntmps54
 go_wp2
 go_loopw [13] (fun i wr => EqRel n l m w i wr) (fun i _ => n - (intOf i).toNat)
 case atStart => exact ⟨0, Nat.zero_le _, rfl, fun j hj => absurd hj (by omega), Below.refl _ _⟩
 case round =>
  generalize wr = w2 at *
  obtain ⟨k, hk, rfl, hall, hb⟩ := hrel
  have HB := Lib.hid hb
  have HALL := Lib.hid hall
  clear hb hall
  by_cases hlt : k < n
  ·obtain ⟨x, hx⟩ : ∃ x, l[k]? = some x := ⟨_, List.getElem?_eq_getElem (by have := HN.out; omega)⟩
   obtain ⟨y, hy⟩ : ∃ y, m[k]? = some y := ⟨_, List.getElem?_eq_getElem (by have := HM.out; omega)⟩
   obtain ⟨ad, hA, hba, t0, t1, t2⟩ := (H.out.below HB.out).get k x hx
   obtain ⟨ad2, hA2, hba2, u0, u1, u2⟩ := (G.out.below HB.out).get k y hy
   subst hA hA2
   have hki : (k : Int) < (n : Int) := by omega
   have HX := Lib.hid hx
   have HY := Lib.hid hy
   clear hx hy
   by_cases hxy : x = y
   ·subst hxy
    go_wp2
    go_quiet (fail)
    have hbq := below_drewW HB.out nq
    go_wp2
    go_roundw
    case rel =>
     refine ⟨k + 1, hlt, by go_num, ?_, hbq⟩
     intro j hj
     by_cases e : j = k
     ·rw [e, HX.out, HY.out]
     ·exact HALL.out j (by omega)
    case measure => simp [intOf]; omega
   ·have hk3 := cl_ne hxy
    have hno : ¬ l = m := fun e => hxy (by have h1 := HX.out; rw [e, HY.out] at h1; exact (Option.some.inj h1).symm)
    rcases hk3 with hbq | ⟨hrq, hbq⟩ | ⟨hrq, haq, hbq⟩
    all_goals
     try rw [hrq] at t0
     try rw [haq] at t1
     try clear hrq
     try clear haq
     go_wp2
     go_quiet (fail)
     have hbq2 := below_drewW HB.out nq
     go_wp2
     go_ret
     exact ⟨⟨false, rfl, ⟨(fun h => by cases h), fun h => absurd h hno⟩⟩, hbq2⟩
  ·obtain rfl : k = n := by omega
   have heq : l = m := by
    apply List.ext_getElem?
    intro j
    by_cases hj : j < k
    ·exact HALL.out j hj
    ·rw [List.getElem?_eq_none (by have := HN.out; omega), List.getElem?_eq_none (by have := HM.out; omega)]
   have HE := Lib.hid heq
   clear heq
   go_wp2
   go_ret
   exact ⟨⟨true, rfl, by simp only [true_iff]; exact HE.out⟩, HB.out⟩
theorem row_whole {l : List Cl} {r c y : Nat} (hg : GOk l.length r c) (hy : y < r) : mendL (rowL l c y) (c : Int) 0 = rowL l c y ↔ RowW l c y := by
 have hr := rowL_ok hg hy
 have hlen := rowL_len hg hy
 constructor
 ·intro e x hx
  have h1 := mend_row0 (F := l) (G := rowL l c y) hg hr hy (fun x hx => rowL_getC y x hx) x hx
  rw [e, rowL_getC y x hx] at h1
  exact row_of_mend hg hy (fun x hx => by
   have h2 := mend_row0 (F := l) (G := rowL l c y) hg hr hy (fun x hx => rowL_getC y x hx) x hx
   rw [e, rowL_getC y x hx] at h2
   exact h2.symm) x hx
 ·intro hw
  refine rows_ext (r := 1) (c := c) (by rw [mendL_len, hlen, Nat.one_mul]) (by rw [hlen, Nat.one_mul]) hg.c1 (fun y' x hy' hx => ?_)
  obtain rfl : y' = 0 := by omega
  rw [Nat.zero_mul, Nat.zero_add, mend_row0 (F := l) (G := rowL l c y) hg hr hy (fun x hx => rowL_getC y x hx) x hx, rowL_getC y x hx, mendL_same hg y hy hw]
def RcRel9 (l : List Cl) (r c : Nat) (w : World) (box : Obj) (i : Value) (wr : World) : Prop := ∃ y : Nat, y ≤ r ∧ i = .int .i64 (y : Int) ∧ (∀ y', y' < y → RowW l c y') ∧ wr.heap[w.heap.size]? = some box ∧ w.heap.size < wr.heap.size ∧ Below w.heap.size w wr
theorem prightCells_any (m : Int) (s : Sc) (A1 A2 A3 A4 A5 A6 : Option Addr) (n1 n2 n3 n4 n5 n6 k1 k2 k3 k4 k5 k6 : Nat) (v : Value) (l : List Cl) (r c : Nat) (w : World) (hr : s.rows = r) (hcs : s.cols = c) (h : CS w w.heap.size v l) (hf : ∀ x ∈ l, CellFit x) (hl : l.length ≤ 1048576) (r1 : 1 ≤ r) (r2 : r ≤ 1000) (c1 : 1 ≤ c) (c2 : c ≤ 1000) :
  Calls Tryz.prog 30 #[.agg (vRaw m s (.slice A1 n1 k1) (.slice A2 n2 k2) (.slice A3 n3 k3) (.slice A4 n4 k4) (.slice A5 n5 k5) (.slice A6 n6 k6)), v] w (CellsRPost l r c w) := by
 obtain ⟨A, cp, rfl, g1, g2⟩ := h.form
 have H := Lib.hid h
 have HF := Lib.hid hf
 clear h hf
 obtain ⟨n0, hn0⟩ : ∃ n0 : Nat, n0 = r * c := ⟨_, rfl⟩
 have hrc : (r : Int) * (c : Int) = (n0 : Int) := by rw [hn0, Int.natCast_mul]
 have hrc2 : n0 ≤ 1000000 := by rw [hn0]; exact rc_le r2 c2
 have HN0 := Lib.hid hn0
 have k0 := heap_alloc_new w (.cells (vRaw m s (.slice A1 n1 k1) (.slice A2 n2 k2) (.slice A3 n3 k3) (.slice A4 n4 k4) (.slice A5 n5 k5) (.slice A6 n6 k6)) 31)
 obtain ⟨d0, -⟩ := cellR (v := .int .i64 s.rows) k0 0 rfl
 obtain ⟨d1, -⟩ := cellR (v := .int .i64 s.cols) k0 1 rfl
 rw [hr] at d0
 rw [hcs] at d1
 have K0 := Lib.hid k0
 have HCS := Lib.hid hcs
 have HRS := Lib.hid hr
 have HAR := Lib.hid (allRight_any (.slice A l.length cp) l (w.alloc (.cells (vRaw m s (.slice A1 n1 k1) (.slice A2 n2 k2) (.slice A3 n3 k3) (.slice A4 n4 k4) (.slice A5 n5 k5) (.slice A6 n6 k6)) 31)) (H.out.alloc (Nat.le_refl _) _ |>.more (by simp)) HF.out hl)
 have hb1 : Below w.heap.size w (w.alloc (.cells (vRaw m s (.slice A1 n1 k1) (.slice A2 n2 k2) (.slice A3 n3 k3) (.slice A4 n4 k4) (.slice A5 n5 k5) (.slice A6 n6 k6)) 31)) := (Below.refl _ _).alloc (Nat.le_refl _) _
 have hz1 : (w.alloc (.cells (vRaw m s (.slice A1 n1 k1) (.slice A2 n2 k2) (.slice A3 n3 k3) (.slice A4 n4 k4) (.slice A5 n5 k5) (.slice A6 n6 k6)) 31)).heap.size = w.heap.size + 1 := by simp
 have HB1 := Lib.hid hb1
 have HZ1 := Lib.hid hz1
 clear hn0 k0 hr hcs hb1 hz1
 by_cases hlen : l.length = n0
 ·have hd2 : (((l.length : Nat) : Int) != (n0 : Int)) = false := by rw [hlen]; simp
  have hg : GOk l.length r c := ⟨c1, c2, r1, r2, by rw [hlen, HN0.out]⟩
  have HG := Lib.hid hg
  clear hg hlen
  go_enter Tryz.func30, Tryz.ntmps30
  go_upto_region 2 with fail
  ((with_reducible refine HAR.out.mono ?_); rintro e w3 ⟨b, rfl, hiff, b3⟩)
  have k3 : w3.heap[w.heap.size]? = _ := (b3.block _ (by rw [HZ1.out]; omega)).trans K0.out
  have hz3 : w.heap.size < w3.heap.size := by have := b3.size; rw [HZ1.out] at this; omega
  have HB3 := Lib.hid (HB1.out.trans (b3.mono HB1.out.size))
  have K3 := Lib.hid k3
  have HIFF := Lib.hid hiff
  clear b3 k3 hiff d0 d1
  rename_i K hK
  refine hK _ _ ?_
  clear hK K
  cases b with
  | false =>
   go_wp2
   go_ret
   exact cellsR_no (fun g => by have := HIFF.out.2 g.2.1; cases this) HB3.out
  | true =>
   have HALL := Lib.hid (HIFF.out.1 rfl)
   obtain ⟨d0, -⟩ := cellR (v := .int .i64 s.rows) K3.out 0 rfl
   rw [HRS.out] at d0
   go_wp2
   go_loopw [22] (fun i wr => RcRel9 l r c w (.cells (vRaw m s (.slice A1 n1 k1) (.slice A2 n2 k2) (.slice A3 n3 k3) (.slice A4 n4 k4) (.slice A5 n5 k5) (.slice A6 n6 k6)) 31) i wr) (fun i _ => r - (intOf i).toNat)
   case atStart => exact ⟨0, Nat.zero_le _, rfl, fun y hy => absurd hy (by omega), K3.out, hz3, HB3.out⟩
   case round =>
    clear d0 hz3
    generalize wr = w4 at *
    obtain ⟨y, hy, rfl, hrow, hk, hsz, hb⟩ := hrel
    have HROW := Lib.hid hrow
    have HK := Lib.hid hk
    have HB4 := Lib.hid hb
    clear hrow hk hb
    by_cases hlt : y < r
    ·have hyi : (y : Int) < (r : Int) := by omega
     obtain ⟨p, hp⟩ : ∃ p, p = y * c := ⟨_, rfl⟩
     have he := row_end (c := c) hlt
     rw [← hp, ← HG.out.n] at he
     have hq1 : (y : Int) * (c : Int) = (p : Int) := by rw [hp]; simp
     have hq2 : ((y : Int) + 1) * (c : Int) = (p : Int) + (c : Int) := by rw [Int.add_mul, Int.one_mul, hq1]
     have hq3 : p + c - p = c := by omega
     have hlp : 0 < l.length := by omega
     have hne : ¬ cp = p := by omega
     have hCS := (H.out.below HB4.out).more HB4.out.size
     obtain ⟨ad, hA, -, -⟩ := hCS.get 0 _ (List.getElem?_eq_getElem hlp)
     subst hA
     have hrowCS := hCS.cut p c c (by omega) rfl
     rw [if_neg hne] at hrowCS
     simp only [Option.map_some] at hrowCS
     have hrl : ((l.drop p).take c) = rowL l c y := by rw [hp]; rfl
     rw [hrl] at hrowCS
     have HRC := Lib.hid hrowCS
     have HRL := Lib.hid (rowL_len HG.out hlt)
     have HML : Hid ((mendL (rowL l c y) (c : Int) 0).length = c) := by show _ = _; rw [mendL_len, HRL.out]
     obtain ⟨d1, -⟩ := cellR (v := .int .i64 s.cols) HK.out 1 rfl
     rw [HCS.out] at d1
     have hRW := row_whole HG.out hlt
     have HP := Lib.hid hp
     clear hp hrl hrowCS hCS
     by_cases hw : RowW l c y
     ·have HEQ : Hid (∀ b : Bool, (b = true ↔ mendL (rowL l c y) (c : Int) 0 = rowL l c y) → b = true) := fun b h => h.2 (hRW.2 hw)
      have HW := Lib.hid hw
      clear hw hRW
      go_upto_region 7 with fail
      rw [hq3]
      clear hq1 hq2 hne
      go_wp2_with ((go_at_call 55; (with_reducible refine (gmend_any _ (rowL l c y) (c : Int) 0 _ HRC.out (by rw [HRL.out]; omega)).mono ?_); rintro e w6 ⟨v6, rfl, o6, b6⟩; obtain ⟨A6', k6', rfl, p6', q6'⟩ := o6.form; rw [HML.out] at p6'; have HO6 := Lib.hid o6; have HB6 := Lib.hid b6; clear o6 b6))
      (with_reducible refine (equalC_any _ _ (mendL (rowL l c y) (c : Int) 0) (rowL l c y) _ HO6.out ((HRC.out.below HB6.out).more HB6.out.size) (by rw [HML.out]; omega) (by rw [HML.out, HRL.out])).mono ?_)
      rintro e w7 ⟨⟨b, rfl, hb⟩, b7⟩
      obtain rfl := HEQ.out b hb
      have HB7 := Lib.hid b7
      clear b7
      go_wp2
      go_roundw
      case rel =>
       refine ⟨y + 1, hlt, by go_num, ?_, (HB7.out.block _ (by have := HB6.out.size; omega)).trans ((HB6.out.block _ hsz).trans HK.out), by have := HB6.out.size; have := HB7.out.size; omega, (HB4.out.trans (HB6.out.mono HB4.out.size)).trans (HB7.out.mono (Nat.le_trans HB4.out.size HB6.out.size))⟩
       intro y' hy'
       by_cases e : y' = y
       ·rw [e]; exact HW.out
       ·exact HROW.out y' (by omega)
      case measure => simp [intOf]; omega
     ·have HEQ : Hid (∀ b : Bool, (b = true ↔ mendL (rowL l c y) (c : Int) 0 = rowL l c y) → b = false) := fun b h => by
       cases b with
       | false => rfl
       | true => exact absurd (hRW.1 (h.1 rfl)) hw
      have HNO : Hid (¬ CellsR l r c) := fun g => hw (g.2.2 y hlt)
      clear hw hRW
      go_upto_region 7 with fail
      rw [hq3]
      clear hq1 hq2 hne
      go_wp2_with ((go_at_call 55; (with_reducible refine (gmend_any _ (rowL l c y) (c : Int) 0 _ HRC.out (by rw [HRL.out]; omega)).mono ?_); rintro e w6 ⟨v6, rfl, o6, b6⟩; obtain ⟨A6', k6', rfl, p6', q6'⟩ := o6.form; rw [HML.out] at p6'; have HO6 := Lib.hid o6; have HB6 := Lib.hid b6; clear o6 b6))
      (with_reducible refine (equalC_any _ _ (mendL (rowL l c y) (c : Int) 0) (rowL l c y) _ HO6.out ((HRC.out.below HB6.out).more HB6.out.size) (by rw [HML.out]; omega) (by rw [HML.out, HRL.out])).mono ?_)
      rintro e w7 ⟨⟨b, rfl, hb⟩, b7⟩
      obtain rfl := HEQ.out b hb
      have HB7 := Lib.hid b7
      clear b7
      go_wp2
      go_ret
      exact cellsR_no HNO.out ((HB4.out.trans (HB6.out.mono HB4.out.size)).trans (HB7.out.mono (Nat.le_trans HB4.out.size HB6.out.size)))
    ·obtain rfl : r = y := by omega
     go_wp2
     go_ret
     exact ⟨true, rfl, by simp only [true_iff]; exact ⟨HG.out.n, HALL.out, HROW.out⟩, HB4.out⟩
 ·have hd2 : (((l.length : Nat) : Int) != (n0 : Int)) = true := by rw [bne_iff_ne]; omega
  have HLN := Lib.hid hlen
  clear hlen
  go_enter Tryz.func30, Tryz.ntmps30
  go_wp2
  go_ret
  exact cellsR_no (fun g => HLN.out (by rw [HN0.out]; exact g.1)) HB1.out
end Go.Proofs.YtlolgfgcgfjdjaaGreatDoor

namespace Go.Proofs.YtlolgfgcgfjdjaaGreatDoor
open Go.RowKit
set_option linter.unusedVariables false
set_option linter.unusedSimpArgs false
set_option maxHeartbeats 1000000
set_option maxRecDepth 100000
def badP (x : Int) : Bool := !decide (0 ≤ x ∧ x ≤ 65535)
def badI (x : UInt8) : Bool := !interB x
theorem noParam_bad (n : Int) (w : World) : Calls Tryz.prog 96 #[.int .i64 n] w fun e w' => e = .returned (.bool (badP n)) ∧ w = w' := noParam_any n w
theorem noInter_bad (b : UInt8) (w : World) : Calls Tryz.prog 98 #[.int .u8 (b.toNat : Int)] w fun e w' => e = .returned (.bool (badI b)) ∧ w = w' := noInter_any b w
def NoneRel {α : Type} (P : α → Bool) (l : List α) (w : World) (i : Value) (wr : World) : Prop := ∃ k : Nat, k ≤ l.length ∧ i = .int .i64 (k : Int) ∧ (∀ x ∈ l.take k, P x = false) ∧ w = wr
theorem idxI_any (v : Value) (l : List Int) (w : World) (hv : IS w w.heap.size v l) (hl : l.length ≤ 1048576) : Calls Tryz.prog 131 #[v, .func (.func 96) #[] #[]] w fun e w' => ∃ k : Int, e = .returned (.int .i64 k) ∧ (decide (0 ≤ k) = l.any fun x => badP x) ∧ w = w' := by
 have HV := Lib.hid hv
 obtain ⟨A, c, rfl, g1, g2, g3⟩ := hv.at_
 unfold maxLen at g2
 clear hv
 go_enter Tryz.func131, Tryz.ntmps131
 go_wp2
 go_loopw [8] (fun i wr => NoneRel (fun x => badP x) l w i wr) (fun i _ => l.length - (intOf i).toNat)
 case atStart => exact ⟨0, Nat.zero_le _, rfl, by simp, rfl⟩
 case round =>
  obtain ⟨k, hk, rfl, hn, rfl⟩ := hrel
  have HN := Lib.hid hn
  clear hn
  by_cases hlt : k < l.length
  ·obtain ⟨ad, rfl, hc⟩ := g3 k hlt
   obtain ⟨x, hx⟩ : ∃ x, l[k] = x := ⟨_, rfl⟩
   rw [hx] at hc
   unfold vI at hc
   have hX : l[k]? = some x := by rw [List.getElem?_eq_getElem hlt, hx]
   have HX := Lib.hid hX
   clear hx g3 hX
   have HC : Hid _ := fun (w : World) => noParam_bad x w
   cases ht : badP x
   all_goals rw [ht] at HC
   all_goals have HT := Lib.hid ht
   all_goals clear ht
   rotate_left 0
   ·go_wp2_with (go_at_call 96; refine (HC.out _).mono ?_; rintro e w' ⟨rfl, rfl⟩)
    go_roundw
    case rel =>
     refine ⟨k + 1, hlt, by go_num, fun y hy => ?_, rfl⟩
     rw [List.take_succ_eq_append_getElem hlt, List.mem_append, List.mem_singleton] at hy
     rcases hy with hy | hy
     ·exact HN.out y hy
     ·have : x = l[k] := (List.getElem?_eq_some_iff.1 HX.out).2.symm
      rw [hy, ← this]; exact HT.out
    case measure => simp [intOf]; omega
   ·go_wp2_with (go_at_call 96; refine (HC.out _).mono ?_; rintro e w' ⟨rfl, rfl⟩)
    go_ret
    refine ⟨(k : Int), rfl, ?_, rfl⟩
    rw [decide_eq_true (by omega)]
    exact (List.any_eq_true.2 ⟨x, List.mem_of_getElem? HX.out, HT.out⟩).symm
  ·obtain rfl : k = l.length := by omega
   rw [List.take_length] at HN
   clear g3
   go_wp2
   go_ret
   refine ⟨-1, rfl, ?_, rfl⟩
   rw [decide_eq_false (by omega)]
   exact (List.any_eq_false.2 fun x hx => by rw [HN.out x hx]; simp).symm
theorem hasI_any (v : Value) (l : List Int) (w : World) (hv : IS w w.heap.size v l) (hl : l.length ≤ 1048576) : Calls Tryz.prog 95 #[v, .func (.func 96) #[] #[]] w fun e w' => e = .returned (.bool (l.any fun x => badP x)) ∧ w = w' := by
 have HC := Lib.hid (idxI_any v l w hv hl)
 obtain ⟨A, c, rfl, g1, g2, g3⟩ := hv.at_
 clear hv g3
 go_enter Tryz.func95, Tryz.ntmps95
 go_wp2_with (go_at_call 131; refine HC.out.mono ?_; rintro e w' ⟨k, rfl, hk, rfl⟩; have HK := Lib.hid hk; clear hk)
 go_ret
 exact ⟨congrArg (fun t => Ending.returned (.bool t)) HK.out, rfl⟩
theorem idxB_any (v : Value) (l : List UInt8) (w : World) (hv : BS w w.heap.size v l) (hl : l.length ≤ 1048576) : Calls Tryz.prog 132 #[v, .func (.func 98) #[] #[]] w fun e w' => ∃ k : Int, e = .returned (.int .i64 k) ∧ (decide (0 ≤ k) = l.any fun x => badI x) ∧ w = w' := by
 have HV := Lib.hid hv
 obtain ⟨A, c, rfl, g1, g2, g3⟩ := hv.at_
 unfold maxLen at g2
 clear hv
 go_enter Tryz.func132, Tryz.ntmps132
 go_wp2
 go_loopw [8] (fun i wr => NoneRel (fun x => badI x) l w i wr) (fun i _ => l.length - (intOf i).toNat)
 case atStart => exact ⟨0, Nat.zero_le _, rfl, by simp, rfl⟩
 case round =>
  obtain ⟨k, hk, rfl, hn, rfl⟩ := hrel
  have HN := Lib.hid hn
  clear hn
  by_cases hlt : k < l.length
  ·obtain ⟨ad, rfl, hc⟩ := g3 k hlt
   obtain ⟨x, hx⟩ : ∃ x, l[k] = x := ⟨_, rfl⟩
   rw [hx] at hc
   unfold vB at hc
   have hX : l[k]? = some x := by rw [List.getElem?_eq_getElem hlt, hx]
   have HX := Lib.hid hX
   clear hx g3 hX
   have HC : Hid _ := fun (w : World) => noInter_bad x w
   cases ht : badI x
   all_goals rw [ht] at HC
   all_goals have HT := Lib.hid ht
   all_goals clear ht
   rotate_left 0
   ·go_wp2_with (go_at_call 98; refine (HC.out _).mono ?_; rintro e w' ⟨rfl, rfl⟩)
    go_roundw
    case rel =>
     refine ⟨k + 1, hlt, by go_num, fun y hy => ?_, rfl⟩
     rw [List.take_succ_eq_append_getElem hlt, List.mem_append, List.mem_singleton] at hy
     rcases hy with hy | hy
     ·exact HN.out y hy
     ·have : x = l[k] := (List.getElem?_eq_some_iff.1 HX.out).2.symm
      rw [hy, ← this]; exact HT.out
    case measure => simp [intOf]; omega
   ·go_wp2_with (go_at_call 98; refine (HC.out _).mono ?_; rintro e w' ⟨rfl, rfl⟩)
    go_ret
    refine ⟨(k : Int), rfl, ?_, rfl⟩
    rw [decide_eq_true (by omega)]
    exact (List.any_eq_true.2 ⟨x, List.mem_of_getElem? HX.out, HT.out⟩).symm
  ·obtain rfl : k = l.length := by omega
   rw [List.take_length] at HN
   clear g3
   go_wp2
   go_ret
   refine ⟨-1, rfl, ?_, rfl⟩
   rw [decide_eq_false (by omega)]
   exact (List.any_eq_false.2 fun x hx => by rw [HN.out x hx]; simp).symm
theorem hasB_any (v : Value) (l : List UInt8) (w : World) (hv : BS w w.heap.size v l) (hl : l.length ≤ 1048576) : Calls Tryz.prog 97 #[v, .func (.func 98) #[] #[]] w fun e w' => e = .returned (.bool (l.any fun x => badI x)) ∧ w = w' := by
 have HC := Lib.hid (idxB_any v l w hv hl)
 obtain ⟨A, c, rfl, g1, g2, g3⟩ := hv.at_
 clear hv g3
 go_enter Tryz.func97, Tryz.ntmps97
 go_wp2_with (go_at_call 132; refine HC.out.mono ?_; rintro e w' ⟨k, rfl, hk, rfl⟩; have HK := Lib.hid hk; clear hk)
 go_ret
 exact ⟨congrArg (fun t => Ending.returned (.bool t)) HK.out, rfl⟩
def RPost (P : Prop) (w : World) (e : Ending) (w' : World) : Prop := ∃ r, e = .returned (.bool r) ∧ (r = true ↔ P) ∧ Below w.heap.size w w'
theorem RPost.yes {P : Prop} {w w' : World} (h : P) (hb : Below w.heap.size w w') : RPost P w (.returned (.bool true)) w' := ⟨true, rfl, by simp [h], hb⟩
theorem RPost.no {P : Prop} {w w' : World} (h : ¬ P) (hb : Below w.heap.size w w') : RPost P w (.returned (.bool false)) w' := ⟨false, rfl, by simp [h], hb⟩
theorem anyP (l : List Int) : (l.any fun x => badP x) = false ↔ ∀ x ∈ l, 0 ≤ x ∧ x ≤ 65535 := by
 rw [List.any_eq_false]
 constructor
 ·intro h x hx
  have := h x hx
  simpa [badP] using this
 ·intro h x hx
  have := h x hx
  simp [badP, this]
theorem anyI (l : List UInt8) : (l.any fun x => badI x) = false ↔ ∀ x ∈ l, interB x = true := by
 rw [List.any_eq_false]
 constructor
 ·intro h x hx
  have := h x hx
  simpa [badI] using this
 ·intro h x hx
  have := h x hx
  simp [badI, this]
theorem rightUtf_any (vp vi vu : Value) (m : Int) (pv : Nat) (ps : List Int) (is us : List UInt8) (S : Nat → Prop) (w : World) (hp : SL vI w S vp ps) (hi : SL vB w S vi is) (hu : SL vB w S vu us) (hS : ∀ x, S x → x < w.heap.size) (hus : us.length ≤ 1048576) : Calls Tryz.prog 58 #[.agg #[.int .i64 m, .int .u8 (pv : Int), vp, vi, vu]] w (RPost (us.length = 0 ∨ m = 0 ∧ beginsL us = true) w) := by
 have HP : Hid (∀ o, IS (w.alloc o) (w.alloc o).heap.size vp ps) := fun o => ((hp.is hS).alloc (Nat.le_refl _) o).more (by simp)
 have HI : Hid (∀ o, BS (w.alloc o) (w.alloc o).heap.size vi is) := fun o => ((hi.bs hS).alloc (Nat.le_refl _) o).more (by simp)
 have HU : Hid (∀ o, BS (w.alloc o) (w.alloc o).heap.size vu us) := fun o => ((hu.bs hS).alloc (Nat.le_refl _) o).more (by simp)
 obtain ⟨Ap, cp, rfl, p1, p2⟩ := hp.form
 obtain ⟨Ai, ci, rfl, i1, i2⟩ := hi.form
 obtain ⟨Au, cu, rfl, u1, u2⟩ := hu.form
 clear hp hi hu hS
 have HB : Hid (∀ o, Below w.heap.size w (w.alloc o)) := fun o => (Below.refl _ _).alloc (Nat.le_refl _) o
 by_cases h0 : us.length = 0
 ·have d0 : ((us.length : Int) == 0) = true := beq_iff_eq.2 (by omega)
  have HX := Lib.hid (show us.length = 0 ∨ m = 0 ∧ beginsL us = true from .inl h0)
  clear h0
  go_enter Tryz.func58, Tryz.ntmps58
  go_wp2
  go_ret
  exact RPost.yes HX.out (HB.out _)
 ·have d0 : ((us.length : Int) == 0) = false := beq_eq_false_iff_ne.2 (by omega)
  by_cases h1 : m = 0
  ·have d1 : (m == 0) = true := beq_iff_eq.2 (by omega)
   cases hb : beginsL us
   ·have HX := Lib.hid (show ¬ (us.length = 0 ∨ m = 0 ∧ false = true) from fun h => h.elim h0 (fun h => by cases h.2))
    have HBG := Lib.hid hb
    clear h0 h1 hb
    go_enter Tryz.func58, Tryz.ntmps58
    go_wp2_with (go_at_call 94; (with_reducible refine (begins_any _ us _ _ (HU.out _)).mono ?_); rintro e w' ⟨rfl, rfl⟩; rw [HBG.out])
    go_ret
    exact RPost.no HX.out (HB.out _)
   ·have HX := Lib.hid (show us.length = 0 ∨ m = 0 ∧ true = true from .inr ⟨h1, rfl⟩)
    have HBG := Lib.hid hb
    clear h0 h1 hb
    go_enter Tryz.func58, Tryz.ntmps58
    go_wp2_with (go_at_call 94; (with_reducible refine (begins_any _ us _ _ (HU.out _)).mono ?_); rintro e w' ⟨rfl, rfl⟩; rw [HBG.out])
    go_ret
    exact RPost.yes HX.out (HB.out _)
  ·have d1 : (m == 0) = false := beq_eq_false_iff_ne.2 (by omega)
   have HX := Lib.hid (show ¬ (us.length = 0 ∨ m = 0 ∧ beginsL us = true) from fun h => h.elim h0 (fun h => h1 h.1))
   clear h0 h1
   go_enter Tryz.func58, Tryz.ntmps58
   go_wp2
   go_ret
   exact RPost.no HX.out (HB.out _)
theorem rightParams_4 (vp vi vu : Value) (m : Int) (pv : Nat) (ps : List Int) (is us : List UInt8) (S : Nat → Prop) (w : World) (hp : SL vI w S vp ps) (hi : SL vB w S vi is) (hu : SL vB w S vu us) (hS : ∀ x, S x → x < w.heap.size) (hm : m = 4) : Calls Tryz.prog 59 #[.agg #[.int .i64 m, .int .u8 (pv : Int), vp, vi, vu]] w (RPost ((pv = 0 ∨ (60 ≤ pv ∧ pv ≤ 63)) ∧ ps.length ≤ 16 ∧ (∀ x ∈ ps, 0 ≤ x ∧ x ≤ 65535)) w) := by
 have HP : Hid (∀ o, IS (w.alloc o) (w.alloc o).heap.size vp ps) := fun o => ((hp.is hS).alloc (Nat.le_refl _) o).more (by simp)
 have HI : Hid (∀ o, BS (w.alloc o) (w.alloc o).heap.size vi is) := fun o => ((hi.bs hS).alloc (Nat.le_refl _) o).more (by simp)
 have HU : Hid (∀ o, BS (w.alloc o) (w.alloc o).heap.size vu us) := fun o => ((hu.bs hS).alloc (Nat.le_refl _) o).more (by simp)
 obtain ⟨Ap, cp, rfl, p1, p2⟩ := hp.form
 obtain ⟨Ai, ci, rfl, i1, i2⟩ := hi.form
 obtain ⟨Au, cu, rfl, u1, u2⟩ := hu.form
 clear hp hi hu hS
 have HB : Hid (∀ o, Below w.heap.size w (w.alloc o)) := fun o => (Below.refl _ _).alloc (Nat.le_refl _) o
 have m4 : (m == 4) = true := beq_iff_eq.2 (by omega)
 clear hm
 by_cases hpv : pv = 0
 ·have e0 : ((pv : Int) == 0) = true := beq_iff_eq.2 (by omega)
  by_cases hl : ps.length ≤ 16
  ·have dl : (ps.length : Int) ≤ 16 := by omega
   cases ha : ps.any fun x => badP x
   ·have HX := Lib.hid (show (pv = 0 ∨ (60 ≤ pv ∧ pv ≤ 63)) ∧ ps.length ≤ 16 ∧ (∀ x ∈ ps, 0 ≤ x ∧ x ≤ 65535) from ⟨by omega, hl, (anyP ps).1 ha⟩)
    have HA := Lib.hid ha
    clear ha hpv
    go_enter Tryz.func59, Tryz.ntmps59
    go_wp2_with (go_at_call 95; refine (hasI_any _ ps _ (HP.out _) (by omega)).mono ?_; rintro e w' ⟨rfl, rfl⟩; rw [HA.out])
    go_ret
    exact RPost.yes HX.out (HB.out _)
   ·have HX := Lib.hid (show ¬ ((pv = 0 ∨ (60 ≤ pv ∧ pv ≤ 63)) ∧ ps.length ≤ 16 ∧ (∀ x ∈ ps, 0 ≤ x ∧ x ≤ 65535)) from fun h => by rw [(anyP ps).2 h.2.2] at ha; cases ha)
    have HA := Lib.hid ha
    clear ha hpv
    go_enter Tryz.func59, Tryz.ntmps59
    go_wp2_with (go_at_call 95; refine (hasI_any _ ps _ (HP.out _) (by omega)).mono ?_; rintro e w' ⟨rfl, rfl⟩; rw [HA.out])
    go_ret
    exact RPost.no HX.out (HB.out _)
  ·have dl : decide ((ps.length : Int) ≤ 16) = false := by simp; omega
   have HX := Lib.hid (show ¬ ((pv = 0 ∨ (60 ≤ pv ∧ pv ≤ 63)) ∧ ps.length ≤ 16 ∧ (∀ x ∈ ps, 0 ≤ x ∧ x ≤ 65535)) from fun h => hl h.2.1)
   clear hl hpv
   go_enter Tryz.func59, Tryz.ntmps59
   go_wp2
   go_ret
   exact RPost.no HX.out (HB.out _)
 ·have e0 : ((pv : Int) == 0) = false := beq_eq_false_iff_ne.2 (by omega)
  by_cases h60 : 60 ≤ pv
  ·have e1 : (60 : Int) ≤ (pv : Int) := by omega
   by_cases h63 : pv ≤ 63
   ·have e2 : (pv : Int) ≤ 63 := by omega
    by_cases hl : ps.length ≤ 16
    ·have dl : (ps.length : Int) ≤ 16 := by omega
     cases ha : ps.any fun x => badP x
     ·have HX := Lib.hid (show (pv = 0 ∨ (60 ≤ pv ∧ pv ≤ 63)) ∧ ps.length ≤ 16 ∧ (∀ x ∈ ps, 0 ≤ x ∧ x ≤ 65535) from ⟨by omega, hl, (anyP ps).1 ha⟩)
      have HA := Lib.hid ha
      clear ha hpv
      go_enter Tryz.func59, Tryz.ntmps59
      go_wp2_with (go_at_call 95; refine (hasI_any _ ps _ (HP.out _) (by omega)).mono ?_; rintro e w' ⟨rfl, rfl⟩; rw [HA.out])
      go_ret
      exact RPost.yes HX.out (HB.out _)
     ·have HX := Lib.hid (show ¬ ((pv = 0 ∨ (60 ≤ pv ∧ pv ≤ 63)) ∧ ps.length ≤ 16 ∧ (∀ x ∈ ps, 0 ≤ x ∧ x ≤ 65535)) from fun h => by rw [(anyP ps).2 h.2.2] at ha; cases ha)
      have HA := Lib.hid ha
      clear ha hpv
      go_enter Tryz.func59, Tryz.ntmps59
      go_wp2_with (go_at_call 95; refine (hasI_any _ ps _ (HP.out _) (by omega)).mono ?_; rintro e w' ⟨rfl, rfl⟩; rw [HA.out])
      go_ret
      exact RPost.no HX.out (HB.out _)
    ·have dl : decide ((ps.length : Int) ≤ 16) = false := by simp; omega
     have HX := Lib.hid (show ¬ ((pv = 0 ∨ (60 ≤ pv ∧ pv ≤ 63)) ∧ ps.length ≤ 16 ∧ (∀ x ∈ ps, 0 ≤ x ∧ x ≤ 65535)) from fun h => hl h.2.1)
     clear hl hpv
     go_enter Tryz.func59, Tryz.ntmps59
     go_wp2
     go_ret
     exact RPost.no HX.out (HB.out _)
   ·have e2 : decide ((pv : Int) ≤ 63) = false := by simp; omega
    have HX := Lib.hid (show ¬ ((pv = 0 ∨ (60 ≤ pv ∧ pv ≤ 63)) ∧ ps.length ≤ 16 ∧ (∀ x ∈ ps, 0 ≤ x ∧ x ≤ 65535)) from fun h => by have := h.1; omega)
    clear hpv
    go_enter Tryz.func59, Tryz.ntmps59
    go_wp2
    go_ret
    exact RPost.no HX.out (HB.out _)
  ·have e1 : decide ((60 : Int) ≤ (pv : Int)) = false := by simp; omega
   have HX := Lib.hid (show ¬ ((pv = 0 ∨ (60 ≤ pv ∧ pv ≤ 63)) ∧ ps.length ≤ 16 ∧ (∀ x ∈ ps, 0 ≤ x ∧ x ≤ 65535)) from fun h => by have := h.1; omega)
   clear hpv
   go_enter Tryz.func59, Tryz.ntmps59
   go_wp2
   go_ret
   exact RPost.no HX.out (HB.out _)
theorem rightParams_5 (vp vi vu : Value) (m : Int) (pv : Nat) (ps : List Int) (is us : List UInt8) (S : Nat → Prop) (w : World) (hp : SL vI w S vp ps) (hi : SL vB w S vi is) (hu : SL vB w S vu us) (hS : ∀ x, S x → x < w.heap.size) (hm : m = 5) : Calls Tryz.prog 59 #[.agg #[.int .i64 m, .int .u8 (pv : Int), vp, vi, vu]] w (RPost ((pv = 0 ∨ (60 ≤ pv ∧ pv ≤ 63)) ∧ ps.length ≤ 16 ∧ (∀ x ∈ ps, 0 ≤ x ∧ x ≤ 65535)) w) := by
 have HP : Hid (∀ o, IS (w.alloc o) (w.alloc o).heap.size vp ps) := fun o => ((hp.is hS).alloc (Nat.le_refl _) o).more (by simp)
 have HI : Hid (∀ o, BS (w.alloc o) (w.alloc o).heap.size vi is) := fun o => ((hi.bs hS).alloc (Nat.le_refl _) o).more (by simp)
 have HU : Hid (∀ o, BS (w.alloc o) (w.alloc o).heap.size vu us) := fun o => ((hu.bs hS).alloc (Nat.le_refl _) o).more (by simp)
 obtain ⟨Ap, cp, rfl, p1, p2⟩ := hp.form
 obtain ⟨Ai, ci, rfl, i1, i2⟩ := hi.form
 obtain ⟨Au, cu, rfl, u1, u2⟩ := hu.form
 clear hp hi hu hS
 have HB : Hid (∀ o, Below w.heap.size w (w.alloc o)) := fun o => (Below.refl _ _).alloc (Nat.le_refl _) o
 have m4 : (m == 4) = false := beq_eq_false_iff_ne.2 (by omega)
 have m5 : (m == 5) = true := beq_iff_eq.2 (by omega)
 clear hm
 by_cases hpv : pv = 0
 ·have e0 : ((pv : Int) == 0) = true := beq_iff_eq.2 (by omega)
  by_cases hl : ps.length ≤ 16
  ·have dl : (ps.length : Int) ≤ 16 := by omega
   cases ha : ps.any fun x => badP x
   ·have HX := Lib.hid (show (pv = 0 ∨ (60 ≤ pv ∧ pv ≤ 63)) ∧ ps.length ≤ 16 ∧ (∀ x ∈ ps, 0 ≤ x ∧ x ≤ 65535) from ⟨by omega, hl, (anyP ps).1 ha⟩)
    have HA := Lib.hid ha
    clear ha hpv
    go_enter Tryz.func59, Tryz.ntmps59
    go_wp2_with (go_at_call 95; refine (hasI_any _ ps _ (HP.out _) (by omega)).mono ?_; rintro e w' ⟨rfl, rfl⟩; rw [HA.out])
    go_ret
    exact RPost.yes HX.out (HB.out _)
   ·have HX := Lib.hid (show ¬ ((pv = 0 ∨ (60 ≤ pv ∧ pv ≤ 63)) ∧ ps.length ≤ 16 ∧ (∀ x ∈ ps, 0 ≤ x ∧ x ≤ 65535)) from fun h => by rw [(anyP ps).2 h.2.2] at ha; cases ha)
    have HA := Lib.hid ha
    clear ha hpv
    go_enter Tryz.func59, Tryz.ntmps59
    go_wp2_with (go_at_call 95; refine (hasI_any _ ps _ (HP.out _) (by omega)).mono ?_; rintro e w' ⟨rfl, rfl⟩; rw [HA.out])
    go_ret
    exact RPost.no HX.out (HB.out _)
  ·have dl : decide ((ps.length : Int) ≤ 16) = false := by simp; omega
   have HX := Lib.hid (show ¬ ((pv = 0 ∨ (60 ≤ pv ∧ pv ≤ 63)) ∧ ps.length ≤ 16 ∧ (∀ x ∈ ps, 0 ≤ x ∧ x ≤ 65535)) from fun h => hl h.2.1)
   clear hl hpv
   go_enter Tryz.func59, Tryz.ntmps59
   go_wp2
   go_ret
   exact RPost.no HX.out (HB.out _)
 ·have e0 : ((pv : Int) == 0) = false := beq_eq_false_iff_ne.2 (by omega)
  by_cases h60 : 60 ≤ pv
  ·have e1 : (60 : Int) ≤ (pv : Int) := by omega
   by_cases h63 : pv ≤ 63
   ·have e2 : (pv : Int) ≤ 63 := by omega
    by_cases hl : ps.length ≤ 16
    ·have dl : (ps.length : Int) ≤ 16 := by omega
     cases ha : ps.any fun x => badP x
     ·have HX := Lib.hid (show (pv = 0 ∨ (60 ≤ pv ∧ pv ≤ 63)) ∧ ps.length ≤ 16 ∧ (∀ x ∈ ps, 0 ≤ x ∧ x ≤ 65535) from ⟨by omega, hl, (anyP ps).1 ha⟩)
      have HA := Lib.hid ha
      clear ha hpv
      go_enter Tryz.func59, Tryz.ntmps59
      go_wp2_with (go_at_call 95; refine (hasI_any _ ps _ (HP.out _) (by omega)).mono ?_; rintro e w' ⟨rfl, rfl⟩; rw [HA.out])
      go_ret
      exact RPost.yes HX.out (HB.out _)
     ·have HX := Lib.hid (show ¬ ((pv = 0 ∨ (60 ≤ pv ∧ pv ≤ 63)) ∧ ps.length ≤ 16 ∧ (∀ x ∈ ps, 0 ≤ x ∧ x ≤ 65535)) from fun h => by rw [(anyP ps).2 h.2.2] at ha; cases ha)
      have HA := Lib.hid ha
      clear ha hpv
      go_enter Tryz.func59, Tryz.ntmps59
      go_wp2_with (go_at_call 95; refine (hasI_any _ ps _ (HP.out _) (by omega)).mono ?_; rintro e w' ⟨rfl, rfl⟩; rw [HA.out])
      go_ret
      exact RPost.no HX.out (HB.out _)
    ·have dl : decide ((ps.length : Int) ≤ 16) = false := by simp; omega
     have HX := Lib.hid (show ¬ ((pv = 0 ∨ (60 ≤ pv ∧ pv ≤ 63)) ∧ ps.length ≤ 16 ∧ (∀ x ∈ ps, 0 ≤ x ∧ x ≤ 65535)) from fun h => hl h.2.1)
     clear hl hpv
     go_enter Tryz.func59, Tryz.ntmps59
     go_wp2
     go_ret
     exact RPost.no HX.out (HB.out _)
   ·have e2 : decide ((pv : Int) ≤ 63) = false := by simp; omega
    have HX := Lib.hid (show ¬ ((pv = 0 ∨ (60 ≤ pv ∧ pv ≤ 63)) ∧ ps.length ≤ 16 ∧ (∀ x ∈ ps, 0 ≤ x ∧ x ≤ 65535)) from fun h => by have := h.1; omega)
    clear hpv
    go_enter Tryz.func59, Tryz.ntmps59
    go_wp2
    go_ret
    exact RPost.no HX.out (HB.out _)
  ·have e1 : decide ((60 : Int) ≤ (pv : Int)) = false := by simp; omega
   have HX := Lib.hid (show ¬ ((pv = 0 ∨ (60 ≤ pv ∧ pv ≤ 63)) ∧ ps.length ≤ 16 ∧ (∀ x ∈ ps, 0 ≤ x ∧ x ≤ 65535)) from fun h => by have := h.1; omega)
   clear hpv
   go_enter Tryz.func59, Tryz.ntmps59
   go_wp2
   go_ret
   exact RPost.no HX.out (HB.out _)
theorem rightParams_0 (vp vi vu : Value) (m : Int) (pv : Nat) (ps : List Int) (is us : List UInt8) (S : Nat → Prop) (w : World) (hp : SL vI w S vp ps) (hi : SL vB w S vi is) (hu : SL vB w S vu us) (hS : ∀ x, S x → x < w.heap.size) (hm4 : m ≠ 4) (hm5 : m ≠ 5) : Calls Tryz.prog 59 #[.agg #[.int .i64 m, .int .u8 (pv : Int), vp, vi, vu]] w (RPost (pv = 0 ∧ ps.length = 0) w) := by
 have HP : Hid (∀ o, IS (w.alloc o) (w.alloc o).heap.size vp ps) := fun o => ((hp.is hS).alloc (Nat.le_refl _) o).more (by simp)
 have HI : Hid (∀ o, BS (w.alloc o) (w.alloc o).heap.size vi is) := fun o => ((hi.bs hS).alloc (Nat.le_refl _) o).more (by simp)
 have HU : Hid (∀ o, BS (w.alloc o) (w.alloc o).heap.size vu us) := fun o => ((hu.bs hS).alloc (Nat.le_refl _) o).more (by simp)
 obtain ⟨Ap, cp, rfl, p1, p2⟩ := hp.form
 obtain ⟨Ai, ci, rfl, i1, i2⟩ := hi.form
 obtain ⟨Au, cu, rfl, u1, u2⟩ := hu.form
 clear hp hi hu hS
 have HB : Hid (∀ o, Below w.heap.size w (w.alloc o)) := fun o => (Below.refl _ _).alloc (Nat.le_refl _) o
 have m4 : (m == 4) = false := beq_eq_false_iff_ne.2 (by omega)
 have m5 : (m == 5) = false := beq_eq_false_iff_ne.2 (by omega)
 clear hm4 hm5
 by_cases hpv : pv = 0
 ·have e0 : ((pv : Int) == 0) = true := beq_iff_eq.2 (by omega)
  by_cases hl : ps.length = 0
  ·have dl : ((ps.length : Int) == 0) = true := beq_iff_eq.2 (by omega)
   have HX := Lib.hid (And.intro hpv hl)
   clear hl hpv
   go_enter Tryz.func59, Tryz.ntmps59
   go_wp2
   go_ret
   exact RPost.yes HX.out (HB.out _)
  ·have dl : ((ps.length : Int) == 0) = false := beq_eq_false_iff_ne.2 (by omega)
   have HX := Lib.hid (show ¬ (pv = 0 ∧ ps.length = 0) from fun h => hl h.2)
   clear hl hpv
   go_enter Tryz.func59, Tryz.ntmps59
   go_wp2
   go_ret
   exact RPost.no HX.out (HB.out _)
 ·have e0 : ((pv : Int) == 0) = false := beq_eq_false_iff_ne.2 (by omega)
  have HX := Lib.hid (show ¬ (pv = 0 ∧ ps.length = 0) from fun h => hpv h.1)
  clear hpv
  go_enter Tryz.func59, Tryz.ntmps59
  go_wp2
  go_ret
  exact RPost.no HX.out (HB.out _)
theorem rightInter_2 (vp vi vu : Value) (m : Int) (pv : Nat) (ps : List Int) (is us : List UInt8) (S : Nat → Prop) (w : World) (hp : SL vI w S vp ps) (hi : SL vB w S vi is) (hu : SL vB w S vu us) (hS : ∀ x, S x → x < w.heap.size) (hm : m = 2) : Calls Tryz.prog 60 #[.agg #[.int .i64 m, .int .u8 (pv : Int), vp, vi, vu]] w (RPost ((0 < is.length ∧ is.length ≤ 2) ∧ (∀ x ∈ is, interB x = true)) w) := by
 have HP : Hid (∀ o, IS (w.alloc o) (w.alloc o).heap.size vp ps) := fun o => ((hp.is hS).alloc (Nat.le_refl _) o).more (by simp)
 have HI : Hid (∀ o, BS (w.alloc o) (w.alloc o).heap.size vi is) := fun o => ((hi.bs hS).alloc (Nat.le_refl _) o).more (by simp)
 have HU : Hid (∀ o, BS (w.alloc o) (w.alloc o).heap.size vu us) := fun o => ((hu.bs hS).alloc (Nat.le_refl _) o).more (by simp)
 obtain ⟨Ap, cp, rfl, p1, p2⟩ := hp.form
 obtain ⟨Ai, ci, rfl, i1, i2⟩ := hi.form
 obtain ⟨Au, cu, rfl, u1, u2⟩ := hu.form
 clear hp hi hu hS
 have HB : Hid (∀ o, Below w.heap.size w (w.alloc o)) := fun o => (Below.refl _ _).alloc (Nat.le_refl _) o
 have m2 : (m == 2) = true := beq_iff_eq.2 (by omega)
 clear hm
 by_cases h0 : 0 < is.length
 ·have d0 : 0 < is.length := h0
  by_cases h2 : is.length ≤ 2
  ·have d2 : (is.length : Int) ≤ 2 := by omega
   cases ha : is.any fun x => badI x
   ·have HX := Lib.hid (show (0 < is.length ∧ is.length ≤ 2) ∧ (∀ x ∈ is, interB x = true) from ⟨⟨h0, h2⟩, (anyI is).1 ha⟩)
    have HA := Lib.hid ha
    clear ha h0
    go_enter Tryz.func60, Tryz.ntmps60
    go_wp2_with (go_at_call 97; refine (hasB_any _ is _ (HI.out _) (by omega)).mono ?_; rintro e w' ⟨rfl, rfl⟩; rw [HA.out])
    go_ret
    exact RPost.yes HX.out (HB.out _)
   ·have HX := Lib.hid (show ¬ ((0 < is.length ∧ is.length ≤ 2) ∧ (∀ x ∈ is, interB x = true)) from fun h => by rw [(anyI is).2 h.2] at ha; cases ha)
    have HA := Lib.hid ha
    clear ha h0
    go_enter Tryz.func60, Tryz.ntmps60
    go_wp2_with (go_at_call 97; refine (hasB_any _ is _ (HI.out _) (by omega)).mono ?_; rintro e w' ⟨rfl, rfl⟩; rw [HA.out])
    go_ret
    exact RPost.no HX.out (HB.out _)
  ·have d2 : decide ((is.length : Int) ≤ 2) = false := by simp; omega
   have HX := Lib.hid (show ¬ ((0 < is.length ∧ is.length ≤ 2) ∧ (∀ x ∈ is, interB x = true)) from fun h => h2 h.1.2)
   clear h2 h0
   go_enter Tryz.func60, Tryz.ntmps60
   go_wp2
   go_ret
   exact RPost.no HX.out (HB.out _)
 ·have d0 : decide (0 < is.length) = false := decide_eq_false h0
  have HX := Lib.hid (show ¬ ((0 < is.length ∧ is.length ≤ 2) ∧ (∀ x ∈ is, interB x = true)) from fun h => h0 h.1.1)
  clear h0
  go_enter Tryz.func60, Tryz.ntmps60
  go_wp2
  go_ret
  exact RPost.no HX.out (HB.out _)
theorem rightInter_5 (vp vi vu : Value) (m : Int) (pv : Nat) (ps : List Int) (is us : List UInt8) (S : Nat → Prop) (w : World) (hp : SL vI w S vp ps) (hi : SL vB w S vi is) (hu : SL vB w S vu us) (hS : ∀ x, S x → x < w.heap.size) (hm : m = 5) : Calls Tryz.prog 60 #[.agg #[.int .i64 m, .int .u8 (pv : Int), vp, vi, vu]] w (RPost ((0 < is.length ∧ is.length ≤ 2) ∧ (∀ x ∈ is, interB x = true)) w) := by
 have HP : Hid (∀ o, IS (w.alloc o) (w.alloc o).heap.size vp ps) := fun o => ((hp.is hS).alloc (Nat.le_refl _) o).more (by simp)
 have HI : Hid (∀ o, BS (w.alloc o) (w.alloc o).heap.size vi is) := fun o => ((hi.bs hS).alloc (Nat.le_refl _) o).more (by simp)
 have HU : Hid (∀ o, BS (w.alloc o) (w.alloc o).heap.size vu us) := fun o => ((hu.bs hS).alloc (Nat.le_refl _) o).more (by simp)
 obtain ⟨Ap, cp, rfl, p1, p2⟩ := hp.form
 obtain ⟨Ai, ci, rfl, i1, i2⟩ := hi.form
 obtain ⟨Au, cu, rfl, u1, u2⟩ := hu.form
 clear hp hi hu hS
 have HB : Hid (∀ o, Below w.heap.size w (w.alloc o)) := fun o => (Below.refl _ _).alloc (Nat.le_refl _) o
 have m2 : (m == 2) = false := beq_eq_false_iff_ne.2 (by omega)
 have m5 : (m == 5) = true := beq_iff_eq.2 (by omega)
 clear hm
 by_cases h0 : 0 < is.length
 ·have d0 : 0 < is.length := h0
  by_cases h2 : is.length ≤ 2
  ·have d2 : (is.length : Int) ≤ 2 := by omega
   cases ha : is.any fun x => badI x
   ·have HX := Lib.hid (show (0 < is.length ∧ is.length ≤ 2) ∧ (∀ x ∈ is, interB x = true) from ⟨⟨h0, h2⟩, (anyI is).1 ha⟩)
    have HA := Lib.hid ha
    clear ha h0
    go_enter Tryz.func60, Tryz.ntmps60
    go_wp2_with (go_at_call 97; refine (hasB_any _ is _ (HI.out _) (by omega)).mono ?_; rintro e w' ⟨rfl, rfl⟩; rw [HA.out])
    go_ret
    exact RPost.yes HX.out (HB.out _)
   ·have HX := Lib.hid (show ¬ ((0 < is.length ∧ is.length ≤ 2) ∧ (∀ x ∈ is, interB x = true)) from fun h => by rw [(anyI is).2 h.2] at ha; cases ha)
    have HA := Lib.hid ha
    clear ha h0
    go_enter Tryz.func60, Tryz.ntmps60
    go_wp2_with (go_at_call 97; refine (hasB_any _ is _ (HI.out _) (by omega)).mono ?_; rintro e w' ⟨rfl, rfl⟩; rw [HA.out])
    go_ret
    exact RPost.no HX.out (HB.out _)
  ·have d2 : decide ((is.length : Int) ≤ 2) = false := by simp; omega
   have HX := Lib.hid (show ¬ ((0 < is.length ∧ is.length ≤ 2) ∧ (∀ x ∈ is, interB x = true)) from fun h => h2 h.1.2)
   clear h2 h0
   go_enter Tryz.func60, Tryz.ntmps60
   go_wp2
   go_ret
   exact RPost.no HX.out (HB.out _)
 ·have d0 : decide (0 < is.length) = false := decide_eq_false h0
  have HX := Lib.hid (show ¬ ((0 < is.length ∧ is.length ≤ 2) ∧ (∀ x ∈ is, interB x = true)) from fun h => h0 h.1.1)
  clear h0
  go_enter Tryz.func60, Tryz.ntmps60
  go_wp2
  go_ret
  exact RPost.no HX.out (HB.out _)
theorem rightInter_0 (vp vi vu : Value) (m : Int) (pv : Nat) (ps : List Int) (is us : List UInt8) (S : Nat → Prop) (w : World) (hp : SL vI w S vp ps) (hi : SL vB w S vi is) (hu : SL vB w S vu us) (hS : ∀ x, S x → x < w.heap.size) (hm2 : m ≠ 2) (hm5 : m ≠ 5) : Calls Tryz.prog 60 #[.agg #[.int .i64 m, .int .u8 (pv : Int), vp, vi, vu]] w (RPost (is.length = 0) w) := by
 have HP : Hid (∀ o, IS (w.alloc o) (w.alloc o).heap.size vp ps) := fun o => ((hp.is hS).alloc (Nat.le_refl _) o).more (by simp)
 have HI : Hid (∀ o, BS (w.alloc o) (w.alloc o).heap.size vi is) := fun o => ((hi.bs hS).alloc (Nat.le_refl _) o).more (by simp)
 have HU : Hid (∀ o, BS (w.alloc o) (w.alloc o).heap.size vu us) := fun o => ((hu.bs hS).alloc (Nat.le_refl _) o).more (by simp)
 obtain ⟨Ap, cp, rfl, p1, p2⟩ := hp.form
 obtain ⟨Ai, ci, rfl, i1, i2⟩ := hi.form
 obtain ⟨Au, cu, rfl, u1, u2⟩ := hu.form
 clear hp hi hu hS
 have HB : Hid (∀ o, Below w.heap.size w (w.alloc o)) := fun o => (Below.refl _ _).alloc (Nat.le_refl _) o
 have m2 : (m == 2) = false := beq_eq_false_iff_ne.2 (by omega)
 have m5 : (m == 5) = false := beq_eq_false_iff_ne.2 (by omega)
 clear hm2 hm5
 by_cases hl : is.length = 0
 ·have dl : ((is.length : Int) == 0) = true := beq_iff_eq.2 (by omega)
  have HX := Lib.hid hl
  clear hl
  go_enter Tryz.func60, Tryz.ntmps60
  go_wp2
  go_ret
  exact RPost.yes HX.out (HB.out _)
 ·have dl : ((is.length : Int) == 0) = false := beq_eq_false_iff_ne.2 (by omega)
  have HX := Lib.hid hl
  clear hl
  go_enter Tryz.func60, Tryz.ntmps60
  go_wp2
  go_ret
  exact RPost.no HX.out (HB.out _)
end Go.Proofs.YtlolgfgcgfjdjaaGreatDoor

namespace Go.Proofs.YtlolgfgcgfjdjaaGreatDoor
open Go.RowKit
set_option linter.unusedVariables false
set_option linter.unusedSimpArgs false
set_option maxHeartbeats 1000000
set_option maxRecDepth 100000
def PaP (m : Int) (pv : Nat) (ps : List Int) : Prop := ((m = 4 ∨ m = 5) ∧ (pv = 0 ∨ (60 ≤ pv ∧ pv ≤ 63)) ∧ ps.length ≤ 16 ∧ (∀ x ∈ ps, 0 ≤ x ∧ x ≤ 65535)) ∨ (¬ (m = 4 ∨ m = 5) ∧ pv = 0 ∧ ps.length = 0)
def InP (m : Int) (is : List UInt8) : Prop := ((m = 2 ∨ m = 5) ∧ (0 < is.length ∧ is.length ≤ 2) ∧ (∀ x ∈ is, interB x = true)) ∨ (¬ (m = 2 ∨ m = 5) ∧ is.length = 0)
def UtP (m : Int) (us : List UInt8) : Prop := us.length = 0 ∨ m = 0 ∧ beginsL us = true
theorem RPost.iff {P Q : Prop} {w w' : World} {e : Ending} (h : RPost P w e w') (hq : P ↔ Q) : RPost Q w e w' := by
 obtain ⟨r, he, h1, h2⟩ := h
 exact ⟨r, he, h1.trans hq, h2⟩
theorem rightParams_any (vp vi vu : Value) (m : Int) (pv : Nat) (ps : List Int) (is us : List UInt8) (S : Nat → Prop) (w : World) (hp : SL vI w S vp ps) (hi : SL vB w S vi is) (hu : SL vB w S vu us) (hS : ∀ x, S x → x < w.heap.size) : Calls Tryz.prog 59 #[.agg #[.int .i64 m, .int .u8 (pv : Int), vp, vi, vu]] w (RPost (PaP m pv ps) w) := by
 by_cases h4 : m = 4
 ·exact (rightParams_4 vp vi vu m pv ps is us S w hp hi hu hS h4).mono fun e w' h => h.iff ⟨fun h => .inl ⟨.inl h4, h⟩, fun h => h.elim (fun h => h.2) (fun h => absurd (.inl h4) h.1)⟩
 by_cases h5 : m = 5
 ·exact (rightParams_5 vp vi vu m pv ps is us S w hp hi hu hS h5).mono fun e w' h => h.iff ⟨fun h => .inl ⟨.inr h5, h⟩, fun h => h.elim (fun h => h.2) (fun h => absurd (.inr h5) h.1)⟩
 ·exact (rightParams_0 vp vi vu m pv ps is us S w hp hi hu hS h4 h5).mono fun e w' h => h.iff ⟨fun h => .inr ⟨fun hh => hh.elim h4 h5, h⟩, fun h => h.elim (fun h => absurd h.1 (fun hh => hh.elim h4 h5)) (fun h => h.2)⟩
theorem rightInter_any (vp vi vu : Value) (m : Int) (pv : Nat) (ps : List Int) (is us : List UInt8) (S : Nat → Prop) (w : World) (hp : SL vI w S vp ps) (hi : SL vB w S vi is) (hu : SL vB w S vu us) (hS : ∀ x, S x → x < w.heap.size) : Calls Tryz.prog 60 #[.agg #[.int .i64 m, .int .u8 (pv : Int), vp, vi, vu]] w (RPost (InP m is) w) := by
 by_cases h2 : m = 2
 ·exact (rightInter_2 vp vi vu m pv ps is us S w hp hi hu hS h2).mono fun e w' h => h.iff ⟨fun h => .inl ⟨.inl h2, h⟩, fun h => h.elim (fun h => h.2) (fun h => absurd (.inl h2) h.1)⟩
 by_cases h5 : m = 5
 ·exact (rightInter_5 vp vi vu m pv ps is us S w hp hi hu hS h5).mono fun e w' h => h.iff ⟨fun h => .inl ⟨.inr h5, h⟩, fun h => h.elim (fun h => h.2) (fun h => absurd (.inr h5) h.1)⟩
 ·exact (rightInter_0 vp vi vu m pv ps is us S w hp hi hu hS h2 h5).mono fun e w' h => h.iff ⟨fun h => .inr ⟨fun hh => hh.elim h2 h5, h⟩, fun h => h.elim (fun h => absurd h.1 (fun hh => hh.elim h2 h5)) (fun h => h.2)⟩
theorem right_iff (m : Int) (pv : Nat) (ps : List Int) (is us : List UInt8) : RightP m pv ps is us ↔ (0 ≤ m ∧ m ≤ 7) ∧ UtP m us ∧ PaP m pv ps ∧ InP m is := by
 unfold RightP UtP PaP InP
 constructor
 ·rintro ⟨⟨a1, a2, a3, a4, a5⟩, b1, b2, b3, b4, b5⟩
  refine ⟨⟨a1, a2⟩, ?_, ?_, ?_⟩
  ·rcases Nat.eq_zero_or_pos us.length with h | h
   ·exact .inl h
   ·exact .inr (a5 h)
  ·by_cases h : m = 4 ∨ m = 5
   ·exact .inl ⟨h, b3, a3, b1⟩
   ·exact .inr ⟨h, b4.elim (fun hh => absurd hh h) id⟩
  ·by_cases h : m = 2 ∨ m = 5
   ·exact .inl ⟨h, ⟨b5.1 h, a4⟩, b2⟩
   ·refine .inr ⟨h, ?_⟩
    rcases Nat.eq_zero_or_pos is.length with hh | hh
    ·exact hh
    ·exact absurd (b5.2 hh) h
 ·rintro ⟨⟨a1, a2⟩, hu, hp, hi⟩
  refine ⟨⟨a1, a2, ?_, ?_, ?_⟩, ?_, ?_, ?_, ?_, ?_⟩
  ·rcases hp with h | h <;> omega
  ·rcases hi with h | h <;> omega
  ·intro h; exact hu.elim (fun h0 => by omega) id
  ·rcases hp with h | h
   ·exact h.2.2.2
   ·have : ps = [] := List.eq_nil_of_length_eq_zero h.2.2
    rw [this]; simp
  ·rcases hi with h | h
   ·exact h.2.2
   ·have : is = [] := List.eq_nil_of_length_eq_zero h.2
    rw [this]; simp
  ·rcases hp with h | h
   ·exact h.2.1
   ·exact .inl h.2.1
  ·rcases hp with h | h
   ·exact .inl h.1
   ·exact .inr h.2
  ·rcases hi with h | h
   ·exact ⟨fun _ => h.2.1.1, fun _ => h.1⟩
   ·exact ⟨fun hh => absurd hh h.1, fun hh => by omega⟩
theorem rt {P : Prop} {f : FuncId} {x : Array Value} {w : World} (h : Calls Tryz.prog f x w (RPost P w)) (hp : P) : Calls Tryz.prog f x w fun e w' => e = .returned (.bool true) ∧ Below w.heap.size w w' := h.mono fun e w' ⟨r, he, h1, h2⟩ => ⟨by rw [he, h1.2 hp], h2⟩
theorem rf {P : Prop} {f : FuncId} {x : Array Value} {w : World} (h : Calls Tryz.prog f x w (RPost P w)) (hp : ¬ P) : Calls Tryz.prog f x w fun e w' => e = .returned (.bool false) ∧ Below w.heap.size w w' := h.mono fun e w' ⟨r, he, h1, h2⟩ => ⟨by
 cases r
 ·exact he
 ·exact absurd (h1.1 rfl) hp, h2⟩
theorem box_kept {w W W' : World} {o : Obj} (hz : w.heap.size < W.heap.size) (k : W.heap[w.heap.size]? = some o) (hb : Below W.heap.size W W') : W'.heap[w.heap.size]? = some o ∧ w.heap.size < W'.heap.size := ⟨(hb.block _ hz).trans k, Nat.lt_of_lt_of_le hz hb.size⟩
theorem vright_any (vp vi vu : Value) (m : Int) (pv : Nat) (ps : List Int) (is us : List UInt8) (S : Nat → Prop) (w : World) (hp : SL vI w S vp ps) (hi : SL vB w S vi is) (hu : SL vB w S vu us) (hS : ∀ x, S x → x < w.heap.size) (hm0 : -9223372036854775808 ≤ m) (hm7 : m ≤ 9223372036854775807) (hus : us.length ≤ 1048576) (hpv : pv < 256) :
  Calls Tryz.prog 35 #[.agg #[.int .i64 m, .int .u8 (pv : Int), vp, vi, vu]] w (RightPost m pv ps is us w) := by
 have HC1 : Hid (∀ W, Below w.heap.size w W → Calls Tryz.prog 58 #[.agg #[.int .i64 m, .int .u8 (pv : Int), vp, vi, vu]] W (RPost (UtP m us) W)) := fun W hb => rightUtf_any vp vi vu m pv ps is us S W (hp.keep (fun q hq => hb.cell (hS _ hq))) (hi.keep (fun q hq => hb.cell (hS _ hq))) (hu.keep (fun q hq => hb.cell (hS _ hq))) (fun x hx => Nat.lt_of_lt_of_le (hS x hx) hb.size) hus
 have HC2 : Hid (∀ W, Below w.heap.size w W → Calls Tryz.prog 59 #[.agg #[.int .i64 m, .int .u8 (pv : Int), vp, vi, vu]] W (RPost (PaP m pv ps) W)) := fun W hb => rightParams_any vp vi vu m pv ps is us S W (hp.keep (fun q hq => hb.cell (hS _ hq))) (hi.keep (fun q hq => hb.cell (hS _ hq))) (hu.keep (fun q hq => hb.cell (hS _ hq))) (fun x hx => Nat.lt_of_lt_of_le (hS x hx) hb.size)
 have HC3 : Hid (∀ W, Below w.heap.size w W → Calls Tryz.prog 60 #[.agg #[.int .i64 m, .int .u8 (pv : Int), vp, vi, vu]] W (RPost (InP m is) W)) := fun W hb => rightInter_any vp vi vu m pv ps is us S W (hp.keep (fun q hq => hb.cell (hS _ hq))) (hi.keep (fun q hq => hb.cell (hS _ hq))) (hu.keep (fun q hq => hb.cell (hS _ hq))) (fun x hx => Nat.lt_of_lt_of_le (hS x hx) hb.size)
 obtain ⟨Ap, cp, rfl, p1, p2⟩ := hp.form
 obtain ⟨Ai, ci, rfl, i1, i2⟩ := hi.form
 obtain ⟨Au, cu, rfl, u1, u2⟩ := hu.form
 have hri := right_iff m pv ps is us
 have HNO : Hid (¬ ((0 ≤ m ∧ m ≤ 7) ∧ UtP m us ∧ PaP m pv ps ∧ InP m is) → ∀ W, Below w.heap.size w W → RightPost m pv ps is us w (.returned (.bool false)) W) := fun h W hW => right_no (fun hr => h (hri.1 hr)) hW
 have HYES : Hid ((0 ≤ m ∧ m ≤ 7) ∧ UtP m us ∧ PaP m pv ps ∧ InP m is → ∀ W, Below w.heap.size w W → RightPost m pv ps is us w (.returned (.bool true)) W) := fun h W hW => ⟨true, rfl, by simp [hri.2 h], hW⟩
 clear hp hi hu hS hri
 have HB : Hid (∀ o, Below w.heap.size w (w.alloc o)) := fun o => (Below.refl _ _).alloc (Nat.le_refl _) o
 have HK : Hid (∀ o : Obj, (w.alloc o).heap[w.heap.size]? = some o ∧ w.heap.size < (w.alloc o).heap.size) := fun o => ⟨heap_alloc_new w o, by simp⟩
 by_cases b0 : 0 ≤ m
 ·by_cases b7 : m ≤ 7
  ·by_cases q1 : UtP m us
   ·have HQ1 : Hid _ := fun W hW => rt (HC1.out W hW) q1
    by_cases q2 : PaP m pv ps
    ·have HQ2 : Hid _ := fun W hW => rt (HC2.out W hW) q2
     by_cases q3 : InP m is
     ·have HQ3 : Hid _ := fun W hW => rt (HC3.out W hW) q3
      have HX := Lib.hid (HYES.out ⟨⟨b0, b7⟩, q1, q2, q3⟩)
      clear q1 q2 q3
      go_enter Tryz.func35, Tryz.ntmps35
      go_wp2_with (first
       | (go_at_call 58; refine (HQ1.out _ (HB.out _)).mono ?_; rintro e w1 ⟨rfl, hb⟩; have HB1 := Lib.hid ((HB.out _).trans (hb.mono (HB.out _).size)); have HK1 := Lib.hid (box_kept (HK.out _).2 (HK.out _).1 hb); obtain ⟨c0, c1, c2, c3, c4, cf⟩ := five_cells HK1.out.1; clear hb)
       | (go_at_call 59; refine (HQ2.out _ HB1.out).mono ?_; rintro e w2 ⟨rfl, hb⟩; have HB2 := Lib.hid (HB1.out.trans (hb.mono HB1.out.size)); have HK2 := Lib.hid (box_kept (HK1.out).2 (HK1.out).1 hb); obtain ⟨c0, c1, c2, c3, c4, cf⟩ := five_cells HK2.out.1; clear hb)
       | (go_at_call 60; refine (HQ3.out _ HB2.out).mono ?_; rintro e w3 ⟨rfl, hb⟩; have HB3 := Lib.hid (HB2.out.trans (hb.mono HB2.out.size)); have HK3 := Lib.hid (box_kept (HK2.out).2 (HK2.out).1 hb); obtain ⟨c0, c1, c2, c3, c4, cf⟩ := five_cells HK3.out.1; clear hb))
      go_ret
      exact HX.out _ HB3.out
     ·have HQ3 : Hid _ := fun W hW => rf (HC3.out W hW) q3
      have HX := Lib.hid (HNO.out (fun h => q3 h.2.2.2))
      clear q1 q2 q3
      go_enter Tryz.func35, Tryz.ntmps35
      go_wp2_with (first
       | (go_at_call 58; refine (HQ1.out _ (HB.out _)).mono ?_; rintro e w1 ⟨rfl, hb⟩; have HB1 := Lib.hid ((HB.out _).trans (hb.mono (HB.out _).size)); have HK1 := Lib.hid (box_kept (HK.out _).2 (HK.out _).1 hb); obtain ⟨c0, c1, c2, c3, c4, cf⟩ := five_cells HK1.out.1; clear hb)
       | (go_at_call 59; refine (HQ2.out _ HB1.out).mono ?_; rintro e w2 ⟨rfl, hb⟩; have HB2 := Lib.hid (HB1.out.trans (hb.mono HB1.out.size)); have HK2 := Lib.hid (box_kept (HK1.out).2 (HK1.out).1 hb); obtain ⟨c0, c1, c2, c3, c4, cf⟩ := five_cells HK2.out.1; clear hb)
       | (go_at_call 60; refine (HQ3.out _ HB2.out).mono ?_; rintro e w3 ⟨rfl, hb⟩; have HB3 := Lib.hid (HB2.out.trans (hb.mono HB2.out.size)); have HK3 := Lib.hid (box_kept (HK2.out).2 (HK2.out).1 hb); obtain ⟨c0, c1, c2, c3, c4, cf⟩ := five_cells HK3.out.1; clear hb))
      go_ret
      exact HX.out _ HB3.out
    ·have HQ2 : Hid _ := fun W hW => rf (HC2.out W hW) q2
     have HX := Lib.hid (HNO.out (fun h => q2 h.2.2.1))
     clear q1 q2
     go_enter Tryz.func35, Tryz.ntmps35
     go_wp2_with (first
      | (go_at_call 58; refine (HQ1.out _ (HB.out _)).mono ?_; rintro e w1 ⟨rfl, hb⟩; have HB1 := Lib.hid ((HB.out _).trans (hb.mono (HB.out _).size)); have HK1 := Lib.hid (box_kept (HK.out _).2 (HK.out _).1 hb); obtain ⟨c0, c1, c2, c3, c4, cf⟩ := five_cells HK1.out.1; clear hb)
      | (go_at_call 59; refine (HQ2.out _ HB1.out).mono ?_; rintro e w2 ⟨rfl, hb⟩; have HB2 := Lib.hid (HB1.out.trans (hb.mono HB1.out.size)); have HK2 := Lib.hid (box_kept (HK1.out).2 (HK1.out).1 hb); obtain ⟨c0, c1, c2, c3, c4, cf⟩ := five_cells HK2.out.1; clear hb))
     go_ret
     exact HX.out _ HB2.out
   ·have HQ1 : Hid _ := fun W hW => rf (HC1.out W hW) q1
    have HX := Lib.hid (HNO.out (fun h => q1 h.2.1))
    clear q1
    go_enter Tryz.func35, Tryz.ntmps35
    go_wp2_with (first
     | (go_at_call 58; refine (HQ1.out _ (HB.out _)).mono ?_; rintro e w1 ⟨rfl, hb⟩; have HB1 := Lib.hid ((HB.out _).trans (hb.mono (HB.out _).size)); have HK1 := Lib.hid (box_kept (HK.out _).2 (HK.out _).1 hb); obtain ⟨c0, c1, c2, c3, c4, cf⟩ := five_cells HK1.out.1; clear hb))
    go_ret
    exact HX.out _ HB1.out
  ·have d7 : decide (m ≤ 7) = false := decide_eq_false b7
   have HX := Lib.hid (HNO.out (fun h => b7 h.1.2))
   clear b7
   go_enter Tryz.func35, Tryz.ntmps35
   go_wp2
   go_ret
   exact HX.out _ (HB.out _)
 ·have d0 : decide (0 ≤ m) = false := decide_eq_false b0
  have HX := Lib.hid (HNO.out (fun h => b0 h.1.1))
  clear b0
  go_enter Tryz.func35, Tryz.ntmps35
  go_wp2
  go_ret
  exact HX.out _ (HB.out _)
end Go.Proofs.YtlolgfgcgfjdjaaGreatDoor

namespace Go.Proofs.YtlolgfgcgfjdjaaGreatDoor
open Go.RowKit
set_option linter.unusedVariables false
set_option linter.unusedSimpArgs false
set_option maxHeartbeats 8000000
set_option maxRecDepth 100000
def BPost (P : Prop) (w : World) (e : Ending) (w' : World) : Prop := ∃ b, e = .returned (.bool b) ∧ (b = true ↔ P) ∧ Below w.heap.size w w'
def OthOk (s : Sc) (r c : Nat) : Prop := (s.alt = true → CellsR s.other r c) ∧ (s.alt = false → s.other.length = 0 ∧ s.oy = 0 ∧ s.ox = 0)
theorem bpost_no {P : Prop} {w w' : World} (h : ¬ P) (hb : Below w.heap.size w w') : BPost P w (.returned (.bool false)) w' := ⟨false, rfl, by simp [h], hb⟩
theorem bpost_yes {P : Prop} {w w' : World} (h : P) (hb : Below w.heap.size w w') : BPost P w (.returned (.bool true)) w' := ⟨true, rfl, by simp [h], hb⟩
theorem bool_post {P : Prop} {w : World} {b : Bool} (h : b = true ↔ P) {e : Ending} {w' : World} (he : e = .returned (.bool b) ∧ Below w.heap.size w w') : BPost P w e w' := ⟨b, he.1, h, he.2⟩
theorem wpl_loadSg {w : World} {ops : Array Oper} {rest : List Oper} {o : Oper} {a : Act} {Q : Exit → Act → World → Prop} (hw : Region.wanted o (yielded ops a.tmps) = true) (x : Operand) (ho : o.op = .load 31 x) {g : Nat} {xs : Array Value} (hx : a.eval x = .pointer (some ⟨g, 0, none⟩))
  (hg : w.heap[g]? = some (.cells xs 31)) (hn : xs.size = 24) (h : wpList Tryz.prog ops Q rest (a.put o.dst (.agg xs)) w) : wpList Tryz.prog ops Q (o :: rest) a w := by
 refine wpList_step fun K hK => ?_
 rw [if_pos hw]
 unfold Oper.wp execOp
 simp only [ho, hx, Sem.run_bind, run_loadS hg hn, Result.andThen_ok, Sem.run_pure]
 exact hK _ _ h
theorem prightOther_any (m : Int) (s : Sc) (vc vt vo vp vi vu : Value) (S : Nat → Prop) (w : World) (hS : ∀ x, S x → x < w.heap.size) (hs : SSl w S s vc vt vo vp vi vu) (hf : FitS m s) (r c : Nat) (hr : s.rows = r) (hc : s.cols = c) (r1 : 1 ≤ r) (r2 : r ≤ 1000) (c1 : 1 ≤ c) (c2 : c ≤ 1000) :
  Calls Tryz.prog 31 #[.agg (vRaw m s vc vt vo vp vi vu)] w (BPost (OthOk s r c) w) := by
 have HSS := Lib.hid hS
 have HF := Lib.hid hf
 have HS := Lib.hid hs
 obtain ⟨g1, g2, g3, g4, g5, g6⟩ := hs
 obtain ⟨A1, kk1, rfl, p1, q1⟩ := g1.form
 obtain ⟨A2, k2, rfl, p2, q2⟩ := g2.form
 obtain ⟨A3, k3, rfl, p3, q3⟩ := g3.form
 obtain ⟨A4, k4, rfl, p4, q4⟩ := g4.form
 obtain ⟨A5, k5, rfl, p5, q5⟩ := g5.form
 obtain ⟨A6, k6, rfl, p6, q6⟩ := g6.form
 have hnt := hf.nt
 have hno := hf.no
 clear g1 g2 g3 g4 g5 g6 hS hf
 have HB0 := Lib.hid (show Below w.heap.size w (w.alloc (.cells (vRaw m s (.slice A1 s.cells.length kk1) (.slice A2 s.tabs.length k2) (.slice A3 s.other.length k3) (.slice A4 s.p.params.length k4) (.slice A5 s.p.inter.length k5) (.slice A6 s.p.utf.length k6)) 31)) from (Below.refl _ _).alloc (Nat.le_refl _) _)
 have HK0 := Lib.hid (heap_alloc_new w (.cells (vRaw m s (.slice A1 s.cells.length kk1) (.slice A2 s.tabs.length k2) (.slice A3 s.other.length k3) (.slice A4 s.p.params.length k4) (.slice A5 s.p.inter.length k5) (.slice A6 s.p.utf.length k6)) 31))
 have HG := Lib.hid (fun (W : World) (hW : Below w.heap.size w W) => prightCells_any m s A1 A2 A3 A4 A5 A6 s.cells.length s.tabs.length s.other.length s.p.params.length s.p.inter.length s.p.utf.length kk1 k2 k3 k4 k5 k6 (.slice A3 s.other.length k3) s.other r c W hr hc (HS.out.2.2.1.cs' HSS.out hW (Nat.le_refl _)) HF.out.other HF.out.no r1 r2 c1 c2)
 obtain ⟨e0, e1, e2, e3, e4, e5, e6, e7, e8, e9, e10, e11, e12, e13, e14, e15, e16, e17, e18, e19, e20, e21, e22, e23⟩ := vRaw_cells HK0.out
 clear hr hc
 cases hal : s.alt with
 | true =>
  rw [hal] at e15
  have HAL := Lib.hid hal
  clear hal
  go_enter Tryz.func31, Tryz.ntmps31
  go_upto_region 2 with fail
  refine wp_region_lit ?_
  refine wpl_loadS rfl (.tmp 1) rfl rfl HK0.out rfl ?_
  go_wp2_with (go_at_call 30; (with_reducible refine (HG.out _ HB0.out).mono ?_); rintro e wz ⟨b, rfl, hb, bz⟩)
  go_ret
  refine ⟨b, rfl, ?_, HB0.out.trans (bz.mono HB0.out.size)⟩
  rw [hb]
  exact ⟨fun g => ⟨fun _ => g, fun e => by rw [HAL.out] at e; cases e⟩, fun g => g.1 HAL.out⟩
 | false =>
  rw [hal] at e15
  have HAL := Lib.hid hal
  clear hal
  by_cases cn : s.other.length = 0
  rotate_left
  ·have fn : ((s.other.length : Int) == 0) = false := by rw [beq_eq_false_iff_ne]; omega
   have HNO := Lib.hid (show ¬ OthOk s r c from fun g => cn (g.2 HAL.out).1)
   clear cn
   go_enter Tryz.func31, Tryz.ntmps31
   go_wp2
   go_ret
   exact bpost_no HNO.out HB0.out
  have fn : ((s.other.length : Int) == 0) = true := by rw [beq_iff_eq]; omega
  have CN := Lib.hid cn
  clear cn
  by_cases co : s.oy = 0
  rotate_left
  ·have fo : (s.oy == 0) = false := by rw [beq_eq_false_iff_ne]; omega
   have HNO := Lib.hid (show ¬ OthOk s r c from fun g => co (g.2 HAL.out).2.1)
   clear co
   go_enter Tryz.func31, Tryz.ntmps31
   go_wp2
   go_ret
   exact bpost_no HNO.out HB0.out
  have fo : (s.oy == 0) = true := by rw [beq_iff_eq]; omega
  have CO := Lib.hid co
  clear co
  by_cases cp : s.ox = 0
  rotate_left
  ·have fp : (s.ox == 0) = false := by rw [beq_eq_false_iff_ne]; omega
   have HNO := Lib.hid (show ¬ OthOk s r c from fun g => cp (g.2 HAL.out).2.2)
   clear cp
   go_enter Tryz.func31, Tryz.ntmps31
   go_wp2
   go_ret
   exact bpost_no HNO.out HB0.out
  have fp : (s.ox == 0) = true := by rw [beq_iff_eq]; omega
  have CP := Lib.hid cp
  clear cp
  have HYES := Lib.hid (show OthOk s r c from ⟨fun e => (by rw [HAL.out] at e; cases e), fun _ => ⟨CN.out, CO.out, CP.out⟩⟩)
  go_enter Tryz.func31, Tryz.ntmps31
  go_wp2
  go_ret
  exact bpost_yes HYES.out HB0.out
theorem pRight_any (m : Int) (s : Sc) (vc vt vo vp vi vu : Value) (S : Nat → Prop) (w : World) (hS : ∀ x, S x → x < w.heap.size) (hs : SSl w S s vc vt vo vp vi vu) (hf : FitS m s) :
  Calls Tryz.prog 14 #[.agg (vRaw m s vc vt vo vp vi vu)] w (RightSPost m s w) := by
 have HSS := Lib.hid hS
 have HF := Lib.hid hf
 have HS := Lib.hid hs
 obtain ⟨g1, g2, g3, g4, g5, g6⟩ := hs
 obtain ⟨A1, kk1, rfl, p1, q1⟩ := g1.form
 obtain ⟨A2, k2, rfl, p2, q2⟩ := g2.form
 obtain ⟨A3, k3, rfl, p3, q3⟩ := g3.form
 obtain ⟨A4, k4, rfl, p4, q4⟩ := g4.form
 obtain ⟨A5, k5, rfl, p5, q5⟩ := g5.form
 obtain ⟨A6, k6, rfl, p6, q6⟩ := g6.form
 have hnt := hf.nt
 have hno := hf.no
 clear g1 g2 g3 g4 g5 g6 hS hf
 have HB0 := Lib.hid (show Below w.heap.size w (w.alloc (.cells (vRaw m s (.slice A1 s.cells.length kk1) (.slice A2 s.tabs.length k2) (.slice A3 s.other.length k3) (.slice A4 s.p.params.length k4) (.slice A5 s.p.inter.length k5) (.slice A6 s.p.utf.length k6)) 31)) from (Below.refl _ _).alloc (Nat.le_refl _) _)
 have HK0 := Lib.hid (heap_alloc_new w (.cells (vRaw m s (.slice A1 s.cells.length kk1) (.slice A2 s.tabs.length k2) (.slice A3 s.other.length k3) (.slice A4 s.p.params.length k4) (.slice A5 s.p.inter.length k5) (.slice A6 s.p.utf.length k6)) 31))
 have HC0 : Hid (∀ W, Calls Tryz.prog 29 #[.int .i64 s.rows] W (BPost (1 ≤ s.rows ∧ s.rows ≤ 1000) W)) := fun W => (psize_any s.rows W).mono (fun e w' h => bool_post (by unfold sizeB; simp) ⟨h.1, by rw [← h.2]; exact Below.refl _ _⟩)
 have HC1 : Hid (∀ W, Calls Tryz.prog 29 #[.int .i64 s.cols] W (BPost (1 ≤ s.cols ∧ s.cols ≤ 1000) W)) := fun W => (psize_any s.cols W).mono (fun e w' h => bool_post (by unfold sizeB; simp) ⟨h.1, by rw [← h.2]; exact Below.refl _ _⟩)
 have HC4 : Hid (∀ W, Calls Tryz.prog 32 #[.agg (vRaw m s (.slice A1 s.cells.length kk1) (.slice A2 s.tabs.length k2) (.slice A3 s.other.length k3) (.slice A4 s.p.params.length k4) (.slice A5 s.p.inter.length k5) (.slice A6 s.p.utf.length k6)), .int .i64 s.y, .int .i64 s.x] W (BPost (0 ≤ s.y ∧ s.y < s.rows ∧ 0 ≤ s.x ∧ s.x < s.cols) W)) := fun W => (pisPlace_any m s A1 A2 A3 A4 A5 A6 s.cells.length s.tabs.length s.other.length s.p.params.length s.p.inter.length s.p.utf.length kk1 k2 k3 k4 k5 k6 s.y s.x W).mono (fun e w' h => bool_post (by simp) h)
 have HC5 : Hid (∀ W, Calls Tryz.prog 32 #[.agg (vRaw m s (.slice A1 s.cells.length kk1) (.slice A2 s.tabs.length k2) (.slice A3 s.other.length k3) (.slice A4 s.p.params.length k4) (.slice A5 s.p.inter.length k5) (.slice A6 s.p.utf.length k6)), .int .i64 s.sy, .int .i64 s.sx] W (BPost (0 ≤ s.sy ∧ s.sy < s.rows ∧ 0 ≤ s.sx ∧ s.sx < s.cols) W)) := fun W => (pisPlace_any m s A1 A2 A3 A4 A5 A6 s.cells.length s.tabs.length s.other.length s.p.params.length s.p.inter.length s.p.utf.length kk1 k2 k3 k4 k5 k6 s.sy s.sx W).mono (fun e w' h => bool_post (by simp) h)
 have HC6 : Hid (∀ W, Calls Tryz.prog 32 #[.agg (vRaw m s (.slice A1 s.cells.length kk1) (.slice A2 s.tabs.length k2) (.slice A3 s.other.length k3) (.slice A4 s.p.params.length k4) (.slice A5 s.p.inter.length k5) (.slice A6 s.p.utf.length k6)), .int .i64 s.oy, .int .i64 s.ox] W (BPost (0 ≤ s.oy ∧ s.oy < s.rows ∧ 0 ≤ s.ox ∧ s.ox < s.cols) W)) := fun W => (pisPlace_any m s A1 A2 A3 A4 A5 A6 s.cells.length s.tabs.length s.other.length s.p.params.length s.p.inter.length s.p.utf.length kk1 k2 k3 k4 k5 k6 s.oy s.ox W).mono (fun e w' h => bool_post (by simp) h)
 have HC8 : Hid (∀ W, Calls Tryz.prog 33 #[.int .u16 (s.attr : Int)] W (BPost (attrB s.attr = true) W)) := fun W => (prightAttr_any s.attr W).mono (fun e w' h => bool_post Iff.rfl h)
 have HC9 : Hid (∀ W, Calls Tryz.prog 33 #[.int .u16 (s.sattr : Int)] W (BPost (attrB s.sattr = true) W)) := fun W => (prightAttr_any s.sattr W).mono (fun e w' h => bool_post Iff.rfl h)
 have HC10 : Hid (∀ W, Calls Tryz.prog 34 #[.agg (vRaw m s (.slice A1 s.cells.length kk1) (.slice A2 s.tabs.length k2) (.slice A3 s.other.length k3) (.slice A4 s.p.params.length k4) (.slice A5 s.p.inter.length k5) (.slice A6 s.p.utf.length k6))] W (BPost ((s.rows = 1 ∧ s.top = 0 ∧ s.bottom = 0) ∨ (s.rows ≠ 1 ∧ 0 ≤ s.top ∧ s.top < s.bottom ∧ s.bottom < s.rows)) W)) := fun W => (prightRegion_any m s A1 A2 A3 A4 A5 A6 s.cells.length s.tabs.length s.other.length s.p.params.length s.p.inter.length s.p.utf.length kk1 k2 k3 k4 k5 k6 W).mono (fun e w' ⟨⟨b, h1, h2⟩, h3⟩ => ⟨b, h1, h2, h3⟩)
 have HC12 : Hid (∀ W, Below w.heap.size w W → Calls Tryz.prog 35 #[.agg #[.int .i64 m, .int .u8 (s.p.priv : Int), .slice A4 s.p.params.length k4, .slice A5 s.p.inter.length k5, .slice A6 s.p.utf.length k6]] W (BPost (RightP m s.p.priv s.p.params s.p.inter s.p.utf) W)) := fun W hW => vright_any (.slice A4 s.p.params.length k4) (.slice A5 s.p.inter.length k5) (.slice A6 s.p.utf.length k6) m s.p.priv s.p.params s.p.inter s.p.utf S W (HS.out.2.2.2.1.keep fun q hq => hW.cell (HSS.out _ hq)) (HS.out.2.2.2.2.1.keep fun q hq => hW.cell (HSS.out _ hq)) (HS.out.2.2.2.2.2.keep fun q hq => hW.cell (HSS.out _ hq)) (fun x hx => Nat.lt_of_lt_of_le (HSS.out x hx) hW.size) HF.out.m0 HF.out.m1 HF.out.nu HF.out.pv
 obtain ⟨e0, e1, e2, e3, e4, e5, e6, e7, e8, e9, e10, e11, e12, e13, e14, e15, e16, e17, e18, e19, e20, e21, e22, e23⟩ := vRaw_cells HK0.out
 go_enter Tryz.func14, Tryz.ntmps14
 go_wp2_with fail
 ((with_reducible refine (HC0.out _).mono ?_); rintro e w1 ⟨b, rfl, hb, bb⟩)
 have HB1 := Lib.hid (HB0.out.trans (bb.mono HB0.out.size))
 have HK1 := Lib.hid (blk_below HK0.out bb)
 have HY0 := Lib.hid hb
 clear bb hb e0 e1 e2 e3 e4 e5 e6 e7 e8 e9 e10 e11 e12 e13 e14 e15 e16 e17 e18 e19 e20 e21 e22 e23
 obtain ⟨e0, e1, e2, e3, e4, e5, e6, e7, e8, e9, e10, e11, e12, e13, e14, e15, e16, e17, e18, e19, e20, e21, e22, e23⟩ := vRaw_cells HK1.out
 rename_i K hK
 refine hK _ _ ?_
 clear hK K
 rcases Bool.eq_false_or_eq_true b with rfl | rfl
 rotate_left
 ·have HNO := Lib.hid (show ¬ RightS m s from fun g => by have h := HY0.out.2 ⟨g.r1, g.r2⟩; cases h)
  go_wp2
  all_goals first | (rename_i h1 h2; cases h1; done) | skip
  go_ret
  exact rightS_no HNO.out HB1.out
 have HP0 := Lib.hid (HY0.out.1 rfl)
 clear HY0
 go_wp2_with fail
 ((with_reducible refine (HC1.out _).mono ?_); rintro e w2 ⟨b, rfl, hb, bb⟩)
 have HB2 := Lib.hid (HB1.out.trans (bb.mono HB1.out.size))
 have HK2 := Lib.hid (blk_below HK1.out bb)
 have HY1 := Lib.hid hb
 clear bb hb e0 e1 e2 e3 e4 e5 e6 e7 e8 e9 e10 e11 e12 e13 e14 e15 e16 e17 e18 e19 e20 e21 e22 e23
 obtain ⟨e0, e1, e2, e3, e4, e5, e6, e7, e8, e9, e10, e11, e12, e13, e14, e15, e16, e17, e18, e19, e20, e21, e22, e23⟩ := vRaw_cells HK2.out
 rename_i K hK
 refine hK _ _ ?_
 clear hK K
 rcases Bool.eq_false_or_eq_true b with rfl | rfl
 rotate_left
 ·have HNO := Lib.hid (show ¬ RightS m s from fun g => by have h := HY1.out.2 ⟨g.c1, g.c2⟩; cases h)
  go_wp2
  all_goals first | (rename_i h1 h2; cases h1; done) | skip
  go_ret
  exact rightS_no HNO.out HB2.out
 have HP1 := Lib.hid (HY1.out.1 rfl)
 clear HY1
 obtain ⟨r, hr⟩ : ∃ r : Nat, s.rows = r := ⟨s.rows.toNat, by have := HP0.out; omega⟩
 obtain ⟨c, hc⟩ : ∃ c : Nat, s.cols = c := ⟨s.cols.toNat, by have := HP1.out; omega⟩
 have HR := Lib.hid hr
 have HC := Lib.hid hc
 have HRT := Lib.hid (show s.rows.toNat = r by omega)
 have HCT := Lib.hid (show s.cols.toNat = c by omega)
 have hr1 : 1 ≤ r := by have := HP0.out; omega
 have hr2 : r ≤ 1000 := by have := HP0.out; omega
 have hc1 : 1 ≤ c := by have := HP1.out; omega
 have hc2 : c ≤ 1000 := by have := HP1.out; omega
 have HC2 : Hid (∀ W, Below w.heap.size w W → Calls Tryz.prog 30 #[.agg (vRaw m s (.slice A1 s.cells.length kk1) (.slice A2 s.tabs.length k2) (.slice A3 s.other.length k3) (.slice A4 s.p.params.length k4) (.slice A5 s.p.inter.length k5) (.slice A6 s.p.utf.length k6)), .slice A1 s.cells.length kk1] W (BPost (CellsR s.cells r c) W)) := fun W hW => prightCells_any m s A1 A2 A3 A4 A5 A6 s.cells.length s.tabs.length s.other.length s.p.params.length s.p.inter.length s.p.utf.length kk1 k2 k3 k4 k5 k6 (.slice A1 s.cells.length kk1) s.cells r c W hr hc (HS.out.1.cs' HSS.out hW (Nat.le_refl _)) HF.out.cells HF.out.nc hr1 hr2 hc1 hc2
 have HC3 : Hid (∀ W, Below w.heap.size w W → Calls Tryz.prog 31 #[.agg (vRaw m s (.slice A1 s.cells.length kk1) (.slice A2 s.tabs.length k2) (.slice A3 s.other.length k3) (.slice A4 s.p.params.length k4) (.slice A5 s.p.inter.length k5) (.slice A6 s.p.utf.length k6))] W (BPost (OthOk s r c) W)) := fun W hW => prightOther_any m s _ _ _ _ _ _ S W (fun x hx => Nat.lt_of_lt_of_le (HSS.out x hx) hW.size) (HS.out.below HSS.out hW) HF.out r c hr hc hr1 hr2 hc1 hc2
 clear hr hc
 iterate 4 go_step
 refine wpl_loadSg (by rfl) (.tmp 1) rfl rfl HK2.out rfl ?_
 go_wp2_with fail
 ((with_reducible refine (HC2.out _ HB2.out).mono ?_); rintro e w3 ⟨b, rfl, hb, bb⟩)
 have HB3 := Lib.hid (HB2.out.trans (bb.mono HB2.out.size))
 have HK3 := Lib.hid (blk_below HK2.out bb)
 have HY2 := Lib.hid hb
 clear bb hb e0 e1 e2 e3 e4 e5 e6 e7 e8 e9 e10 e11 e12 e13 e14 e15 e16 e17 e18 e19 e20 e21 e22 e23
 obtain ⟨e0, e1, e2, e3, e4, e5, e6, e7, e8, e9, e10, e11, e12, e13, e14, e15, e16, e17, e18, e19, e20, e21, e22, e23⟩ := vRaw_cells HK3.out
 rename_i K hK
 refine hK _ _ ?_
 clear hK K
 rcases Bool.eq_false_or_eq_true b with rfl | rfl
 rotate_left
 ·have HNO := Lib.hid (show ¬ RightS m s from fun g => by have h := HY2.out.2 (by have := g.cells; rw [HRT.out, HCT.out] at this; exact this); cases h)
  go_wp2
  all_goals first | (rename_i h1 h2; cases h1; done) | skip
  go_ret
  exact rightS_no HNO.out HB3.out
 have HP2 := Lib.hid (HY2.out.1 rfl)
 clear HY2
 iterate 4 go_step
 refine wpl_loadSg (by rfl) (.tmp 1) rfl rfl HK3.out rfl ?_
 go_wp2_with fail
 ((with_reducible refine (HC3.out _ HB3.out).mono ?_); rintro e w4 ⟨b, rfl, hb, bb⟩)
 have HB4 := Lib.hid (HB3.out.trans (bb.mono HB3.out.size))
 have HK4 := Lib.hid (blk_below HK3.out bb)
 have HY3 := Lib.hid hb
 clear bb hb e0 e1 e2 e3 e4 e5 e6 e7 e8 e9 e10 e11 e12 e13 e14 e15 e16 e17 e18 e19 e20 e21 e22 e23
 obtain ⟨e0, e1, e2, e3, e4, e5, e6, e7, e8, e9, e10, e11, e12, e13, e14, e15, e16, e17, e18, e19, e20, e21, e22, e23⟩ := vRaw_cells HK4.out
 rename_i K hK
 refine hK _ _ ?_
 clear hK K
 rcases Bool.eq_false_or_eq_true b with rfl | rfl
 rotate_left
 ·have HNO := Lib.hid (show ¬ RightS m s from fun g => by have h := HY3.out.2 ⟨fun e => (by have := g.other e; rw [HRT.out, HCT.out] at this; exact this), fun e => g.noAlt e⟩; cases h)
  go_wp2
  all_goals first | (rename_i h1 h2; cases h1; done) | skip
  go_ret
  exact rightS_no HNO.out HB4.out
 have HP3 := Lib.hid (HY3.out.1 rfl)
 clear HY3
 iterate 4 go_step
 refine wpl_loadSg (by rfl) (.tmp 1) rfl rfl HK4.out rfl ?_
 go_wp2_with fail
 ((with_reducible refine (HC4.out _).mono ?_); rintro e w5 ⟨b, rfl, hb, bb⟩)
 have HB5 := Lib.hid (HB4.out.trans (bb.mono HB4.out.size))
 have HK5 := Lib.hid (blk_below HK4.out bb)
 have HY4 := Lib.hid hb
 clear bb hb e0 e1 e2 e3 e4 e5 e6 e7 e8 e9 e10 e11 e12 e13 e14 e15 e16 e17 e18 e19 e20 e21 e22 e23
 obtain ⟨e0, e1, e2, e3, e4, e5, e6, e7, e8, e9, e10, e11, e12, e13, e14, e15, e16, e17, e18, e19, e20, e21, e22, e23⟩ := vRaw_cells HK5.out
 rename_i K hK
 refine hK _ _ ?_
 clear hK K
 rcases Bool.eq_false_or_eq_true b with rfl | rfl
 rotate_left
 ·have HNO := Lib.hid (show ¬ RightS m s from fun g => by have h := HY4.out.2 ⟨g.y0, g.y1, g.x0, g.x1⟩; cases h)
  go_wp2
  all_goals first | (rename_i h1 h2; cases h1; done) | skip
  go_ret
  exact rightS_no HNO.out HB5.out
 have HP4 := Lib.hid (HY4.out.1 rfl)
 clear HY4
 iterate 4 go_step
 refine wpl_loadSg (by rfl) (.tmp 1) rfl rfl HK5.out rfl ?_
 go_wp2_with fail
 ((with_reducible refine (HC5.out _).mono ?_); rintro e w6 ⟨b, rfl, hb, bb⟩)
 have HB6 := Lib.hid (HB5.out.trans (bb.mono HB5.out.size))
 have HK6 := Lib.hid (blk_below HK5.out bb)
 have HY5 := Lib.hid hb
 clear bb hb e0 e1 e2 e3 e4 e5 e6 e7 e8 e9 e10 e11 e12 e13 e14 e15 e16 e17 e18 e19 e20 e21 e22 e23
 obtain ⟨e0, e1, e2, e3, e4, e5, e6, e7, e8, e9, e10, e11, e12, e13, e14, e15, e16, e17, e18, e19, e20, e21, e22, e23⟩ := vRaw_cells HK6.out
 rename_i K hK
 refine hK _ _ ?_
 clear hK K
 rcases Bool.eq_false_or_eq_true b with rfl | rfl
 rotate_left
 ·have HNO := Lib.hid (show ¬ RightS m s from fun g => by have h := HY5.out.2 ⟨g.sy0, g.sy1, g.sx0, g.sx1⟩; cases h)
  go_wp2
  all_goals first | (rename_i h1 h2; cases h1; done) | skip
  go_ret
  exact rightS_no HNO.out HB6.out
 have HP5 := Lib.hid (HY5.out.1 rfl)
 clear HY5
 iterate 4 go_step
 refine wpl_loadSg (by rfl) (.tmp 1) rfl rfl HK6.out rfl ?_
 go_wp2_with fail
 ((with_reducible refine (HC6.out _).mono ?_); rintro e w7 ⟨b, rfl, hb, bb⟩)
 have HB7 := Lib.hid (HB6.out.trans (bb.mono HB6.out.size))
 have HK7 := Lib.hid (blk_below HK6.out bb)
 have HY6 := Lib.hid hb
 clear bb hb e0 e1 e2 e3 e4 e5 e6 e7 e8 e9 e10 e11 e12 e13 e14 e15 e16 e17 e18 e19 e20 e21 e22 e23
 obtain ⟨e0, e1, e2, e3, e4, e5, e6, e7, e8, e9, e10, e11, e12, e13, e14, e15, e16, e17, e18, e19, e20, e21, e22, e23⟩ := vRaw_cells HK7.out
 rename_i K hK
 refine hK _ _ ?_
 clear hK K
 rcases Bool.eq_false_or_eq_true b with rfl | rfl
 rotate_left
 ·have HNO := Lib.hid (show ¬ RightS m s from fun g => by have h := HY6.out.2 ⟨g.oy0, g.oy1, g.ox0, g.ox1⟩; cases h)
  go_wp2
  all_goals first | (rename_i h1 h2; cases h1; done) | skip
  go_ret
  exact rightS_no HNO.out HB7.out
 have HP6 := Lib.hid (HY6.out.1 rfl)
 clear HY6
 cases hw : s.wrap with
 | false =>
  have HW := Lib.hid (show s.wrap = true → s.x = (c : Int) - 1 from fun e => by rw [hw] at e; cases e)
  rw [hw] at e5
  clear hw
  go_wp2_with fail
  ((with_reducible refine (HC8.out _).mono ?_); rintro e w8 ⟨b, rfl, hb, bb⟩)
  have HB8 := Lib.hid (HB7.out.trans (bb.mono HB7.out.size))
  have HK8 := Lib.hid (blk_below HK7.out bb)
  have HY8 := Lib.hid hb
  clear bb hb e0 e1 e2 e3 e4 e5 e6 e7 e8 e9 e10 e11 e12 e13 e14 e15 e16 e17 e18 e19 e20 e21 e22 e23
  obtain ⟨e0, e1, e2, e3, e4, e5, e6, e7, e8, e9, e10, e11, e12, e13, e14, e15, e16, e17, e18, e19, e20, e21, e22, e23⟩ := vRaw_cells HK8.out
  rename_i K hK
  refine hK _ _ ?_
  clear hK K
  rcases Bool.eq_false_or_eq_true b with rfl | rfl
  rotate_left
  ·have HNO := Lib.hid (show ¬ RightS m s from fun g => by have h := HY8.out.2 g.attr; cases h)
   go_wp2
   go_ret
   exact rightS_no HNO.out HB8.out
  have HP8 := Lib.hid (HY8.out.1 rfl)
  clear HY8
  go_wp2_with fail
  ((with_reducible refine (HC9.out _).mono ?_); rintro e w9 ⟨b, rfl, hb, bb⟩)
  have HB9 := Lib.hid (HB8.out.trans (bb.mono HB8.out.size))
  have HK9 := Lib.hid (blk_below HK8.out bb)
  have HY9 := Lib.hid hb
  clear bb hb e0 e1 e2 e3 e4 e5 e6 e7 e8 e9 e10 e11 e12 e13 e14 e15 e16 e17 e18 e19 e20 e21 e22 e23
  obtain ⟨e0, e1, e2, e3, e4, e5, e6, e7, e8, e9, e10, e11, e12, e13, e14, e15, e16, e17, e18, e19, e20, e21, e22, e23⟩ := vRaw_cells HK9.out
  rename_i K hK
  refine hK _ _ ?_
  clear hK K
  rcases Bool.eq_false_or_eq_true b with rfl | rfl
  rotate_left
  ·have HNO := Lib.hid (show ¬ RightS m s from fun g => by have h := HY9.out.2 g.sattr; cases h)
   go_wp2
   go_ret
   exact rightS_no HNO.out HB9.out
  have HP9 := Lib.hid (HY9.out.1 rfl)
  clear HY9
  iterate 6 go_step
  refine wpl_loadSg (by rfl) (.tmp 1) rfl rfl HK9.out rfl ?_
  go_wp2_with fail
  ((with_reducible refine (HC10.out _).mono ?_); rintro e w10 ⟨b, rfl, hb, bb⟩)
  have HB10 := Lib.hid (HB9.out.trans (bb.mono HB9.out.size))
  have HK10 := Lib.hid (blk_below HK9.out bb)
  have HY10 := Lib.hid hb
  clear bb hb e0 e1 e2 e3 e4 e5 e6 e7 e8 e9 e10 e11 e12 e13 e14 e15 e16 e17 e18 e19 e20 e21 e22 e23
  obtain ⟨e0, e1, e2, e3, e4, e5, e6, e7, e8, e9, e10, e11, e12, e13, e14, e15, e16, e17, e18, e19, e20, e21, e22, e23⟩ := vRaw_cells HK10.out
  rename_i K hK
  refine hK _ _ ?_
  clear hK K
  rcases Bool.eq_false_or_eq_true b with rfl | rfl
  rotate_left
  ·have HNO := Lib.hid (show ¬ RightS m s from fun g => by have h := HY10.out.2 (by have h1 := g.tb; have h2 := g.t0; have h3 := g.b1; omega); cases h)
   go_wp2
   go_ret
   exact rightS_no HNO.out HB10.out
  have HP10 := Lib.hid (HY10.out.1 rfl)
  clear HY10
  rw [HC.out] at e1
  by_cases bt : (s.tabs.length : Int) = (c : Int)
  rotate_left
  ·have ftt : ((s.tabs.length : Int) == (c : Int)) = false := beq_eq_false_iff_ne.2 bt
   have HNO := Lib.hid (show ¬ RightS m s from fun g => by have := g.tabs; rw [HC.out] at this; omega)
   clear bt
   go_wp2
   go_ret
   exact rightS_no HNO.out HB10.out
  have ftt : ((s.tabs.length : Int) == (c : Int)) = true := beq_iff_eq.2 bt
  have HT := Lib.hid bt
  clear bt
  go_wp2_with fail
  ((with_reducible refine (HC12.out _ HB10.out).mono ?_); rintro e w11 ⟨b, rfl, hb, bb⟩)
  have HB11 := Lib.hid (HB10.out.trans (bb.mono HB10.out.size))
  have HK11 := Lib.hid (blk_below HK10.out bb)
  have HY12 := Lib.hid hb
  clear bb hb e0 e1 e2 e3 e4 e5 e6 e7 e8 e9 e10 e11 e12 e13 e14 e15 e16 e17 e18 e19 e20 e21 e22 e23
  obtain ⟨e0, e1, e2, e3, e4, e5, e6, e7, e8, e9, e10, e11, e12, e13, e14, e15, e16, e17, e18, e19, e20, e21, e22, e23⟩ := vRaw_cells HK11.out
  rename_i K hK
  refine hK _ _ ?_
  clear hK K
  go_wp2
  go_ret
  refine ⟨b, rfl, ?_, HB11.out⟩
  rw [HY12.out]
  have h4 := HP4.out
  have h5 := HP5.out
  have h6 := HP6.out
  rw [HR.out, HC.out] at h4 h5 h6
  have h10 := HP10.out
  rw [HR.out] at h10
  exact ⟨fun g => rightS_of HR.out HC.out hr1 hr2 hc1 hc2 HP2.out ⟨⟨h4.1, h4.2.1⟩, ⟨h4.2.2.1, h4.2.2.2⟩, ⟨h5.1, h5.2.1⟩, ⟨h5.2.2.1, h5.2.2.2⟩, ⟨h6.1, h6.2.1⟩, ⟨h6.2.2.1, h6.2.2.2⟩⟩ HW.out HP8.out HP9.out HT.out g ⟨by omega, by omega⟩ (by omega) HP3.out.1 HP3.out.2, fun g => g.p⟩
 | true =>
  rw [HC.out] at e1
  by_cases hx : s.x = (c : Int) - 1
  rotate_left
  ·have fx : (s.x == (c : Int) - 1) = false := beq_eq_false_iff_ne.2 hx
   have HNO := Lib.hid (show ¬ RightS m s from fun g => by have := g.wrap hw; rw [HC.out] at this; omega)
   have hwc : IntKind.i64.wrap ((c : Int) - 1) = (c : Int) - 1 := by rw [IntKind.wrap_i64]; omega
   rw [hw] at e5
   clear hx hw
   go_wp2
   go_ret
   exact rightS_no HNO.out HB7.out
  have fx : (s.x == (c : Int) - 1) = true := beq_iff_eq.2 hx
  have HW := Lib.hid (show s.wrap = true → s.x = (c : Int) - 1 from fun _ => hx)
  have hwc : IntKind.i64.wrap ((c : Int) - 1) = (c : Int) - 1 := by rw [IntKind.wrap_i64]; omega
  rw [hw] at e5
  clear hx hw
  go_wp2_with fail
  ((with_reducible refine (HC8.out _).mono ?_); rintro e w8 ⟨b, rfl, hb, bb⟩)
  have HB8 := Lib.hid (HB7.out.trans (bb.mono HB7.out.size))
  have HK8 := Lib.hid (blk_below HK7.out bb)
  have HY8 := Lib.hid hb
  clear bb hb e0 e1 e2 e3 e4 e5 e6 e7 e8 e9 e10 e11 e12 e13 e14 e15 e16 e17 e18 e19 e20 e21 e22 e23
  obtain ⟨e0, e1, e2, e3, e4, e5, e6, e7, e8, e9, e10, e11, e12, e13, e14, e15, e16, e17, e18, e19, e20, e21, e22, e23⟩ := vRaw_cells HK8.out
  rename_i K hK
  refine hK _ _ ?_
  clear hK K
  rcases Bool.eq_false_or_eq_true b with rfl | rfl
  rotate_left
  ·have HNO := Lib.hid (show ¬ RightS m s from fun g => by have h := HY8.out.2 g.attr; cases h)
   go_wp2
   go_ret
   exact rightS_no HNO.out HB8.out
  have HP8 := Lib.hid (HY8.out.1 rfl)
  clear HY8
  go_wp2_with fail
  ((with_reducible refine (HC9.out _).mono ?_); rintro e w9 ⟨b, rfl, hb, bb⟩)
  have HB9 := Lib.hid (HB8.out.trans (bb.mono HB8.out.size))
  have HK9 := Lib.hid (blk_below HK8.out bb)
  have HY9 := Lib.hid hb
  clear bb hb e0 e1 e2 e3 e4 e5 e6 e7 e8 e9 e10 e11 e12 e13 e14 e15 e16 e17 e18 e19 e20 e21 e22 e23
  obtain ⟨e0, e1, e2, e3, e4, e5, e6, e7, e8, e9, e10, e11, e12, e13, e14, e15, e16, e17, e18, e19, e20, e21, e22, e23⟩ := vRaw_cells HK9.out
  rename_i K hK
  refine hK _ _ ?_
  clear hK K
  rcases Bool.eq_false_or_eq_true b with rfl | rfl
  rotate_left
  ·have HNO := Lib.hid (show ¬ RightS m s from fun g => by have h := HY9.out.2 g.sattr; cases h)
   go_wp2
   go_ret
   exact rightS_no HNO.out HB9.out
  have HP9 := Lib.hid (HY9.out.1 rfl)
  clear HY9
  iterate 6 go_step
  refine wpl_loadSg (by rfl) (.tmp 1) rfl rfl HK9.out rfl ?_
  go_wp2_with fail
  ((with_reducible refine (HC10.out _).mono ?_); rintro e w10 ⟨b, rfl, hb, bb⟩)
  have HB10 := Lib.hid (HB9.out.trans (bb.mono HB9.out.size))
  have HK10 := Lib.hid (blk_below HK9.out bb)
  have HY10 := Lib.hid hb
  clear bb hb e0 e1 e2 e3 e4 e5 e6 e7 e8 e9 e10 e11 e12 e13 e14 e15 e16 e17 e18 e19 e20 e21 e22 e23
  obtain ⟨e0, e1, e2, e3, e4, e5, e6, e7, e8, e9, e10, e11, e12, e13, e14, e15, e16, e17, e18, e19, e20, e21, e22, e23⟩ := vRaw_cells HK10.out
  rename_i K hK
  refine hK _ _ ?_
  clear hK K
  rcases Bool.eq_false_or_eq_true b with rfl | rfl
  rotate_left
  ·have HNO := Lib.hid (show ¬ RightS m s from fun g => by have h := HY10.out.2 (by have h1 := g.tb; have h2 := g.t0; have h3 := g.b1; omega); cases h)
   go_wp2
   go_ret
   exact rightS_no HNO.out HB10.out
  have HP10 := Lib.hid (HY10.out.1 rfl)
  clear HY10
  rw [HC.out] at e1
  by_cases bt : (s.tabs.length : Int) = (c : Int)
  rotate_left
  ·have ftt : ((s.tabs.length : Int) == (c : Int)) = false := beq_eq_false_iff_ne.2 bt
   have HNO := Lib.hid (show ¬ RightS m s from fun g => by have := g.tabs; rw [HC.out] at this; omega)
   clear bt
   go_wp2
   go_ret
   exact rightS_no HNO.out HB10.out
  have ftt : ((s.tabs.length : Int) == (c : Int)) = true := beq_iff_eq.2 bt
  have HT := Lib.hid bt
  clear bt
  go_wp2_with fail
  ((with_reducible refine (HC12.out _ HB10.out).mono ?_); rintro e w11 ⟨b, rfl, hb, bb⟩)
  have HB11 := Lib.hid (HB10.out.trans (bb.mono HB10.out.size))
  have HK11 := Lib.hid (blk_below HK10.out bb)
  have HY12 := Lib.hid hb
  clear bb hb e0 e1 e2 e3 e4 e5 e6 e7 e8 e9 e10 e11 e12 e13 e14 e15 e16 e17 e18 e19 e20 e21 e22 e23
  obtain ⟨e0, e1, e2, e3, e4, e5, e6, e7, e8, e9, e10, e11, e12, e13, e14, e15, e16, e17, e18, e19, e20, e21, e22, e23⟩ := vRaw_cells HK11.out
  rename_i K hK
  refine hK _ _ ?_
  clear hK K
  go_wp2
  go_ret
  refine ⟨b, rfl, ?_, HB11.out⟩
  rw [HY12.out]
  have h4 := HP4.out
  have h5 := HP5.out
  have h6 := HP6.out
  rw [HR.out, HC.out] at h4 h5 h6
  have h10 := HP10.out
  rw [HR.out] at h10
  exact ⟨fun g => rightS_of HR.out HC.out hr1 hr2 hc1 hc2 HP2.out ⟨⟨h4.1, h4.2.1⟩, ⟨h4.2.2.1, h4.2.2.2⟩, ⟨h5.1, h5.2.1⟩, ⟨h5.2.2.1, h5.2.2.2⟩, ⟨h6.1, h6.2.1⟩, ⟨h6.2.2.1, h6.2.2.2⟩⟩ HW.out HP8.out HP9.out HT.out g ⟨by omega, by omega⟩ (by omega) HP3.out.1 HP3.out.2, fun g => g.p⟩
end Go.Proofs.YtlolgfgcgfjdjaaGreatDoor

namespace Go.Proofs.YtlolgfgcgfjdjaaGreatDoor
set_option linter.unusedVariables false
set_option linter.unusedSimpArgs false
set_option maxHeartbeats 400000
set_option maxRecDepth 100000
structure ScW (s : Sc) (r c : Nat) : Prop where
 cells : Whole s.cells r c
 other : s.alt = true → Whole s.other r c
theorem newS_w (rows cols : Int) (r c : Nat) : ScW (newS rows cols) r c := ⟨blankL_whole _ _ _ _, fun e => by cases e⟩
theorem ScIn.up_w {s : Sc} {r c : Nat} (hi : ScIn s r c) (h : ScW s r c) (top bottom n : Int) : Whole (upL s.cells s.cols top bottom n) r c := by
 rw [hi.cols]; exact upL_whole hi.g h.cells _ _ _
theorem ScIn.down_w {s : Sc} {r c : Nat} (hi : ScIn s r c) (h : ScW s r c) (top bottom n : Int) : Whole (downL s.cells s.cols top bottom n) r c := by
 rw [hi.cols]; exact downL_whole hi.g h.cells _ _ _
theorem downS_w {s : Sc} {r c : Nat} (hi : ScIn s r c) (h : ScW s r c) : ScW (downS s) r c := by
 unfold downS
 split
 ·exact ⟨hi.up_w h _ _ _, h.other⟩
 split
 ·exact ⟨h.cells, h.other⟩
 ·exact ⟨h.cells, h.other⟩
theorem crS_w {s : Sc} {r c : Nat} (hi : ScIn s r c) (h : ScW s r c) : ScW (crS s) r c := ⟨(downS_w hi h).cells, (downS_w hi h).other⟩
theorem wrapS_w {s : Sc} {r c : Nat} (hi : ScIn s r c) (h : ScW s r c) : ScW (wrapS s) r c := by
 unfold wrapS
 split
 ·exact crS_w hi h
 ·exact h
theorem set_other {l : List Cl} {v : Cl} {c y y' x i : Nat} (hx : x < c) (hne : y' ≠ y) (h1 : y * c ≤ i) (h2 : i < y * c + c) : getC (l.set i v) (y' * c + x) = getC l (y' * c + x) := by
 unfold getC List.getD
 rw [List.getElem?_set_ne (row_other hx hne h1 h2)]
theorem atS_eq {s : Sc} {r c y x : Nat} (hi : ScIn s r c) (hy : s.y = y) (hx : s.x = x) : atS s = y * c + x := by
 unfold atS
 rw [hy, hx, hi.cols, show (y : Int) * (c : Int) + (x : Int) = ((y * c + x : Nat) : Int) by rw [Int.natCast_add, Int.natCast_mul]]
 exact Int.toNat_natCast _
theorem putS_w {s : Sc} {r c : Nat} (hi : ScIn s r c) (h : ScW s r c) (rn w : Int) (hw : w = 1 ∨ (w = 2 ∧ s.x + 1 < s.cols)) : ScW (putS s rn w) r c := by
 have hm : Whole (mendL (if w = 2 then cells2 s rn else cells1 s rn) s.cols s.y) r c := by
  have hcols := hi.cols
  have y0 := hi.y0
  have x0 := hi.x0
  have x1 := hi.x1
  have hl : (if w = 2 then cells2 s rn else cells1 s rn).length = s.cells.length := by split <;> simp [cells1, cells2]
  obtain ⟨y, hy⟩ : ∃ y : Nat, s.y = y := ⟨s.y.toNat, by omega⟩
  obtain ⟨x, hx⟩ : ∃ x : Nat, s.x = x := ⟨s.x.toNat, by omega⟩
  have ha := atS_eq hi hy hx
  rw [hi.cols]
  refine mendL_whole (by rw [hl]; exact hi.g) _ (fun y' hy' hne => (h.cells y' hy').same (fun x' hx' => ?_))
  by_cases h2 : w = 2
  ·rw [if_pos h2]
   unfold cells2
   rw [ha, set_other hx' (y := y) (by omega) (by omega) (by omega), set_other hx' (y := y) (by omega) (by omega) (by omega)]
  ·rw [if_neg h2]
   unfold cells1
   rw [ha, set_other hx' (y := y) (by omega) (by omega) (by omega)]
 unfold putS
 split
 ·exact ⟨hm, h.other⟩
 ·exact ⟨hm, h.other⟩
theorem printS_w {s : Sc} {r c : Nat} (hi : ScIn s r c) (h : ScW s r c) (rn : Int) : ScW (printS s rn) r c := by
 have hwi := wrapS_in hi
 have hw := wrapS_w hi h
 have x1 := hwi.x1
 have e2 := hwi.cols
 have hw3 : widthL rn = 0 ∨ widthL rn = 1 ∨ widthL rn = 2 := by
  unfold widthL
  split
  ·exact .inl rfl
  ·split
   ·exact .inr (.inr rfl)
   ·exact .inr (.inl rfl)
 unfold printS
 by_cases h0 : widthL rn = 0
 ·rw [if_pos h0]; exact h
 rw [if_neg h0]
 by_cases h2 : widthL rn = 2 ∧ (wrapS s).x = (wrapS s).cols - 1
 ·rw [if_pos h2]
  by_cases h3 : (wrapS s).auto = false ∨ (wrapS s).cols = 1
  ·rw [if_pos h3]; exact hw
  ·rw [if_neg h3]
   have hc := crS_in hwi
   have hcc := hc.cols
   have hx : (crS (wrapS s)).x = 0 := rfl
   have hc1 := hc.g.c1
   have hne : ¬ (wrapS s).cols = 1 := fun e => h3 (.inr e)
   exact putS_w hc (crS_w hwi hw) rn 2 (.inr ⟨rfl, by rw [hx, hcc]; omega⟩)
 ·rw [if_neg h2]
  refine putS_w hwi hw rn _ ?_
  rcases hw3 with h4 | h4 | h4
  ·exact absurd h4 h0
  ·exact .inl h4
  ·refine .inr ⟨h4, ?_⟩
   have : ¬ (wrapS s).x = (wrapS s).cols - 1 := fun e => h2 ⟨h4, e⟩
   omega
theorem controlS_w {s : Sc} {r c : Nat} (hi : ScIn s r c) (h : ScW s r c) (b : Nat) : ScW (controlS s b) r c := by
 unfold controlS
 split
 ·exact ⟨h.cells, h.other⟩
 split
 ·exact ⟨h.cells, h.other⟩
 split
 ·exact downS_w hi h
 split
 ·exact ⟨h.cells, h.other⟩
 ·exact h
theorem escapeS_w {s : Sc} {r c : Nat} (hi : ScIn s r c) (h : ScW s r c) (b : Nat) : ScW (escapeS s b) r c := by
 unfold escapeS
 split
 ·exact ⟨h.cells, h.other⟩
 split
 ·exact ⟨h.cells, h.other⟩
 split
 ·exact downS_w hi h
 split
 ·exact crS_w hi h
 split
 ·split
  ·exact ⟨hi.down_w h _ _ _, h.other⟩
  ·split
   ·exact ⟨h.cells, h.other⟩
   ·exact ⟨h.cells, h.other⟩
 split
 ·exact ⟨h.cells, h.other⟩
 split
 ·exact newS_w _ _ _ _
 ·exact h
theorem modeS_w {s : Sc} {r c : Nat} (h : ScW s r c) (k : Int) (on : Bool) : ScW (modeS s k on) r c := by
 unfold modeS
 split
 ·exact ⟨h.cells, h.other⟩
 split
 ·exact ⟨h.cells, h.other⟩
 split
 ·exact ⟨blankL_whole _ _ _ _, fun _ => h.cells⟩
 split
 ·rename_i hc
  exact ⟨h.other hc.2.2, fun e => by cases e⟩
 ·exact h
theorem fill_row {l : List Cl} {c lo hi y : Nat} (h : RowW l c y) (hd : (lo ≤ y * c ∧ y * c + c ≤ hi) ∨ y * c + c ≤ lo ∨ hi ≤ y * c) : RowW (fillL l (fun _ => blankC) lo hi) c y := by
 by_cases hb : lo ≤ y * c ∧ y * c + c ≤ hi
 ·exact RowW.blank (fun x hx => by rw [fill_blankC, if_pos (by omega)])
 ·exact h.same (fun x hx => by rw [fill_blankC, if_neg (by omega)])
theorem eraseS_w {s : Sc} {r c : Nat} (hi : ScIn s r c) (h : ScW s r c) (row : Bool) (k : Int) : ScW (eraseS s row k) r c := by
 unfold eraseS
 split
 ·exact ⟨h.cells, h.other⟩
 refine ⟨?_, h.other⟩
 show Whole (mendL (fillL s.cells (fun _ => blankC) _ _) s.cols s.y) r c
 have hcols := hi.cols
 have y0 := hi.y0
 have x0 := hi.x0
 have x1 := hi.x1
 have hn := hi.g.n
 obtain ⟨y, hy⟩ : ∃ y : Nat, s.y = y := ⟨s.y.toNat, by omega⟩
 obtain ⟨x, hx⟩ : ∃ x : Nat, s.x = x := ⟨s.x.toNat, by omega⟩
 obtain ⟨p, hp⟩ : ∃ p : Nat, p = y * c := ⟨_, rfl⟩
 have hyc : (y : Int) * (c : Int) = (p : Int) := by rw [hp, Int.natCast_mul]
 rw [hcols, hy, hx, Int.add_mul, hyc, Int.one_mul]
 have hxc : x < c := by omega
 refine mendL_whole (by rw [fillL_len]; exact hi.g) _ (fun y' hy' hne => fill_row (h.cells y' hy') ?_)
 obtain ⟨q, hq⟩ : ∃ q : Nat, q = y' * c := ⟨_, rfl⟩
 have hqn : q + c ≤ s.cells.length := by
  have := Nat.mul_le_mul_right c hy'
  rw [Nat.succ_eq_add_one, Nat.add_mul] at this
  omega
 have hqp : q + c ≤ p ∨ p + c ≤ q := by
  rcases Nat.lt_or_ge y' y with h1 | h1
  ·have := Nat.mul_le_mul_right c h1
   rw [Nat.succ_eq_add_one, Nat.add_mul] at this
   omega
  ·have h3 : y + 1 ≤ y' := by omega
   have := Nat.mul_le_mul_right c h3
   rw [Nat.add_mul] at this
   omega
 rw [← hq]
 clear hyc hq hp hn hne
 by_cases k0 : k = 0
 ·have k1 : ¬ k = 1 := by omega
  rw [if_pos k0, if_neg k1]
  cases row with
  | true => rw [if_pos rfl]; omega
  | false => rw [if_neg (by decide)]; omega
 ·rw [if_neg k0]
  by_cases k1 : k = 1
  ·rw [if_pos k1]
   cases row with
   | true => rw [if_pos rfl]; omega
   | false => rw [if_neg (by decide)]; omega
  ·rw [if_neg k1]
   cases row with
   | true => rw [if_pos rfl, if_pos rfl]; omega
   | false => rw [if_neg (by decide), if_neg (by decide)]; omega
theorem seqS_w {s : Sc} {r c : Nat} (hi : ScIn s r c) (h : ScW s r c) (b : Nat) (l : List Int) : ScW (seqS s b l) r c := by
 have hs : ∀ t : Sc, t.cells = s.cells → t.other = s.other → t.alt = s.alt → ScW t r c := fun t e1 e2 e3 => ⟨by rw [e1]; exact h.cells, by rw [e2, e3]; exact h.other⟩
 unfold seqS
 dsimp only
 by_cases c101 : b = 65
 ·rw [if_pos c101]
  exact hs _ rfl rfl rfl
 rw [if_neg c101]
 by_cases c102 : b = 66
 ·rw [if_pos c102]
  exact hs _ rfl rfl rfl
 rw [if_neg c102]
 by_cases c103 : b = 67
 ·rw [if_pos c103]
  exact hs _ rfl rfl rfl
 rw [if_neg c103]
 by_cases c104 : b = 68
 ·rw [if_pos c104]
  exact hs _ rfl rfl rfl
 rw [if_neg c104]
 by_cases c105 : b = 71 ∨ b = 96
 ·rw [if_pos c105]
  exact hs _ rfl rfl rfl
 rw [if_neg c105]
 by_cases c106 : b = 100
 ·rw [if_pos c106]
  exact hs _ rfl rfl rfl
 rw [if_neg c106]
 by_cases c107 : b = 72 ∨ b = 102
 ·rw [if_pos c107]
  exact hs _ rfl rfl rfl
 rw [if_neg c107]
 by_cases c108 : b = 74
 ·rw [if_pos c108]
  exact eraseS_w hi h _ _
 rw [if_neg c108]
 by_cases c109 : b = 75
 ·rw [if_pos c109]
  exact eraseS_w hi h _ _
 rw [if_neg c109]
 by_cases c110 : b = 76
 ·rw [if_pos c110]
  by_cases hy : s.top ≤ s.y ∧ s.y ≤ s.bottom
  ·rw [if_pos hy]; exact ⟨hi.down_w h _ _ _, h.other⟩
  ·rw [if_neg hy]; exact hs _ rfl rfl rfl
 rw [if_neg c110]
 by_cases c111 : b = 77
 ·rw [if_pos c111]
  by_cases hy : s.top ≤ s.y ∧ s.y ≤ s.bottom
  ·rw [if_pos hy]; exact ⟨hi.up_w h _ _ _, h.other⟩
  ·rw [if_neg hy]; exact hs _ rfl rfl rfl
 rw [if_neg c111]
 by_cases c112 : b = 64
 ·rw [if_pos c112]
  exact ⟨by show Whole (insertL s.cells s.cols s.y s.x _) r c; rw [hi.cols]; exact insertL_whole hi.g h.cells _ _ _, h.other⟩
 rw [if_neg c112]
 by_cases c113 : b = 80
 ·rw [if_pos c113]
  exact ⟨by show Whole (deleteL s.cells s.cols s.y s.x _) r c; rw [hi.cols]; exact deleteL_whole hi.g h.cells _ _ _, h.other⟩
 rw [if_neg c113]
 by_cases c114 : b = 88
 ·rw [if_pos c114]
  exact ⟨by show Whole (eraseL s.cells s.cols s.y s.x _) r c; rw [hi.cols]; exact eraseL_whole hi.g h.cells _ _ _, h.other⟩
 rw [if_neg c114]
 by_cases c115 : b = 83
 ·rw [if_pos c115]
  exact ⟨hi.up_w h _ _ _, h.other⟩
 rw [if_neg c115]
 by_cases c116 : b = 84
 ·rw [if_pos c116]
  exact ⟨hi.down_w h _ _ _, h.other⟩
 rw [if_neg c116]
 by_cases c117 : b = 114
 ·rw [if_pos c117]
  by_cases hc : paramL l 0 1 - 1 < min (paramL l 1 s.rows) s.rows - 1
  ·rw [if_pos hc]; exact hs _ rfl rfl rfl
  ·rw [if_neg hc]; exact h
 rw [if_neg c117]
 by_cases c118 : b = 103
 ·rw [if_pos c118]
  by_cases g0 : paramL l 0 0 = 0
  ·rw [if_pos g0]; exact hs _ rfl rfl rfl
  rw [if_neg g0]
  by_cases g3 : paramL l 0 0 = 3
  ·rw [if_pos g3]; exact hs _ rfl rfl rfl
  rw [if_neg g3]; exact h
 rw [if_neg c118]
 by_cases c119 : b = 109
 ·rw [if_pos c119]
  exact hs _ rfl rfl rfl
 rw [if_neg c119]
 exact h
theorem foldl_mode_w (l : List Int) (on : Bool) {r c : Nat} : ∀ {s : Sc}, ScW s r c → ScW (l.foldl (fun s k => modeS s k on) s) r c := by
 induction l with
 | nil => intro s h; exact h
 | cons x l ih => intro s h; exact ih (modeS_w h x on)
theorem doS_w {s : Sc} {r c : Nat} (hi : ScIn s r c) (h : ScW s r c) (a : Ac) : ScW (doS s a) r c := by
 unfold doS
 split
 ·exact printS_w hi h _
 split
 ·exact controlS_w hi h _
 split
 ·split
  ·exact escapeS_w hi h _
  ·exact h
 split
 ·split
  ·exact h
  split
  ·exact foldl_mode_w _ _ h
  split
  ·exact seqS_w hi h _ _
  ·exact h
 ·exact h
theorem foldl_do_w (l : List Ac) {r c : Nat} : ∀ {s : Sc}, ScIn s r c → ScW s r c → (∀ a ∈ l, ActOk a) → ScW (l.foldl doS s) r c := by
 induction l with
 | nil => intro s _ h _; exact h
 | cons x l ih => intro s hi h ha; exact ih (doS_in hi x (ha x (by simp))) (doS_w hi h x) (fun a hm => ha a (by simp [hm]))
theorem stepS_w {s : Sc} {r c : Nat} (hi : ScIn s r c) (h : ScW s r c) (b : UInt8) : ScW (stepS s b) r c := by
 have hf := foldl_do_w (vtL s.p b).2 hi h (vtL_acts s.p b hi.p)
 exact ⟨hf.cells, hf.other⟩
theorem feedS_w (l : List UInt8) {r c : Nat} : ∀ {s : Sc}, ScIn s r c → ScW s r c → ScW (feedS s l) r c := by
 unfold feedS
 induction l with
 | nil => intro s _ h; exact h
 | cons x l ih => intro s hi h; exact ih (stepS_in hi x) (stepS_w hi h x)
end Go.Proofs.YtlolgfgcgfjdjaaGreatDoor
