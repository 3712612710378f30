/- What is proved here: the contract of the document's Size, of any arguments; words for a call that tells cells in new memory; the document's Blank of any arguments; contracts of the program's small functions on grids: a size, the nearest number, a blank, a copy, a row of a grid, blanks at a slice's end; which rows and places the program says that a grid has; parts of a slice of cells; the contract of the program's addBlanks: so many blanks at the end of a row of the call's own; the contracts of the program's ahead and back: cells of a grid further ahead or further back, blanks where they were; the contract of the program's mend: a row of a grid, mended in its place; plain facts on cells that go ahead or back in a row of cells: they are what the document's Up, Down, Insert, Delete tell; the contracts of the program's Up and Down; the contracts of the program's Insert, Delete and Mend; plain facts on a grid of another size that is made row by row, each row mended as soon as it stands: it is what the document's Size tells; the contracts of the program's Erase and Blank; the program's Up, Down, Size tell rows of cells of the call's own; contracts of the landed screen's up, down: the rows from one on to the region's end go. -/
import Derived.Test.YtlolgfgcgfjdjaaGreatDoorS5
import Derived.Test.YtlolgfgcgfjdjaaGreatDoorS10
import Derived.Laws.Cover3
import Derived.Test.YtlolgfgcgfjdjaaGreatDoorS2
import Derived.Deep.QuietTactic
import Derived.BigQuiet
import Derived.Deep.DeepCutAuto
import Derived.Deep.CutRange
import Derived.Laws.MakeOwn
import Derived.Deep.RegionLaw
namespace Go.Proofs.YtlolgfgcgfjdjaaGreatDoor
open Go.RowKit
set_option linter.unusedVariables false
set_option linter.unusedSimpArgs false
set_option maxHeartbeats 400000
set_option maxRecDepth 100000
theorem ite_iff {α : Type} {p q : Prop} [Decidable p] [Decidable q] (h : p ↔ q) (x y : α) : (if p then x else y) = if q then x else y := by
 by_cases hp : p
 ·rw [if_pos hp, if_pos (h.1 hp)]
 ·rw [if_neg hp, if_neg (fun e => hp (h.2 e))]
theorem getC_rep (n i : Nat) : getC (List.replicate n blankC) i = blankC := by
 unfold getC List.getD
 rw [List.getElem?_replicate]
 split <;> rfl
end Go.Proofs.YtlolgfgcgfjdjaaGreatDoor

namespace Go.Proofs.YtlolgfgcgfjdjaaGreatDoor
open Go.RowKit
set_option linter.unusedVariables false
set_option linter.unusedSimpArgs false
set_option maxHeartbeats 400000
set_option maxRecDepth 100000
def CsPost (l : List Cl) (w : World) (e : Ending) (w' : World) : Prop := ∃ v, e = .returned v ∧ CS w' w'.heap.size v l ∧ Below w.heap.size w w'
theorem CellsPost.toCs {l : List Cl} {w w' : World} {e : Ending} (h : CellsPost l w e w') : CsPost l w e w' := by
 obtain ⟨v, he, ho, hb⟩ := h
 exact ⟨v, he, ho.cs, hb⟩
end Go.Proofs.YtlolgfgcgfjdjaaGreatDoor

namespace Go.Proofs.YtlolgfgcgfjdjaaGreatDoor
open Go.RowKit
set_option linter.unusedVariables false
set_option linter.unusedSimpArgs false
set_option maxHeartbeats 400000
set_option maxRecDepth 100000
def sizeB (n : Int) : Bool := decide (1 ≤ n ∧ n ≤ 1000)
theorem isSize_any (n : Int) (w : World) : Calls Tryz.prog 84 #[.int .i64 n] w fun e w' => e = .returned (.bool (sizeB n)) ∧ w = w' := by
 unfold sizeB
 by_cases h1 : 1 ≤ n
 ·by_cases h2 : n ≤ 1000
  ·rw [decide_eq_true ⟨h1, h2⟩]
   go_enter Tryz.func84, Tryz.ntmps84
   go_wp2
   go_ret
   exact ⟨rfl, rfl⟩
  ·rw [decide_eq_false (fun h => h2 h.2)]
   have h3 : decide (n ≤ 1000) = false := decide_eq_false h2
   go_enter Tryz.func84, Tryz.ntmps84
   go_wp2
   go_ret
   exact ⟨rfl, rfl⟩
 ·rw [decide_eq_false (fun h => h1 h.1)]
  have h3 : decide (1 ≤ n) = false := decide_eq_false h1
  go_enter Tryz.func84, Tryz.ntmps84
  go_wp2
  go_ret
  exact ⟨rfl, rfl⟩
theorem capC_if (n most : Int) (h : 0 ≤ most) : (if most < (if n < 0 then 0 else n) then most else (if n < 0 then 0 else n)) = (capC n most : Int) := by
 unfold capC
 by_cases h : n < 0
 ·simp only [h, if_true]; split <;> omega
 ·simp only [h, if_false]
  split <;> omega
theorem nearest_any (n most : Int) (w : World) (h : 0 ≤ most) : Calls Tryz.prog 173 #[.int .i64 n, .int .i64 most] w fun e w' => e = .returned (.int .i64 (capC n most : Int)) ∧ w = w' := by
 have hq := capC_if n most h
 have HQ := Lib.hid hq
 clear hq
 go_enter Tryz.func173, Tryz.ntmps173
 go_wp2
 all_goals
  go_ret
  exact ⟨congrArg Ending.returned (congrArg (Value.int .i64) (by rw [← HQ.out]; split <;> (try split) <;> omega)), rfl⟩
theorem gblankp_any (w : World) : Calls Tryz.prog 127 #[] w fun e w' => e = .returned (.agg #[.int .i32 32, .int .u16 0, .int .u8 0]) ∧ Below w.heap.size w w' := by
 go_enter Tryz.func127, Tryz.ntmps127
 go_wp2
 exact bodyPost_ret (v := .agg #[.int .i32 32, .int .u16 0, .int .u8 0]) (by simp [results, Tryz.results127, go_sem]) rfl ⟨rfl, (Below.refl _ _).alloc (Nat.le_refl _) _⟩
theorem ownp_any (v : Value) (l : List Cl) (w : World) (h : CS w w.heap.size v l) (hl : l.length ≤ 1099511627776) : Calls Tryz.prog 85 #[v] w (CellsPost l w) := by
 have H := Lib.hid h
 obtain ⟨A, c, rfl, h1, h2⟩ := h.form
 clear h
 go_enter Tryz.func85, Tryz.ntmps85
 go_wp2_with (refine wpl_appC _ rfl _ _ rfl w.heap.size w.heap.size (.slice none 0 0) (.slice A l.length c) [] l rfl rfl (OC.nil _ _) H.out (by simp; omega) (Nat.le_refl _) ?_; intro v' w' g1 g2 g3 g4)
 go_ret
 exact ⟨v', rfl, g1, g3⟩
theorem rowOf_any (ad : Addr) (n k c y p : Nat) (w : World) (hp : (y : Int) * (c : Int) = (p : Int)) (hp2 : ((y : Int) + 1) * (c : Int) = (p : Int) + (c : Int)) (hn : p + c ≤ n) (hk : n ≤ k) (hk2 : k ≤ 9223372036854775807) (hc : 1 ≤ c) (hy : y ≤ 1000000) :
  Calls Tryz.prog 86 #[.slice (some ad) n k, .int .i64 (c : Int), .int .i64 (y : Int)] w fun e w' => e = .returned (.slice (some (ad.add (p * 3))) c (k - p)) ∧ w = w' := by
 have hq : p + c - p = c := by omega
 have hne : ¬ k = p := by omega
 go_enter Tryz.func86, Tryz.ntmps86
 go_wp2
 go_ret
 refine ⟨?_, rfl⟩
 show Ending.returned (.slice (some (ad.add (p * 3))) (p + c - p) (k - p)) = _
 rw [hq]
end Go.Proofs.YtlolgfgcgfjdjaaGreatDoor

namespace Go.Proofs.YtlolgfgcgfjdjaaGreatDoor
open Go.RowKit
set_option linter.unusedVariables false
set_option linter.unusedSimpArgs false
set_option maxHeartbeats 400000
set_option maxRecDepth 100000
theorem CS.cut {w : World} {B : Nat} {A : Option Addr} {n c : Nat} {l : List Cl} (h : CS w B (.slice A n c) l) (k m j : Nat) (hk : k + m ≤ l.length) (hj : j = m) :
  CS w B (.slice (if c = k then A else Option.map (fun x => x.add (k * 3)) A) j (c - k)) ((l.drop k).take m) := by
 subst hj
 obtain ⟨A', c', hv, h1, h2, h3⟩ := h
 simp only [Value.slice.injEq] at hv
 obtain ⟨rfl, rfl, rfl⟩ := hv
 have hlen : ((l.drop k).take j).length = j := by simp; omega
 refine ⟨_, c - k, by rw [hlen], by rw [hlen]; omega, by omega, fun hl => ?_⟩
 rw [hlen] at hl
 obtain ⟨ad, rfl, hb, hc⟩ := h3 (by omega)
 rw [if_neg (by omega)]
 refine ⟨ad.add (k * 3), rfl, by rw [block_add]; exact hb, fun i b hi => ?_⟩
 rw [add_add, ← Nat.add_mul]
 refine hc _ b ?_
 rw [List.getElem?_take] at hi
 split at hi
 ·rw [List.getElem?_drop] at hi; exact hi
 ·cases hi
theorem CS.cutH {w : World} {B : Nat} {A : Option Addr} {n c : Nat} {l : List Cl} (h : CS w B (.slice A n c) l) (m j : Nat) (hk : m ≤ l.length) (hj : j = m) :
  CS w B (.slice A j c) (l.take m) := by
 obtain ⟨A', c', hv, h1, h2, h3⟩ := h
 simp only [Value.slice.injEq] at hv
 obtain ⟨rfl, rfl, rfl⟩ := hv
 subst hj
 have hlen : (l.take j).length = j := by simp; omega
 refine ⟨A, c, by rw [hlen], by omega, h2, fun hl => ?_⟩
 rw [hlen] at hl
 obtain ⟨ad, rfl, hb, hc⟩ := h3 (by omega)
 refine ⟨ad, rfl, hb, fun i b hi => ?_⟩
 refine hc _ b ?_
 rw [List.getElem?_take] at hi
 split at hi
 ·exact hi
 ·cases hi
theorem upB_iff (n : Nat) (cols top bottom : Int) : upB n cols top bottom = true ↔ (gOk n cols = true ∧ 0 ≤ top ∧ top ≤ bottom ∧ bottom < (n : Int) / cols) := by
 unfold upB
 rw [decide_eq_true_eq]
 constructor
 ·rintro ⟨a, f, g, h⟩
  exact ⟨a, f, h, g⟩
 ·rintro ⟨a, f, h, g⟩
  exact ⟨a, f, g, h⟩
theorem isGrid_any (v : Value) (l : List Cl) (cols : Int) (w : World) (h : CS w w.heap.size v l) (hl : l.length ≤ 1048576) :
  Calls Tryz.prog 128 #[v, .int .i64 cols] w fun e w' => e = .returned (.bool (gOk l.length cols)) ∧ w = w' := by
 obtain ⟨A, k, rfl, h1, h2⟩ := h.form
 clear h
 have hU : gOk l.length cols = true ↔ (1 ≤ cols ∧ cols ≤ 1000 ∧ (l.length : Int) % cols = 0 ∧ 1 ≤ (l.length : Int) / cols ∧ (l.length : Int) / cols ≤ 1000) := by
  unfold gOk
  rw [decide_eq_true_eq]
 generalize gOk l.length cols = B at hU ⊢
 cases hs : sizeB cols with
 | false =>
  have e : B = false := by
   cases B with
   | false => rfl
   | true =>
    obtain ⟨a, b, -⟩ := hU.1 rfl
    unfold sizeB at hs
    rw [decide_eq_false_iff_not] at hs
    exact absurd ⟨a, b⟩ hs
  subst e
  clear hU
  go_enter Tryz.func128, Tryz.ntmps128
  go_wp2_with ((with_reducible refine (isSize_any _ _).mono ?_); rintro e w' ⟨rfl, rfl⟩)
  go_ret
  exact ⟨rfl, rfl⟩
 | true =>
  have c0 := hs
  unfold sizeB at c0
  rw [decide_eq_true_eq] at c0
  obtain ⟨c1, c2⟩ := c0
  have hz : ¬ cols = 0 := by omega
  have hq0 : 0 ≤ (l.length : Int) / cols := Int.ediv_nonneg (by omega) (by omega)
  have hq1 : (l.length : Int) / cols ≤ l.length := Int.ediv_le_self _ (by omega)
  by_cases g1 : (l.length : Int) % cols = 0
  ·obtain ⟨q, hq⟩ : ∃ q : Nat, (l.length : Int) / cols = (q : Int) := ⟨((l.length : Int) / cols).toNat, by omega⟩
   rw [hq] at hq0 hq1 hU
   have e : B = sizeB (q : Int) := by
    rw [Bool.eq_iff_iff, hU]
    unfold sizeB
    rw [decide_eq_true_eq]
    exact ⟨fun h => h.2.2.2, fun h => ⟨c1, c2, g1, h⟩⟩
   subst e
   clear hU
   go_enter Tryz.func128, Tryz.ntmps128
   go_wp2_with ((with_reducible refine (isSize_any _ _).mono ?_); rintro e w' ⟨rfl, rfl⟩)
   go_ret
   exact ⟨rfl, rfl⟩
  ·have e : B = false := by
    cases B with
    | false => rfl
    | true => exact absurd (hU.1 rfl).2.2.1 g1
   have g5 : ((l.length : Int) % cols == 0) = false := beq_eq_false_iff_ne.2 g1
   subst e
   clear hU
   go_enter Tryz.func128, Tryz.ntmps128
   go_wp2_with ((with_reducible refine (isSize_any _ _).mono ?_); rintro e w' ⟨rfl, rfl⟩)
   go_ret
   exact ⟨rfl, rfl⟩
theorem hasRows_any (v : Value) (l : List Cl) (cols top bottom : Int) (w : World) (h : CS w w.heap.size v l) (hl : l.length ≤ 1048576) :
  Calls Tryz.prog 91 #[v, .int .i64 cols, .int .i64 top, .int .i64 bottom] w fun e w' => e = .returned (.bool (upB l.length cols top bottom)) ∧ w = w' := by
 have hG := isGrid_any v l cols w h hl
 obtain ⟨A, k, rfl, h1, h2⟩ := h.form
 clear h
 have hU := upB_iff l.length cols top bottom
 generalize upB l.length cols top bottom = B at hU ⊢
 cases hs : gOk l.length cols with
 | false =>
  rw [hs] at hG hU
  have e : B = false := by
   cases B with
   | false => rfl
   | true => exact absurd (hU.1 rfl).1 (by decide)
  subst e
  clear hU
  go_enter Tryz.func91, Tryz.ntmps91
  go_wp2_with ((with_reducible refine hG.mono ?_); rintro e w' ⟨rfl, rfl⟩)
  go_ret
  exact ⟨rfl, rfl⟩
 | true =>
  rw [hs] at hG hU
  have c0 := hs
  unfold gOk at c0
  rw [decide_eq_true_eq] at c0
  obtain ⟨c1, c2, c3, c4, c5⟩ := c0
  have hz : ¬ cols = 0 := by omega
  by_cases g2 : 0 ≤ top
  ·by_cases g3 : top ≤ bottom
   ·by_cases g4 : bottom < (l.length : Int) / cols
    ·have e : B = true := hU.2 ⟨rfl, g2, g3, g4⟩
     subst e
     clear hU
     go_enter Tryz.func91, Tryz.ntmps91
     go_wp2_with ((with_reducible refine hG.mono ?_); rintro e w' ⟨rfl, rfl⟩)
     go_ret
     exact ⟨rfl, rfl⟩
    ·have e : B = false := by
      cases B with
      | false => rfl
      | true => exact absurd (hU.1 rfl).2.2.2 g4
     have g5 : decide (bottom < (l.length : Int) / cols) = false := decide_eq_false g4
     subst e
     clear hU
     go_enter Tryz.func91, Tryz.ntmps91
     go_wp2_with ((with_reducible refine hG.mono ?_); rintro e w' ⟨rfl, rfl⟩)
     go_ret
     exact ⟨rfl, rfl⟩
   ·have e : B = false := by
     cases B with
     | false => rfl
     | true => exact absurd (hU.1 rfl).2.2.1 g3
    have g5 : decide (top ≤ bottom) = false := decide_eq_false g3
    subst e
    clear hU
    go_enter Tryz.func91, Tryz.ntmps91
    go_wp2_with ((with_reducible refine hG.mono ?_); rintro e w' ⟨rfl, rfl⟩)
    go_ret
    exact ⟨rfl, rfl⟩
  ·have e : B = false := by
    cases B with
    | false => rfl
    | true => exact absurd (hU.1 rfl).2.1 g2
   have g5 : decide (0 ≤ top) = false := decide_eq_false g2
   subst e
   clear hU
   go_enter Tryz.func91, Tryz.ntmps91
   go_wp2_with ((with_reducible refine hG.mono ?_); rintro e w' ⟨rfl, rfl⟩)
   go_ret
   exact ⟨rfl, rfl⟩
theorem gPlace_up {n : Nat} {cols y x : Int} : gPlace n cols y x = (upB n cols y y && decide (0 ≤ x) && decide (x ≤ cols)) := by
 rw [Bool.eq_iff_iff]
 unfold gPlace upB
 simp only [Bool.and_eq_true, decide_eq_true_eq]
 constructor
 ·rintro ⟨a, b, c, d, e⟩
  exact ⟨⟨⟨a, b, c, Int.le_refl _⟩, d⟩, e⟩
 ·rintro ⟨⟨⟨a, b, c, -⟩, d⟩, e⟩
  exact ⟨a, b, c, d, e⟩
theorem hasPlace_any (v : Value) (l : List Cl) (cols y x : Int) (w : World) (h : CS w w.heap.size v l) (hl : l.length ≤ 1048576) :
  Calls Tryz.prog 176 #[v, .int .i64 cols, .int .i64 y, .int .i64 x] w fun e w' => e = .returned (.bool (gPlace l.length cols y x)) ∧ w = w' := by
 have hr := hasRows_any v l cols y y w h hl
 obtain ⟨A, k, rfl, h1, h2⟩ := h.form
 clear h
 rw [gPlace_up]
 generalize upB l.length cols y y = B at *
 cases B with
 | false =>
  go_enter Tryz.func176, Tryz.ntmps176
  go_wp2_with ((with_reducible refine hr.mono ?_); rintro e w' ⟨rfl, rfl⟩)
  go_ret
  exact ⟨rfl, rfl⟩
 | true =>
  by_cases g2 : 0 ≤ x
  ·by_cases g3 : x ≤ cols
   ·rw [decide_eq_true g2, decide_eq_true g3]
    go_enter Tryz.func176, Tryz.ntmps176
    go_wp2_with ((with_reducible refine hr.mono ?_); rintro e w' ⟨rfl, rfl⟩)
    go_ret
    exact ⟨rfl, rfl⟩
   ·rw [decide_eq_true g2, decide_eq_false g3]
    have g5 : decide (x ≤ cols) = false := decide_eq_false g3
    go_enter Tryz.func176, Tryz.ntmps176
    go_wp2_with ((with_reducible refine hr.mono ?_); rintro e w' ⟨rfl, rfl⟩)
    go_ret
    exact ⟨rfl, rfl⟩
  ·rw [decide_eq_false g2]
   have g5 : decide (0 ≤ x) = false := decide_eq_false g2
   go_enter Tryz.func176, Tryz.ntmps176
   go_wp2_with ((with_reducible refine hr.mono ?_); rintro e w' ⟨rfl, rfl⟩)
   go_ret
   exact ⟨rfl, rfl⟩
end Go.Proofs.YtlolgfgcgfjdjaaGreatDoor

namespace Go.Proofs.YtlolgfgcgfjdjaaGreatDoor
open Go.RowKit
set_option linter.unusedVariables false
set_option linter.unusedSimpArgs false
set_option maxHeartbeats 1000000
set_option maxRecDepth 100000
def AddPost (l : List Cl) (base : Nat) (w : World) (e : Ending) (w' : World) : Prop := ∃ v, e = .returned v ∧ OC w' base v l ∧ Below base w w'
theorem oneBlank (w : World) : OC (w.alloc (.cells #[.int .i32 32, .int .u16 0, .int .u8 0] 50)) w.heap.size (.slice (some ⟨w.heap.size, 0, none⟩) 1 1) [blankC] :=
 World.ownsRow_lit (base := w.heap.size) (e := 50) (size := 3) w #[.int .i32 32, .int .u16 0, .int .u8 0] 1 (Nat.le_refl _) (by simp [maxLen]) rfl
def AdRel (l : List Cl) (base n : Nat) (w : World) (ov iv : Value) (wr : World) : Prop :=
 ∃ m : Nat, m ≤ n ∧ iv = .int .i64 (m : Int) ∧ OC wr base ov (l ++ List.replicate m blankC) ∧ Below base w wr
theorem addBlanks_any (v : Value) (l : List Cl) (n base : Nat) (w : World) (h : OC w base v l) (hb : base ≤ w.heap.size) (hn : n ≤ 1048576) (hl : l.length ≤ 1048576) :
  Calls Tryz.prog 87 #[v, .int .i64 (n : Int)] w (AddPost (l ++ List.replicate n blankC) base w) := by
 have H := Lib.hid h
 obtain ⟨A, c, rfl, h1, h2⟩ := h.cs.form
 clear h
 go_enter Tryz.func87, Tryz.ntmps87
 go_wp2
 go_loopw [0, 6] (fun ov iv wr => AdRel l base n w ov iv wr) (fun _ iv _ => n - (intOf iv).toNat)
 case atStart => exact ⟨0, Nat.zero_le _, rfl, by simpa using H.out, Below.refl _ _⟩
 case round =>
  obtain ⟨m, hm, rfl, ho, hbel⟩ := hrel
  have HB := Lib.hid hbel
  have hz := Nat.le_trans hb hbel.size
  obtain ⟨Ao, co, rfl, p1, p2⟩ := ho.cs.form
  have hN : (l ++ List.replicate m blankC).length = l.length + m := by simp
  rw [hN] at p1
  have HO := Lib.hid (show OC wr base (.slice Ao (l.length + m) co) (l ++ List.replicate m blankC) by rw [← hN]; exact ho)
  rw [hN]
  clear ho hbel hN
  by_cases hlt : m < n
  ·go_wp2_with (first
    | (at_builtin; refine wpl_appC _ rfl (.tmp 8) (.tmp 10) rfl base _ _ _ (l ++ List.replicate m blankC) [blankC] rfl rfl ((HO.out.below hw).alloc _) (oneBlank _).cs (by simp; omega) (by simp; omega) ?_; intro v3 w3 ho3 hg3 hb3 hat3)
    | ((with_reducible refine (gblankp_any _).mono ?_); rintro e w2 ⟨rfl, hw⟩; have z2 := hw.size))
   go_roundw
   case rel =>
    refine ⟨m + 1, hlt, by go_num, ?_, ?_⟩
    ·rw [List.replicate_succ', ← List.append_assoc]
     exact ho3
    ·exact ((HB.out.trans (hw.mono hz)).alloc (by omega) _).trans hb3
   case measure => simp [intOf]; omega
  ·obtain rfl : m = n := by omega
   go_wp2
   go_ret
   exact ⟨_, rfl, HO.out, HB.out⟩
end Go.Proofs.YtlolgfgcgfjdjaaGreatDoor

namespace Go.Proofs.YtlolgfgcgfjdjaaGreatDoor
open Go.RowKit
set_option linter.unusedVariables false
set_option linter.unusedSimpArgs false
set_option maxHeartbeats 2000000
set_option maxRecDepth 100000
theorem step_appC {ops : Array Oper} {o : Oper} {a : Act} {w : World} {K : Act → World → Prop} {Q : Exit → Act → World → Prop} {E : Prop} (hgd : o.guard = none) (s x : Operand)
  (ho : o.op = .call { callee := .builtin .append, args := #[s, x], argTypes := #[24, 24] })
  (base B : Nat) (v u : Value) (l m : List Cl) (hs : a.eval s = v) (hx : a.eval x = u) (hown : OC w base v l) (hr : CS w B u m) (hlen : l.length + m.length ≤ 1099511627776) (hbase : base ≤ w.heap.size)
  (h : ∀ v' w', OC w' base v' (l ++ m) → w.grownBy w' v.ownBlock → Below base w w' → K (a.put o.dst v') w') :
  if Region.wanted o (yielded ops a.tmps) = true then Oper.wp Tryz.prog o a w K Q else E := by
 have hw : Region.wanted o (yielded ops a.tmps) = true := by simp [Region.wanted, hgd]
 rw [if_pos hw]
 obtain ⟨v', w', hrun, h2, h3, h4, h5⟩ := run_appC w o.type hown hr hlen hbase
 unfold Oper.wp execOp
 simp only [ho, resolve, invoke, builtin, Sem.run_bind, Sem.run_pure, Result.andThen_ok, List.map_toArray, List.map_cons, List.map_nil, hs, hx, hrun]
 exact h v' w' h2 h3 h4
theorem run_make0 (w : World) (c : Nat) (hc : c ≤ 1048576) : ∃ w', (Instr.makeSlice 24 (.int .i64 0) (.int .i64 (c : Int))).run Tryz.prog w = .ok (.slice (some ⟨w.heap.size, 0, none⟩) 0 c) w' ∧ OC w' w.heap.size (.slice (some ⟨w.heap.size, 0, none⟩) 0 c) [] ∧ Below w.heap.size w w' := by
 obtain ⟨i0, hi0, hz0, hz1, hz2⟩ := info_parts cellInfo
 obtain ⟨w5, hmk, ho5, hg5⟩ := run_make_own (P := Tryz.prog) w w.heap.size 24 50 i0 _ 3 Tryz.underlying24 hi0 hz0 hz1 .i64 .i64 c (by rw [hz2]; omega) (by unfold maxLen; omega) (Nat.le_refl _)
 exact ⟨w5, hmk, ho5, ⟨hg5.os, hg5.tape, hg5.output, hg5.size, fun i hi => hg5.block i hi (by simp)⟩⟩
def aheadL (l : List Cl) (f t m : Nat) : List Cl := l.take f ++ (l.drop (f + m)).take (t - (f + m)) ++ List.replicate m blankC ++ l.drop t
theorem ahead_any (v : Value) (l : List Cl) (f t d N m e : Nat) (w : World) (h : CS w w.heap.size v l) (hl : l.length ≤ 1048576) (hft : f ≤ t) (htl : t ≤ l.length) (hN : N ≤ 1048576)
  (hd : (t : Int) - (f : Int) = (d : Int)) (hm : (if d < N then (d : Int) else (N : Int)) = (m : Int)) (he : (f : Int) + (m : Int) = (e : Int)) :
  Calls Tryz.prog 172 #[v, .int .i64 (f : Int), .int .i64 (t : Int), .int .i64 (N : Int)] w (CellsPost (aheadL l f t m) w) := by
 obtain ⟨A, k, rfl, h1, h2⟩ := h.form
 have H := Lib.hid h
 have hmd : m ≤ d := by split at hm <;> omega
 have he2 : e = f + m := by omega
 have hme : e ≤ t := by omega
 have hdb : d ≤ 1048576 := by omega
 have hmb : m ≤ 1048576 := by omega
 have HE2 := Lib.hid he2
 obtain ⟨w5, hmk, ho5, hb5⟩ := run_make0 w.drew l.length hl
 have hsz : w.drew.heap.size = w.heap.size := rfl
 have hb5' : Below w.heap.size w w5 := (Below.drew (Below.refl w.heap.size w)).trans hb5
 have hz5 := hb5'.size
 have HO5 := Lib.hid (show OC w5 w.heap.size (.slice (some ⟨w.heap.size, 0, none⟩) 0 l.length) [] from ho5)
 have HB5 := Lib.hid hb5'
 have HC5 := Lib.hid ((h.below hb5').cutH f f (by omega) rfl)
 have hfk : f ≤ k := by omega
 have HFT := Lib.hid (show (l.take f).length = f by simp; omega)
 clear h he2 ho5 hb5 hsz
 go_enter Tryz.func172, Tryz.ntmps172
 go_wp2
 go_region_law (refine step_appC rfl (.tmp 17) (.tmp 20) rfl w.heap.size _ (.slice (some ⟨w.heap.size, 0, none⟩) 0 l.length) (.slice A f k) [] (l.take f) ?_ ?_ HO5.out HC5.out (by simp; omega) hz5 ?_; go_simp; go_simp; intro v6 w6 ho6 hg6 hb6)
 all_goals
  have hb6' : Below w.heap.size w w6 := HB5.out.trans hb6
  have HB6 := Lib.hid hb6'
  have HO6 := Lib.hid (show OC w6 w.heap.size v6 (l.take f) from ho6)
  have HC6 := Lib.hid (((H.out.below hb6').cut e (t - e) (t - e) (by omega) rfl))
  have hz6 := hb6'.size
  obtain ⟨A2, hA2⟩ : ∃ A2, (if k = e then A else Option.map (fun x => x.add (e * 3)) A) = A2 := ⟨_, rfl⟩
  obtain ⟨A3, hA3⟩ : ∃ A3, (if k = t then A else Option.map (fun x => x.add (t * 3)) A) = A3 := ⟨_, rfl⟩
  rw [hA2] at HC6
  have HA3 := Lib.hid hA3
  have htk : t ≤ k := by omega
  have hek : e ≤ k := by omega
  have HT1 := Lib.hid (show ((l.drop e).take (t - e)).length = t - e by simp; omega)
  clear hmk hb5' ho6 hg6 hb6 hb6'
  go_wp2_with (at_builtin; refine wpl_appC _ rfl (.tmp 22) (.tmp 28) rfl w.heap.size _ v6 (.slice A2 (t - e) (k - e)) (l.take f) ((l.drop e).take (t - e)) rfl rfl HO6.out HC6.out (by rw [HT1.out, HFT.out]; omega) hz6 ?_; intro v7 w7 ho7 hg7 hb7 hat7)
  have hb7' : Below w.heap.size w w7 := HB6.out.trans hb7
  have hz7 := hb7'.size
  have HB7 := Lib.hid hb7'
  have HL7 := Lib.hid (show (l.take f ++ (l.drop e).take (t - e)).length = f + (t - e) by rw [List.length_append, HT1.out, HFT.out])
  have HO7 := Lib.hid ho7
  clear ho7 hg7 hb7 hat7 hb7'
  refine (addBlanks_any v7 (l.take f ++ (l.drop e).take (t - e)) m w.heap.size w7 HO7.out hz7 hmb (by rw [HL7.out]; omega)).mono ?_
  rintro x w8 ⟨v8, rfl, ho8, hb8⟩
  have hb8' : Below w.heap.size w w8 := HB7.out.trans hb8
  have hz8 := hb8'.size
  have HB8 := Lib.hid hb8'
  have HO8 := Lib.hid ho8
  have HC8 := Lib.hid (show CS w8 w.heap.size (.slice A3 (l.length - t) (k - t)) (l.drop t) by
   have := (H.out.below hb8').cut t (l.length - t) (l.length - t) (by omega) rfl
   rw [HA3.out, List.take_of_length_le (by simp)] at this
   exact this)
  clear ho8 hb8 hb8'
  go_wp2_with (at_builtin; refine wpl_appC _ rfl (.tmp 33) (.tmp 36) rfl w.heap.size _ v8 (.slice A3 (l.length - t) (k - t)) (l.take f ++ (l.drop e).take (t - e) ++ List.replicate m blankC) (l.drop t) rfl rfl HO8.out HC8.out (by rw [List.length_append, HL7.out]; simp; omega) hz8 ?_; intro v9 w9 ho9 hg9 hb9 hat9)
  go_ret
  refine ⟨_, rfl, ?_, HB8.out.trans hb9⟩
  unfold aheadL
  rw [← HE2.out]
  exact ho9
def backL (l : List Cl) (f t m : Nat) : List Cl := l.take f ++ List.replicate m blankC ++ (l.drop f).take (t - m - f) ++ l.drop t
theorem back_any (v : Value) (l : List Cl) (f t d N m e : Nat) (w : World) (h : CS w w.heap.size v l) (hl : l.length ≤ 1048576) (hft : f ≤ t) (htl : t ≤ l.length) (hN : N ≤ 1048576)
  (hd : (t : Int) - (f : Int) = (d : Int)) (hm : (if d < N then (d : Int) else (N : Int)) = (m : Int)) (he : (t : Int) - (m : Int) = (e : Int)) :
  Calls Tryz.prog 174 #[v, .int .i64 (f : Int), .int .i64 (t : Int), .int .i64 (N : Int)] w (CellsPost (backL l f t m) w) := by
 obtain ⟨A, k, rfl, h1, h2⟩ := h.form
 have H := Lib.hid h
 have hmd : m ≤ d := by split at hm <;> omega
 have he2 : e = t - m := by omega
 have hfe : f ≤ e := by omega
 have hme : e ≤ t := by omega
 have hdb : d ≤ 1048576 := by omega
 have hmb : m ≤ 1048576 := by omega
 have HE2 := Lib.hid he2
 obtain ⟨w5, hmk, ho5, hb5⟩ := run_make0 w.drew l.length hl
 have hsz : w.drew.heap.size = w.heap.size := rfl
 have hb5' : Below w.heap.size w w5 := (Below.drew (Below.refl w.heap.size w)).trans hb5
 have hz5 := hb5'.size
 have HO5 := Lib.hid (show OC w5 w.heap.size (.slice (some ⟨w.heap.size, 0, none⟩) 0 l.length) [] from ho5)
 have HB5 := Lib.hid hb5'
 have HC5 := Lib.hid ((h.below hb5').cutH f f (by omega) rfl)
 have hfk : f ≤ k := by omega
 have HFT := Lib.hid (show (l.take f).length = f by simp; omega)
 clear h he2 ho5 hb5 hsz
 go_enter Tryz.func174, Tryz.ntmps174
 go_wp2
 go_region_law (refine step_appC rfl (.tmp 17) (.tmp 20) rfl w.heap.size _ (.slice (some ⟨w.heap.size, 0, none⟩) 0 l.length) (.slice A f k) [] (l.take f) ?_ ?_ HO5.out HC5.out (by simp; omega) hz5 ?_; go_simp; go_simp; intro v6 w6 ho6 hg6 hb6)
 all_goals
  have hb6' : Below w.heap.size w w6 := HB5.out.trans hb6
  have HB6 := Lib.hid hb6'
  have HO6 := Lib.hid (show OC w6 w.heap.size v6 (l.take f) from ho6)
  have hz6 := hb6'.size
  have htk : t ≤ k := by omega
  have hek : e ≤ k := by omega
  clear hmk hb5' ho6 hg6 hb6 hb6'
  go_wp2_with fail
  refine (addBlanks_any v6 (l.take f) m w.heap.size w6 HO6.out hz6 hmb (by rw [HFT.out]; omega)).mono ?_
  rintro x w7 ⟨v7, rfl, ho7, hb7⟩
  have hb7' : Below w.heap.size w w7 := HB6.out.trans hb7
  have hz7 := hb7'.size
  have HB7 := Lib.hid hb7'
  have HO7 := Lib.hid ho7
  obtain ⟨A2, hA2⟩ : ∃ A2, (if k = f then A else Option.map (fun x => x.add (f * 3)) A) = A2 := ⟨_, rfl⟩
  obtain ⟨A3, hA3⟩ : ∃ A3, (if k = t then A else Option.map (fun x => x.add (t * 3)) A) = A3 := ⟨_, rfl⟩
  have HC7 := Lib.hid (((H.out.below hb7').cut f (e - f) (e - f) (by omega) rfl))
  rw [hA2] at HC7
  have HA3 := Lib.hid hA3
  have HT1 := Lib.hid (show ((l.drop f).take (e - f)).length = e - f by simp; omega)
  have HL7 := Lib.hid (show (l.take f ++ List.replicate m blankC).length = f + m by rw [List.length_append, HFT.out]; simp)
  clear ho7 hb7 hb7'
  go_wp2_with (at_builtin; refine wpl_appC _ rfl (.tmp 25) (.tmp 31) rfl w.heap.size _ v7 (.slice A2 (e - f) (k - f)) (l.take f ++ List.replicate m blankC) ((l.drop f).take (e - f)) rfl rfl HO7.out HC7.out (by rw [HT1.out, HL7.out]; omega) hz7 ?_; intro v8 w8 ho8 hg8 hb8 hat8; have hb8' : Below w.heap.size w w8 := HB7.out.trans hb8; have hz8 := hb8'.size; have HB8 := Lib.hid hb8'; have HO8 := Lib.hid ho8; have HC8 := Lib.hid (show CS w8 w.heap.size (.slice A3 (l.length - t) (k - t)) (l.drop t) from (by have := (H.out.below hb8').cut t (l.length - t) (l.length - t) (by omega) rfl; rw [HA3.out, List.take_of_length_le (by simp)] at this; exact this)); clear ho8 hg8 hb8 hb8' hat8; go_wp2_with (at_builtin; refine wpl_appC _ rfl (.tmp 33) (.tmp 36) rfl w.heap.size _ v8 (.slice A3 (l.length - t) (k - t)) (l.take f ++ List.replicate m blankC ++ (l.drop f).take (e - f)) (l.drop t) rfl rfl HO8.out HC8.out (by rw [List.length_append, HL7.out, HT1.out]; simp; omega) hz8 ?_; intro v9 w9 ho9 hg9 hb9 hat9))
  go_ret
  refine ⟨_, rfl, ?_, HB8.out.trans hb9⟩
  unfold backL
  rw [← HE2.out]
  exact ho9
end Go.Proofs.YtlolgfgcgfjdjaaGreatDoor

namespace Go.Proofs.YtlolgfgcgfjdjaaGreatDoor
open Go.RowKit
set_option linter.unusedVariables false
set_option linter.unusedSimpArgs false
set_option maxHeartbeats 4000000
set_option maxRecDepth 100000
theorem OC.at3 {w : World} {base g n cap : Nat} {l : List Cl} (h : OC w base (.slice (some ⟨g, 0, none⟩) n cap) l) (q Q : Nat) (c : Cl) (hc : l[q]? = some c) (hQ : q * 3 = Q) :
  w.cell? ⟨g, Q, none⟩ = some (.int .i32 c.r) ∧ w.cell? ⟨g, Q + 1, none⟩ = some (.int .u16 (c.a : Int)) ∧ w.cell? ⟨g, Q + 2, none⟩ = some (.int .u8 (c.h : Int)) ∧ w.frozen? ⟨g, Q, none⟩ = false ∧ w.frozen? ⟨g, Q + 1, none⟩ = false ∧ w.frozen? ⟨g, Q + 2, none⟩ = false := by
 obtain rfl := h.len
 subst hQ
 obtain ⟨a, b, d⟩ := h.threeAt q c hc
 exact ⟨a, b, d, h.frozenAt _, h.frozenAt _, h.frozenAt _⟩
theorem mend_at {l : List Cl} {f : Nat → Cl} {lo q i : Nat} (hi : i < l.length) (hq : q ≤ i) : (fillL l f lo q)[i]? = some (getC l i) := by
 rw [fillL_get, if_pos hi, if_neg (by omega)]
 exact getC_of hi
theorem mend_prev {l : List Cl} {c y x : Nat} (hx : x < c) (hx0 : 1 ≤ x) (hl : y * c + c ≤ l.length) (h2 : (getC l (y * c + x)).h = 2) :
  ∃ d, (fillL l (mendF l c) (y * c) (y * c + x))[y * c + x - 1]? = some d ∧ (d.h = 1 ↔ (getC l (y * c + x - 1)).h = 1) := by
 have hdv := rc_div y c (x - 1) (by omega)
 rw [show y * c + (x - 1) = y * c + x - 1 by omega] at hdv
 rw [fillL_get, if_pos (by omega), if_pos (by omega)]
 refine ⟨_, rfl, ?_⟩
 unfold mendF
 rw [hdv.2]
 by_cases h1 : (getC l (y * c + x - 1)).h = 1
 ·have hb : badH l c (y * c + x - 1) (x - 1) = false := by
   unfold badH
   rw [h1, show y * c + x - 1 + 1 = y * c + x by omega, h2]
   simp
   omega
  rw [hb, if_neg (by decide)]
 ·constructor
  ·intro h
   split at h
   ·exact absurd h (by decide)
   ·exact h
  ·intro h
   exact absurd h h1
def MdRel (l : List Cl) (c y : Nat) (w : World) (base g n cap : Nat) (i : Value) (wr : World) : Prop :=
 ∃ x : Nat, x ≤ c ∧ i = .int .i64 (x : Int) ∧ OC wr base (.slice (some ⟨g, 0, none⟩) n cap) (fillL l (mendF l c) (y * c) (y * c + x)) ∧ Below base w wr
def MdPost (l : List Cl) (base : Nat) (v : Value) (w : World) (e : Ending) (w' : World) : Prop := e = .returned (.tuple #[]) ∧ OC w' base v l ∧ Below base w w'
theorem mend_put {W : World} {base g n cap c y x Q : Nat} {l : List Cl} (h : OC W base (.slice (some ⟨g, 0, none⟩) n cap) (fillL l (mendF l c) (y * c) (y * c + x))) (hx : x < c) (hl : y * c + c ≤ l.length) (hQ : (y * c + x) * 3 = Q) (hbad : badH l c (y * c + x) x = true) :
  OC (((W.setCell ⟨g, Q, none⟩ (.int .i32 32)).setCell ⟨g, Q + 1, none⟩ (.int .u16 0)).setCell ⟨g, Q + 2, none⟩ (.int .u8 0)) base (.slice (some ⟨g, 0, none⟩) n cap) (fillL l (mendF l c) (y * c) (y * c + (x + 1))) := by
 have hn := h.len
 rw [fillL_len] at hn
 have e : blankC = mendF l c (y * c + x) := by
  unfold mendF
  rw [(rc_div y c x hx).2, hbad]
  rfl
 have := h.put (y * c + x) (by omega) blankC
 rw [fillL_set _ _ _ _ _ (by omega) e, hQ] at this
 exact this
theorem mend_stay {W : World} {base g n cap c y x : Nat} {l : List Cl} (h : OC W base (.slice (some ⟨g, 0, none⟩) n cap) (fillL l (mendF l c) (y * c) (y * c + x))) (hx : x < c) (hl : y * c + c ≤ l.length) (hbad : badH l c (y * c + x) x = false) :
  OC W base (.slice (some ⟨g, 0, none⟩) n cap) (fillL l (mendF l c) (y * c) (y * c + (x + 1))) := by
 have e : l[y * c + x]? = some (mendF l c (y * c + x)) := by
  unfold mendF
  rw [(rc_div y c x hx).2, hbad]
  exact getC_of (by omega)
 rw [← Nat.add_assoc, ← fillL_skip _ _ _ _ e]
 exact h
theorem mend_any (l : List Cl) (c y base g n cap P K : Nat) (w : World) (h : OC w base (.slice (some ⟨g, 0, none⟩) n cap) l) (hb : base ≤ w.heap.size) (hl : y * c + c ≤ l.length) (hlen : l.length ≤ 1048576) (c1 : 1 ≤ c) (c2 : c ≤ 1000)
  (hP : P = y * c * 3) (hK : c ≤ K) (hK2 : K ≤ 9223372036854775807) :
  Calls Tryz.prog 88 #[.slice (some ⟨g, P, none⟩) c K] w (MdPost (fillL l (mendF l c) (y * c) (y * c + c)) base (.slice (some ⟨g, 0, none⟩) n cap) w) := by
 have H := Lib.hid h
 have HP := Lib.hid hP
 have hbg := h.block.1
 clear h hP
 go_enter Tryz.func88, Tryz.ntmps88
 go_wp2
 go_loopw [6] (fun i wr => MdRel l c y w base g n cap i wr) (fun i _ => c - (intOf i).toNat)
 case atStart => exact ⟨0, Nat.zero_le _, rfl, by rw [fillL_none _ _ _ _ (by omega)]; exact H.out, Below.refl _ _⟩
 case round =>
  generalize wr = w3 at *
  obtain ⟨x, hx, rfl, ho, hbel⟩ := hrel
  have HO := Lib.hid ho
  have HB := Lib.hid hbel
  have hz3 := Nat.le_trans hb hbel.size
  have hg3 := ho.block.2
  by_cases hxc : x < c
  ·have hxc2 : (x : Int) < (c : Int) := by omega
   have hq : (y * c + x) * 3 = P + x * 3 := by rw [HP.out]; omega
   obtain ⟨t0, t1, t2, f0, f1, f2⟩ := ho.at3 _ _ _ (mend_at (show y * c + x < l.length by omega) (Nat.le_refl _)) hq
   have HQ := Lib.hid hq
   clear ho hbel hq
   have hgd : ∃ d, d = getC l (y * c + x) := ⟨_, rfl⟩
   obtain ⟨d, hd⟩ := hgd
   rw [← hd] at t0 t1 t2
   have HO1 := Lib.hid (HO.out.alloc (.cells #[.int .i32 d.r, .int .u16 (d.a : Int), .int .u8 (d.h : Int)] 50))
   have HB1 := Lib.hid (HB.out.alloc hz3 (.cells #[.int .i32 d.r, .int .u16 (d.a : Int), .int .u8 (d.h : Int)] 50))
   have KC := Lib.hid (show (w3.alloc (.cells #[.int .i32 d.r, .int .u16 (d.a : Int), .int .u8 (d.h : Int)] 50)).heap[w3.heap.size]? = some (.cells #[.int .i32 d.r, .int .u16 (d.a : Int), .int .u8 (d.h : Int)] 50) by
    show (w3.heap.push _)[w3.heap.size]? = _
    simp)
   have HD := Lib.hid hd
   clear hd
   go_upto_region 3 with fail
   generalize World.alloc w3 _ = W at HO1 HB1 KC ⊢
   generalize w3.heap.size = sb at *
   clear t0 t1 t2 f0 f1 f2
   have k2 : W.cell? ⟨sb, 2, none⟩ = some (.int .u8 (d.h : Int)) := by rw [cell_of_row W sb 2 _ _ _ KC.out]; rfl
   have hsW : sb < W.heap.size := by
    rcases Nat.lt_or_ge sb W.heap.size with a | a
    ·exact a
    ·have := KC.out; rw [Array.getElem?_eq_none a] at this; cases this
   have hz1 := HB1.out.size
   by_cases h1 : d.h = 1
   ·rw [h1] at k2
    by_cases h2 : x + 1 = c
    ·have hbad : badH l c (y * c + x) x = true := by unfold badH; rw [← HD.out, h1]; simp [h2]
     have HBAD := Lib.hid hbad
     have e1 : ((x : Int) + 1 == (c : Int)) = true := by simp; omega
     have e2 : (x : Int) + 1 = (c : Int) := by omega
     clear hbad
     have HE2 := Lib.hid e2
     have H2 := Lib.hid h2
     clear e2 h1 h2
     go_wp2_with ((with_reducible refine (gblankp_any _).mono ?_); rintro e w2 ⟨rfl, hw⟩; have z2 := hw.size; have HW := Lib.hid hw; obtain ⟨s0, s1, s2, f0, f1, f2⟩ := (HO1.out.below hw).at3 _ _ _ (mend_at (show y * c + x < l.length by omega) (Nat.le_refl _)) HQ.out; clear hw)
     go_roundw
     case rel => exact ⟨x + 1, by omega, by go_num, mend_put (HO1.out.below HW.out) hxc hl HQ.out HBAD.out, below_put (HB1.out.trans (HW.out.mono (by omega))) hbg _ _ _ _⟩
     case measure => simp [intOf]; omega
    ·have e1 : ((x : Int) + 1 == (c : Int)) = false := by simp; omega
     have e2 : ¬ (x : Int) + 1 = (c : Int) := by omega
     have hx1 : x + 1 < c := by omega
     obtain ⟨d2, hd2⟩ : ∃ d2, d2 = getC l (y * c + x + 1) := ⟨_, rfl⟩
     have n0 := HO1.out.at3 _ (P + (x + 1) * 3) _ (mend_at (show y * c + x + 1 < l.length by omega) (by omega)) (by have := HQ.out; omega)
     rw [← hd2] at n0
     obtain ⟨-, -, n2, -⟩ := n0
     have HD2 := Lib.hid hd2
     clear hd2
     by_cases h3 : d2.h = 2
     ·have HBAD := Lib.hid (show badH l c (y * c + x) x = false by unfold badH; rw [← HD.out, ← HD2.out, h1, h3]; simp [h2])
      rw [h3] at n2
      clear h1 h2 h3
      go_wp2
      go_roundw
      case rel => exact ⟨x + 1, by omega, by go_num, mend_stay HO1.out hxc hl HBAD.out, HB1.out⟩
      case measure => simp [intOf]; omega
     ·have HBAD := Lib.hid (show badH l c (y * c + x) x = true by unfold badH; rw [← HD.out, ← HD2.out, h1]; simp [h2, h3])
      have e3 : ((d2.h : Int) != 2) = true := by simp; omega
      have e4 : ¬ (d2.h : Int) = 2 := by omega
      clear h1 h2 h3
      go_wp2_with ((with_reducible refine (gblankp_any _).mono ?_); rintro e w2 ⟨rfl, hw⟩; have z2 := hw.size; have HW := Lib.hid hw; obtain ⟨s0, s1, s2, f0, f1, f2⟩ := (HO1.out.below hw).at3 _ _ _ (mend_at (show y * c + x < l.length by omega) (Nat.le_refl _)) HQ.out; clear hw)
      go_roundw
      case rel => exact ⟨x + 1, by omega, by go_num, mend_put (HO1.out.below HW.out) hxc hl HQ.out HBAD.out, below_put (HB1.out.trans (HW.out.mono (by omega))) hbg _ _ _ _⟩
      case measure => simp [intOf]; omega
   ·have g1 : ((d.h : Int) == 1) = false := by simp; omega
    have g2 : ¬ (d.h : Int) = 1 := by omega
    by_cases h2 : d.h = 2
    ·rw [h2] at k2
     clear g1 g2
     by_cases h3 : x = 0
     ·have HBAD := Lib.hid (show badH l c (y * c + x) x = true by unfold badH; rw [← HD.out, h2]; simp [h3])
      have e1 : ((x : Int) == 0) = true := by simp; omega
      have e2 : (x : Int) = 0 := by omega
      have HE2 := Lib.hid e2
      have H3 := Lib.hid h3
      clear h1 h2 h3 e2
      go_wp2_with ((with_reducible refine (gblankp_any _).mono ?_); rintro e w2 ⟨rfl, hw⟩; have z2 := hw.size; have HW := Lib.hid hw; obtain ⟨s0, s1, s2, f0, f1, f2⟩ := (HO1.out.below hw).at3 _ _ _ (mend_at (show y * c + x < l.length by omega) (Nat.le_refl _)) HQ.out; clear hw)
      go_roundw
      case rel => exact ⟨x + 1, by omega, by go_num, mend_put (HO1.out.below HW.out) hxc hl HQ.out HBAD.out, below_put (HB1.out.trans (HW.out.mono (by omega))) hbg _ _ _ _⟩
      case measure => simp [intOf]; omega
     ·have e1 : ((x : Int) == 0) = false := by simp; omega
      have e2 : ¬ (x : Int) = 0 := by omega
      have hx1 : 1 ≤ x := by omega
      obtain ⟨d2, hd2, hd3⟩ := mend_prev hxc hx1 hl (by rw [← HD.out]; exact h2)
      obtain ⟨-, -, n2, -⟩ := HO1.out.at3 _ (P + (x - 1) * 3) _ hd2 (by have := HQ.out; omega)
      have HD3 := Lib.hid hd3
      clear hd2 hd3
      by_cases h4 : d2.h = 1
      ·have HBAD := Lib.hid (show badH l c (y * c + x) x = false by unfold badH; rw [← HD.out, h2, HD3.out.1 h4]; simp [h3])
       rw [h4] at n2
       clear h1 h2 h3 h4
       go_wp2
       go_roundw
       case rel => exact ⟨x + 1, by omega, by go_num, mend_stay HO1.out hxc hl HBAD.out, HB1.out⟩
       case measure => simp [intOf]; omega
      ·have HBAD := Lib.hid (show badH l c (y * c + x) x = true by unfold badH; rw [← HD.out, h2]; have h5 : ¬ (getC l (y * c + x - 1)).h = 1 := fun h => h4 (HD3.out.2 h); simp [h3, h5])
       have e3 : ((d2.h : Int) != 1) = true := by simp; omega
       have e4 : ¬ (d2.h : Int) = 1 := by omega
       clear h1 h2 h3 h4
       go_wp2_with ((with_reducible refine (gblankp_any _).mono ?_); rintro e w2 ⟨rfl, hw⟩; have z2 := hw.size; have HW := Lib.hid hw; obtain ⟨s0, s1, s2, f0, f1, f2⟩ := (HO1.out.below hw).at3 _ _ _ (mend_at (show y * c + x < l.length by omega) (Nat.le_refl _)) HQ.out; clear hw)
       go_roundw
       case rel => exact ⟨x + 1, by omega, by go_num, mend_put (HO1.out.below HW.out) hxc hl HQ.out HBAD.out, below_put (HB1.out.trans (HW.out.mono (by omega))) hbg _ _ _ _⟩
       case measure => simp [intOf]; omega
    ·have HBAD := Lib.hid (show badH l c (y * c + x) x = false by unfold badH; rw [← HD.out]; simp [h1, h2])
     have g3 : ((d.h : Int) == 2) = false := by simp; omega
     have g4 : ¬ (d.h : Int) = 2 := by omega
     clear h1 h2
     go_wp2
     go_roundw
     case rel => exact ⟨x + 1, by omega, by go_num, mend_stay HO1.out hxc hl HBAD.out, HB1.out⟩
     case measure => simp [intOf]; omega
  ·obtain rfl : c = x := by omega
   clear ho hbel
   go_wp2
   go_end0
   exact ⟨rfl, HO.out, HB.out⟩
end Go.Proofs.YtlolgfgcgfjdjaaGreatDoor

namespace Go.Proofs.YtlolgfgcgfjdjaaGreatDoor
set_option linter.unusedVariables false
set_option linter.unusedSimpArgs false
set_option maxHeartbeats 400000
set_option maxRecDepth 100000
theorem getC_app {a b : List Cl} (i : Nat) : getC (a ++ b) i = if i < a.length then getC a i else getC b (i - a.length) := by
 unfold getC List.getD
 rw [List.getElem?_append]
 split <;> rfl
theorem getC_take {a : List Cl} (n i : Nat) (h : i < n) : getC (a.take n) i = getC a i := by
 unfold getC List.getD
 rw [List.getElem?_take, if_pos h]
theorem getC_drop {a : List Cl} (n i : Nat) : getC (a.drop n) i = getC a (n + i) := by
 unfold getC List.getD
 rw [List.getElem?_drop]
theorem fill_congr {l : List Cl} {f g : Nat → Cl} {lo hi : Nat} (h : ∀ i, lo ≤ i → i < hi → f i = g i) : fillL l f lo hi = fillL l g lo hi := by
 refine getC_ext (by rw [fillL_len, fillL_len]) (fun i hi2 => ?_)
 rw [fill_getC, fill_getC]
 split
 ·rename_i hh
  exact h i hh.2.1 hh.2.2
 ·rfl
theorem aheadL_fill (l : List Cl) (f t M m : Nat) (hft : f ≤ t) (htl : t ≤ l.length) (hm : m = min (t - f) M) : aheadL l f t m = fillL l (fun i => if i + M < t then getC l (i + M) else blankC) f t := by
 have e1 : (l.take f).length = f := by simp; omega
 have e2 : ((l.drop (f + m)).take (t - (f + m))).length = t - (f + m) := by simp; omega
 have e3 : (l.take f ++ (l.drop (f + m)).take (t - (f + m))).length = t - m := by rw [List.length_append, e1, e2]; omega
 have e4 : (l.take f ++ (l.drop (f + m)).take (t - (f + m)) ++ List.replicate m blankC).length = t := by rw [List.length_append, e3, List.length_replicate]; omega
 refine getC_ext ?_ (fun i hi => ?_)
 ·rw [fillL_len]
  unfold aheadL
  rw [List.length_append, e4]
  simp
  omega
 ·rw [fillL_len] at hi
  rw [fill_getC]
  unfold aheadL
  rw [getC_app, e4]
  by_cases h1 : i < t
  ·rw [if_pos h1, getC_app, e3]
   by_cases h2 : i < t - m
   ·rw [if_pos h2, getC_app, e1]
    by_cases h3 : i < f
    ·rw [if_pos h3, getC_take _ _ h3, if_neg (by omega)]
    ·rw [if_neg h3, getC_take _ _ (by omega), getC_drop, if_pos ⟨hi, by omega, h1⟩]
     have hM : M = m := by omega
     subst hM
     rw [if_pos (by omega), show f + M + (i - f) = i + M by omega]
   ·rw [if_neg h2, if_pos ⟨hi, by omega, h1⟩, if_neg (by omega)]
    exact getC_rep _ _
  ·rw [if_neg h1, getC_drop, if_neg (by omega), show t + (i - t) = i by omega]
theorem backL_fill (l : List Cl) (f t M m : Nat) (hft : f ≤ t) (htl : t ≤ l.length) (hm : m = min (t - f) M) : backL l f t m = fillL l (fun i => if f + M ≤ i then getC l (i - M) else blankC) f t := by
 have e1 : (l.take f).length = f := by simp; omega
 have e2 : (l.take f ++ List.replicate m blankC).length = f + m := by rw [List.length_append, e1, List.length_replicate]
 have e3 : ((l.drop f).take (t - m - f)).length = t - m - f := by simp; omega
 have e4 : (l.take f ++ List.replicate m blankC ++ (l.drop f).take (t - m - f)).length = t := by rw [List.length_append, e2, e3]; omega
 refine getC_ext ?_ (fun i hi => ?_)
 ·rw [fillL_len]
  unfold backL
  rw [List.length_append, e4]
  simp
  omega
 ·rw [fillL_len] at hi
  rw [fill_getC]
  unfold backL
  rw [getC_app, e4]
  by_cases h1 : i < t
  ·rw [if_pos h1, getC_app, e2]
   by_cases h2 : i < f + m
   ·rw [if_pos h2, getC_app, e1]
    by_cases h3 : i < f
    ·rw [if_pos h3, getC_take _ _ h3, if_neg (by omega)]
    ·rw [if_neg h3, if_pos ⟨hi, by omega, h1⟩, if_neg (by omega)]
     exact getC_rep _ _
   ·rw [if_neg h2, getC_take _ _ (by omega), getC_drop, if_pos ⟨hi, by omega, h1⟩]
    have hM : M = m := by omega
    subst hM
    rw [if_pos (by omega), show f + (i - (f + M)) = i - M by omega]
  ·rw [if_neg h1, getC_drop, if_neg (by omega), show t + (i - t) = i by omega]
theorem ahead_up {l : List Cl} {r c : Nat} (hg : GOk l.length r c) (top bottom M m : Nat) (htb : top ≤ bottom) (hb : bottom < r) (hm : m = min ((bottom + 1) * c - top * c) (M * c)) :
  aheadL l (top * c) ((bottom + 1) * c) m = fillL l (upF l c bottom M) (top * c) ((bottom + 1) * c) := by
 have h1 : top * c ≤ (bottom + 1) * c := Nat.mul_le_mul_right _ (by omega)
 have h2 : (bottom + 1) * c ≤ l.length := by rw [hg.n]; exact Nat.mul_le_mul_right _ hb
 rw [aheadL_fill l _ _ (M * c) m h1 h2 hm]
 refine fill_congr fun i _ _ => ?_
 unfold upF
 have hc := hg.c1
 refine ite_iff ?_ _ _
 have e : i / c + M = (i + M * c) / c := by rw [Nat.add_mul_div_right _ _ (by omega)]
 rw [e, ← Nat.lt_succ_iff, Nat.div_lt_iff_lt_mul (by omega)]
theorem back_down {l : List Cl} {r c : Nat} (hg : GOk l.length r c) (top bottom M m : Nat) (htb : top ≤ bottom) (hb : bottom < r) (hm : m = min ((bottom + 1) * c - top * c) (M * c)) :
  backL l (top * c) ((bottom + 1) * c) m = fillL l (downF l c top M) (top * c) ((bottom + 1) * c) := by
 have h1 : top * c ≤ (bottom + 1) * c := Nat.mul_le_mul_right _ (by omega)
 have h2 : (bottom + 1) * c ≤ l.length := by rw [hg.n]; exact Nat.mul_le_mul_right _ hb
 rw [backL_fill l _ _ (M * c) m h1 h2 hm]
 refine fill_congr fun i _ _ => ?_
 unfold downF
 have hc := hg.c1
 refine ite_iff ?_ _ _
 rw [Nat.le_div_iff_mul_le (by omega), Nat.add_mul]
theorem back_ins (l : List Cl) (f t M m : Nat) (hft : f ≤ t) (htl : t ≤ l.length) (hm : m = min (t - f) M) : backL l f t m = fillL l (insF l f M) f t := backL_fill l f t M m hft htl hm
theorem ahead_del (l : List Cl) (f t M m : Nat) (hft : f ≤ t) (htl : t ≤ l.length) (hm : m = min (t - f) M) : aheadL l f t m = fillL l (delF l t M) f t := aheadL_fill l f t M m hft htl hm
end Go.Proofs.YtlolgfgcgfjdjaaGreatDoor

namespace Go.Proofs.YtlolgfgcgfjdjaaGreatDoor
open Go.RowKit
set_option linter.unusedVariables false
set_option linter.unusedSimpArgs false
set_option maxHeartbeats 1000000
set_option maxRecDepth 100000
theorem upB_of {n : Nat} {cols top bottom : Int} (h : upB n cols top bottom = true) : ∃ r c a b : Nat, cols = c ∧ top = a ∧ bottom = b ∧ GOk n r c ∧ a ≤ b ∧ b < r := by
 unfold upB at h
 rw [decide_eq_true_eq] at h
 obtain ⟨h1, h2, h3, h4⟩ := h
 obtain ⟨r, c, rfl, hG⟩ := gOk_of h1
 rw [hG.quo.1] at h3
 exact ⟨r, c, top.toNat, bottom.toNat, rfl, by omega, by omega, hG, by omega, by omega⟩
theorem upL_if (l : List Cl) (cols top bottom n : Int) : upL l cols top bottom n = if upB l.length cols top bottom = true then fillL l (upF l cols.toNat bottom.toNat (capN n)) (top.toNat * cols.toNat) ((bottom.toNat + 1) * cols.toNat) else l := by
 unfold upL upB
 simp only [decide_eq_true_eq]
theorem downL_if (l : List Cl) (cols top bottom n : Int) : downL l cols top bottom n = if upB l.length cols top bottom = true then fillL l (downF l cols.toNat top.toNat (capN n)) (top.toNat * cols.toNat) ((bottom.toNat + 1) * cols.toNat) else l := by
 unfold downL upB
 simp only [decide_eq_true_eq]
theorem capC_N (n : Int) : capC n 1000 = capN n := rfl
theorem gup_yes (v : Value) (l : List Cl) (r c a b : Nat) (n : Int) (w : World) (h : CS w w.heap.size v l) (hl : l.length ≤ 1048576) (hg : GOk l.length r c) (hab : a ≤ b) (hbr : b < r) :
  Calls Tryz.prog 158 #[v, .int .i64 (c : Int), .int .i64 (a : Int), .int .i64 (b : Int), .int .i64 n] w (CellsPost (fillL l (upF l c b (capN n)) (a * c) ((b + 1) * c)) w) := by
 have hU := hasRows_any v l c a b w h hl
 have hB : upB l.length (c : Int) (a : Int) (b : Int) = true := by
  unfold upB
  rw [decide_eq_true_eq, hg.ok, hg.quo.1]
  exact ⟨rfl, by omega, by omega, by omega⟩
 rw [hB] at hU
 have hN := nearest_any n 1000 w (by decide)
 rw [capC_N] at hN
 have hM := capN_le n
 have hup := fun m => ahead_up hg a b (capN n) m hab hbr
 generalize capN n = M at *
 obtain ⟨f, hf⟩ : ∃ f : Nat, f = a * c := ⟨_, rfl⟩
 obtain ⟨t, ht⟩ : ∃ t : Nat, t = (b + 1) * c := ⟨_, rfl⟩
 obtain ⟨N, hNN⟩ : ∃ N : Nat, N = M * c := ⟨_, rfl⟩
 have q1 : (a : Int) * (c : Int) = (f : Int) := by rw [hf]; simp
 have q2 : ((b : Int) + 1) * (c : Int) = (t : Int) := by rw [ht]; simp
 have q3 : (M : Int) * (c : Int) = (N : Int) := by rw [hNN]; simp
 have hft : f ≤ t := by rw [hf, ht]; exact Nat.mul_le_mul_right _ (by omega)
 have htl : t ≤ l.length := by rw [ht, hg.n]; exact Nat.mul_le_mul_right _ hbr
 have hNb : N ≤ 1000000 := by rw [hNN]; exact rc_le hM hg.c2
 have hup' := hup (min (t - f) N) (by rw [hf, ht, hNN])
 rw [← hf, ← ht] at hup' ⊢
 have c2 := hg.c2
 have r2 := hg.r2
 have hA := ahead_any v l f t (t - f) N (min (t - f) N) (f + min (t - f) N) w h (by omega) hft htl (by omega) (by omega) (by split <;> omega) (by omega)
 rw [hup'] at hA
 obtain ⟨A, k, rfl, h1, h2⟩ := h.form
 clear h hg hB hup hup' hf ht hNN
 go_enter Tryz.func158, Tryz.ntmps158
 go_wp2_with (first
  | ((with_reducible refine hU.mono ?_); rintro e w' ⟨rfl, rfl⟩)
  | ((with_reducible refine hN.mono ?_); rintro e w' ⟨rfl, rfl⟩)
  | ((with_reducible refine hA.mono ?_); rintro e w' ⟨v', rfl, ho, hb⟩))
 go_ret
 exact ⟨_, rfl, ho, hb⟩
theorem gup_no (v : Value) (l : List Cl) (cols top bottom n : Int) (w : World) (h : CS w w.heap.size v l) (hl : l.length ≤ 1048576) (hB : upB l.length cols top bottom = false) :
  Calls Tryz.prog 158 #[v, .int .i64 cols, .int .i64 top, .int .i64 bottom, .int .i64 n] w (CellsPost l w) := by
 have hU := hasRows_any v l cols top bottom w h hl
 rw [hB] at hU
 have hO := ownp_any v l w h (by omega)
 obtain ⟨A, k, rfl, h1, h2⟩ := h.form
 clear h hB
 go_enter Tryz.func158, Tryz.ntmps158
 go_wp2_with (first
  | ((with_reducible refine hU.mono ?_); rintro e w' ⟨rfl, rfl⟩)
  | ((with_reducible refine hO.mono ?_); rintro e w' ⟨v', rfl, ho, hb⟩))
 go_ret
 exact ⟨_, rfl, ho, hb⟩
theorem gdown_yes (v : Value) (l : List Cl) (r c a b : Nat) (n : Int) (w : World) (h : CS w w.heap.size v l) (hl : l.length ≤ 1048576) (hg : GOk l.length r c) (hab : a ≤ b) (hbr : b < r) :
  Calls Tryz.prog 159 #[v, .int .i64 (c : Int), .int .i64 (a : Int), .int .i64 (b : Int), .int .i64 n] w (CellsPost (fillL l (downF l c a (capN n)) (a * c) ((b + 1) * c)) w) := by
 have hU := hasRows_any v l c a b w h hl
 have hB : upB l.length (c : Int) (a : Int) (b : Int) = true := by
  unfold upB
  rw [decide_eq_true_eq, hg.ok, hg.quo.1]
  exact ⟨rfl, by omega, by omega, by omega⟩
 rw [hB] at hU
 have hN := nearest_any n 1000 w (by decide)
 rw [capC_N] at hN
 have hM := capN_le n
 have hup := fun m => back_down hg a b (capN n) m hab hbr
 generalize capN n = M at *
 obtain ⟨f, hf⟩ : ∃ f : Nat, f = a * c := ⟨_, rfl⟩
 obtain ⟨t, ht⟩ : ∃ t : Nat, t = (b + 1) * c := ⟨_, rfl⟩
 obtain ⟨N, hNN⟩ : ∃ N : Nat, N = M * c := ⟨_, rfl⟩
 have q1 : (a : Int) * (c : Int) = (f : Int) := by rw [hf]; simp
 have q2 : ((b : Int) + 1) * (c : Int) = (t : Int) := by rw [ht]; simp
 have q3 : (M : Int) * (c : Int) = (N : Int) := by rw [hNN]; simp
 have hft : f ≤ t := by rw [hf, ht]; exact Nat.mul_le_mul_right _ (by omega)
 have htl : t ≤ l.length := by rw [ht, hg.n]; exact Nat.mul_le_mul_right _ hbr
 have hNb : N ≤ 1000000 := by rw [hNN]; exact rc_le hM hg.c2
 have hup' := hup (min (t - f) N) (by rw [hf, ht, hNN])
 rw [← hf, ← ht] at hup' ⊢
 have c2 := hg.c2
 have r2 := hg.r2
 have hA := back_any v l f t (t - f) N (min (t - f) N) (t - min (t - f) N) w h (by omega) hft htl (by omega) (by omega) (by split <;> omega) (by omega)
 rw [hup'] at hA
 obtain ⟨A, k, rfl, h1, h2⟩ := h.form
 clear h hg hB hup hup' hf ht hNN
 go_enter Tryz.func159, Tryz.ntmps159
 go_wp2_with (first
  | ((with_reducible refine hU.mono ?_); rintro e w' ⟨rfl, rfl⟩)
  | ((with_reducible refine hN.mono ?_); rintro e w' ⟨rfl, rfl⟩)
  | ((with_reducible refine hA.mono ?_); rintro e w' ⟨v', rfl, ho, hb⟩))
 go_ret
 exact ⟨_, rfl, ho, hb⟩
theorem gdown_no (v : Value) (l : List Cl) (cols top bottom n : Int) (w : World) (h : CS w w.heap.size v l) (hl : l.length ≤ 1048576) (hB : upB l.length cols top bottom = false) :
  Calls Tryz.prog 159 #[v, .int .i64 cols, .int .i64 top, .int .i64 bottom, .int .i64 n] w (CellsPost l w) := by
 have hU := hasRows_any v l cols top bottom w h hl
 rw [hB] at hU
 have hO := ownp_any v l w h (by omega)
 obtain ⟨A, k, rfl, h1, h2⟩ := h.form
 clear h hB
 go_enter Tryz.func159, Tryz.ntmps159
 go_wp2_with (first
  | ((with_reducible refine hU.mono ?_); rintro e w' ⟨rfl, rfl⟩)
  | ((with_reducible refine hO.mono ?_); rintro e w' ⟨v', rfl, ho, hb⟩))
 go_ret
 exact ⟨_, rfl, ho, hb⟩
end Go.Proofs.YtlolgfgcgfjdjaaGreatDoor

namespace Go.Proofs.YtlolgfgcgfjdjaaGreatDoor
open Go.RowKit
set_option linter.unusedVariables false
set_option linter.unusedSimpArgs false
set_option maxHeartbeats 1000000
set_option maxRecDepth 100000
theorem add0g (g k : Nat) : (⟨g, 0, none⟩ : Addr).add k = ⟨g, k, none⟩ := by
 unfold Addr.add
 split
 ·rename_i h; rw [h]
 ·simp
theorem rowOf_own (g n k c y p P : Nat) (w : World) (hp : (y : Int) * (c : Int) = (p : Int)) (hp2 : ((y : Int) + 1) * (c : Int) = (p : Int) + (c : Int)) (hP : P = p * 3) (hn : p + c ≤ n) (hk : n ≤ k) (hk2 : k ≤ 9223372036854775807) (hc : 1 ≤ c) (hy : y ≤ 1000000) :
  Calls Tryz.prog 86 #[.slice (some ⟨g, 0, none⟩) n k, .int .i64 (c : Int), .int .i64 (y : Int)] w fun e w' => e = .returned (.slice (some ⟨g, P, none⟩) c (k - p)) ∧ w = w' := by
 have := rowOf_any ⟨g, 0, none⟩ n k c y p w hp hp2 hn hk hk2 hc hy
 rw [add0g, ← hP] at this
 exact this
theorem rowAt {n r c : Nat} (hg : GOk n r c) (y : Nat) (hy : y < r) : ∃ p P : Nat, p = y * c ∧ P = p * 3 ∧ (y : Int) * (c : Int) = (p : Int) ∧ ((y : Int) + 1) * (c : Int) = (p : Int) + (c : Int) ∧ p + c ≤ n := by
 refine ⟨y * c, y * c * 3, rfl, rfl, by simp, ?_, ?_⟩
 ·rw [Int.add_mul, Int.one_mul]; simp
 ·have : (y + 1) * c ≤ r * c := Nat.mul_le_mul_right _ hy
  rw [Nat.add_mul, Nat.one_mul] at this
  rw [hg.n]
  exact this
theorem mendL_yes {l : List Cl} {r c : Nat} (hg : GOk l.length r c) (y : Nat) (hy : y < r) : mendL l (c : Int) (y : Int) = fillL l (mendF l c) (y * c) (y * c + c) := by
 unfold mendL
 rw [if_pos (gPlace_mk hg (by omega) (by omega) (by omega) (by omega))]
 simp only [Int.toNat_natCast]
theorem place_up {n r c : Nat} (hg : GOk n r c) (y : Nat) (hy : y < r) : upB n (c : Int) (y : Int) (y : Int) = true := by
 unfold upB
 rw [decide_eq_true_eq, hg.ok, hg.quo.1]
 exact ⟨rfl, by omega, by omega, by omega⟩
theorem mendRow {l : List Cl} {r c base g n cap p P : Nat} {w : World} (y : Nat) (hg : GOk l.length r c) (hy : y < r) (h : OC w base (.slice (some ⟨g, 0, none⟩) n cap) l) (hb : base ≤ w.heap.size) (hl : l.length ≤ 1048576) (hp : p = y * c) (hP : P = p * 3) (hn : p + c ≤ l.length) (hcap : l.length ≤ cap) (hcap2 : cap ≤ 9223372036854775807) :
  Calls Tryz.prog 88 #[.slice (some ⟨g, P, none⟩) c (cap - p)] w (MdPost (mendL l (c : Int) (y : Int)) base (.slice (some ⟨g, 0, none⟩) n cap) w) := by
 subst hp
 rw [mendL_yes hg y hy]
 exact mend_any l c y base g n cap P (cap - y * c) w h hb hn hl hg.c1 hg.c2 hP (by omega) (by omega)
theorem ginsert_yes (v : Value) (l : List Cl) (r c y x : Nat) (n : Int) (w : World) (h : CS w w.heap.size v l) (hl : l.length ≤ 1048576) (hg : GOk l.length r c) (hy : y < r) (hx : x ≤ c) :
  Calls Tryz.prog 164 #[v, .int .i64 (c : Int), .int .i64 (y : Int), .int .i64 (x : Int), .int .i64 n] w (CellsPost (mendL (fillL l (insF l (y * c + x) (capN n)) (y * c + x) (y * c + c)) c y) w) := by
 have hU := hasPlace_any v l c y x w h hl
 rw [gPlace_mk hg (by omega) (by omega) (by omega) (by omega)] at hU
 have hN := nearest_any n 1000 w (by decide)
 rw [capC_N] at hN
 have hM := capN_le n
 generalize capN n = M at *
 obtain ⟨p, P, hp, hP, q1, q2, hpn⟩ := rowAt hg y hy
 have c1 := hg.c1
 have c2 := hg.c2
 have r2 := hg.r2
 rw [← hp]
 have q3 : (p : Int) + (x : Int) = ((p + x : Nat) : Int) := by omega
 have hA := back_any v l (p + x) (p + c) (c - x) M (min (c - x) M) (p + c - min (c - x) M) w h (by omega) (by omega) hpn (by omega) (by omega) (by split <;> omega) (by omega)
 rw [back_ins l (p + x) (p + c) M (min (c - x) M) (by omega) hpn (by omega)] at hA
 generalize hL : fillL l (insF l (p + x) M) (p + x) (p + c) = L at *
 have hLl : L.length = l.length := by rw [← hL, fillL_len]
 have HG := Lib.hid (show GOk L.length r c by rw [hLl]; exact hg)
 obtain ⟨f, hf⟩ : ∃ f : Nat, f = p + x := ⟨_, rfl⟩
 obtain ⟨t, ht⟩ : ∃ t : Nat, t = p + c := ⟨_, rfl⟩
 rw [← hf, ← ht] at hA
 rw [← hf] at q3
 have q4 : ((y : Int) + 1) * (c : Int) = (t : Int) := by rw [q2, ht]; omega
 have htb : t ≤ 1048576 := by omega
 have hfb : f ≤ 1048576 := by omega
 have Q1 := Lib.hid q1
 have Q2 := Lib.hid q2
 have HP := Lib.hid hp
 have HPP := Lib.hid hP
 have hpos : 0 < L.length := by omega
 have HLL := Lib.hid hLl
 obtain ⟨A, k, rfl, h1, h2⟩ := h.form
 clear h hg hf ht hL q2 hp hP hLl
 go_enter Tryz.func164, Tryz.ntmps164
 go_wp2_with (first
  | ((with_reducible refine hU.mono ?_); rintro e w' ⟨rfl, rfl⟩)
  | ((with_reducible refine hN.mono ?_); rintro e w' ⟨rfl, rfl⟩)
  | ((with_reducible refine hA.mono ?_); rintro e w1 ⟨v1, rfl, ho, hb⟩; obtain ⟨g, cap, rfl, g1, g2, g3, g4⟩ := ho.open_ hpos; have z1 := hb.size; have HO := Lib.hid ho; have HB := Lib.hid hb; clear ho hb)
  | ((with_reducible refine (rowOf_own g L.length cap c y p P _ Q1.out Q2.out HPP.out (by rw [HLL.out]; exact hpn) g3 g4 c1 (by omega)).mono ?_); rintro e w' ⟨rfl, rfl⟩)
  | ((with_reducible refine (mendRow y HG.out hy HO.out z1 (by rw [HLL.out]; omega) HP.out HPP.out (by rw [HLL.out]; exact hpn) g3 g4).mono ?_); rintro e w2 ⟨rfl, ho2, hb2⟩))
 go_ret
 exact ⟨_, rfl, ho2, HB.out.trans hb2⟩
theorem ginsert_no (v : Value) (l : List Cl) (cols y x n : Int) (w : World) (h : CS w w.heap.size v l) (hl : l.length ≤ 1048576) (hB : gPlace l.length cols y x = false) :
  Calls Tryz.prog 164 #[v, .int .i64 cols, .int .i64 y, .int .i64 x, .int .i64 n] w (CellsPost l w) := by
 have hU := hasPlace_any v l cols y x w h hl
 rw [hB] at hU
 have hO := ownp_any v l w h (by omega)
 obtain ⟨A, k, rfl, h1, h2⟩ := h.form
 clear h hB
 go_enter Tryz.func164, Tryz.ntmps164
 go_wp2_with (first
  | ((with_reducible refine hU.mono ?_); rintro e w' ⟨rfl, rfl⟩)
  | ((with_reducible refine hO.mono ?_); rintro e w' ⟨v', rfl, ho, hb⟩))
 go_ret
 exact ⟨_, rfl, ho, hb⟩
theorem ginsert_any (v : Value) (l : List Cl) (cols y x n : Int) (w : World) (h : CS w w.heap.size v l) (hl : l.length ≤ 1048576) :
  Calls Tryz.prog 164 #[v, .int .i64 cols, .int .i64 y, .int .i64 x, .int .i64 n] w (CsPost (insertL l cols y x n) w) := by
 unfold insertL
 cases hB : gPlace l.length cols y x with
 | true =>
  obtain ⟨r, c, a, b, rfl, rfl, rfl, hG, hab, hbr⟩ := gPlace_of hB
  rw [if_pos rfl]
  simp only [Int.toNat_natCast]
  exact (ginsert_yes v l r c a b n w h hl hG hab hbr).mono fun {_ _} h => h.toCs
 | false =>
  rw [if_neg (by decide)]
  exact (ginsert_no v l cols y x n w h hl hB).mono fun {_ _} h => h.toCs
theorem gdelete_yes (v : Value) (l : List Cl) (r c y x : Nat) (n : Int) (w : World) (h : CS w w.heap.size v l) (hl : l.length ≤ 1048576) (hg : GOk l.length r c) (hy : y < r) (hx : x ≤ c) :
  Calls Tryz.prog 165 #[v, .int .i64 (c : Int), .int .i64 (y : Int), .int .i64 (x : Int), .int .i64 n] w (CellsPost (mendL (fillL l (delF l (y * c + c) (capN n)) (y * c + x) (y * c + c)) c y) w) := by
 have hU := hasPlace_any v l c y x w h hl
 rw [gPlace_mk hg (by omega) (by omega) (by omega) (by omega)] at hU
 have hN := nearest_any n 1000 w (by decide)
 rw [capC_N] at hN
 have hM := capN_le n
 generalize capN n = M at *
 obtain ⟨p, P, hp, hP, q1, q2, hpn⟩ := rowAt hg y hy
 have c1 := hg.c1
 have c2 := hg.c2
 have r2 := hg.r2
 rw [← hp]
 have q3 : (p : Int) + (x : Int) = ((p + x : Nat) : Int) := by omega
 have hA := ahead_any v l (p + x) (p + c) (c - x) M (min (c - x) M) (p + x + min (c - x) M) w h (by omega) (by omega) hpn (by omega) (by omega) (by split <;> omega) (by omega)
 rw [ahead_del l (p + x) (p + c) M (min (c - x) M) (by omega) hpn (by omega)] at hA
 generalize hL : fillL l (delF l (p + c) M) (p + x) (p + c) = L at *
 have hLl : L.length = l.length := by rw [← hL, fillL_len]
 have HG := Lib.hid (show GOk L.length r c by rw [hLl]; exact hg)
 obtain ⟨f, hf⟩ : ∃ f : Nat, f = p + x := ⟨_, rfl⟩
 obtain ⟨t, ht⟩ : ∃ t : Nat, t = p + c := ⟨_, rfl⟩
 rw [← hf, ← ht] at hA
 rw [← hf] at q3
 have q4 : ((y : Int) + 1) * (c : Int) = (t : Int) := by rw [q2, ht]; omega
 have htb : t ≤ 1048576 := by omega
 have hfb : f ≤ 1048576 := by omega
 have Q1 := Lib.hid q1
 have Q2 := Lib.hid q2
 have HP := Lib.hid hp
 have HPP := Lib.hid hP
 have hpos : 0 < L.length := by omega
 have HLL := Lib.hid hLl
 obtain ⟨A, k, rfl, h1, h2⟩ := h.form
 clear h hg hf ht hL q2 hp hP hLl
 go_enter Tryz.func165, Tryz.ntmps165
 go_wp2_with (first
  | ((with_reducible refine hU.mono ?_); rintro e w' ⟨rfl, rfl⟩)
  | ((with_reducible refine hN.mono ?_); rintro e w' ⟨rfl, rfl⟩)
  | ((with_reducible refine hA.mono ?_); rintro e w1 ⟨v1, rfl, ho, hb⟩; obtain ⟨g, cap, rfl, g1, g2, g3, g4⟩ := ho.open_ hpos; have z1 := hb.size; have HO := Lib.hid ho; have HB := Lib.hid hb; clear ho hb)
  | ((with_reducible refine (rowOf_own g L.length cap c y p P _ Q1.out Q2.out HPP.out (by rw [HLL.out]; exact hpn) g3 g4 c1 (by omega)).mono ?_); rintro e w' ⟨rfl, rfl⟩)
  | ((with_reducible refine (mendRow y HG.out hy HO.out z1 (by rw [HLL.out]; omega) HP.out HPP.out (by rw [HLL.out]; exact hpn) g3 g4).mono ?_); rintro e w2 ⟨rfl, ho2, hb2⟩))
 go_ret
 exact ⟨_, rfl, ho2, HB.out.trans hb2⟩
theorem gdelete_no (v : Value) (l : List Cl) (cols y x n : Int) (w : World) (h : CS w w.heap.size v l) (hl : l.length ≤ 1048576) (hB : gPlace l.length cols y x = false) :
  Calls Tryz.prog 165 #[v, .int .i64 cols, .int .i64 y, .int .i64 x, .int .i64 n] w (CellsPost l w) := by
 have hU := hasPlace_any v l cols y x w h hl
 rw [hB] at hU
 have hO := ownp_any v l w h (by omega)
 obtain ⟨A, k, rfl, h1, h2⟩ := h.form
 clear h hB
 go_enter Tryz.func165, Tryz.ntmps165
 go_wp2_with (first
  | ((with_reducible refine hU.mono ?_); rintro e w' ⟨rfl, rfl⟩)
  | ((with_reducible refine hO.mono ?_); rintro e w' ⟨v', rfl, ho, hb⟩))
 go_ret
 exact ⟨_, rfl, ho, hb⟩
theorem gdelete_any (v : Value) (l : List Cl) (cols y x n : Int) (w : World) (h : CS w w.heap.size v l) (hl : l.length ≤ 1048576) :
  Calls Tryz.prog 165 #[v, .int .i64 cols, .int .i64 y, .int .i64 x, .int .i64 n] w (CsPost (deleteL l cols y x n) w) := by
 unfold deleteL
 cases hB : gPlace l.length cols y x with
 | true =>
  obtain ⟨r, c, a, b, rfl, rfl, rfl, hG, hab, hbr⟩ := gPlace_of hB
  rw [if_pos rfl]
  simp only [Int.toNat_natCast]
  exact (gdelete_yes v l r c a b n w h hl hG hab hbr).mono fun {_ _} h => h.toCs
 | false =>
  rw [if_neg (by decide)]
  exact (gdelete_no v l cols y x n w h hl hB).mono fun {_ _} h => h.toCs
theorem gPlace0 {n : Nat} {cols y : Int} : gPlace n cols y 0 = upB n cols y y := by
 rw [Bool.eq_iff_iff]
 unfold gPlace upB gOk
 simp only [Bool.and_eq_true, decide_eq_true_eq]
 constructor
 ·rintro ⟨a, b, c, d, e⟩
  exact ⟨a, b, c, Int.le_refl _⟩
 ·rintro ⟨a, b, c, -⟩
  exact ⟨a, b, c, by omega, by omega⟩
theorem gmend_any (v : Value) (l : List Cl) (cols y : Int) (w : World) (h : CS w w.heap.size v l) (hl : l.length ≤ 1048576) :
  Calls Tryz.prog 55 #[v, .int .i64 cols, .int .i64 y] w (CsPost (mendL l cols y) w) := by
 have hO := ownp_any v l w h (by omega)
 have H := Lib.hid h
 cases hB : upB l.length cols y y with
 | true =>
  have HB2 := Lib.hid hB
  rw [← gPlace0] at hB
  obtain ⟨r, c, y, _, rfl, rfl, _, hg, hy, -⟩ := gPlace_of hB
  obtain ⟨p, P, hp, hP, q1, q2, hpn⟩ := rowAt hg y hy
  have c1 := hg.c1
  have c2 := hg.c2
  have r2 := hg.r2
  have HG := Lib.hid hg
  have Q1 := Lib.hid q1
  have Q2 := Lib.hid q2
  have HP := Lib.hid hp
  have HPP := Lib.hid hP
  have hpos : 0 < l.length := by omega
  obtain ⟨A, k, rfl, h1, h2⟩ := h.form
  clear h hB hg hp hP q1 q2
  go_enter Tryz.func55, Tryz.ntmps55
  go_wp2_with (first
   | ((with_reducible refine hO.mono ?_); rintro e w1 ⟨v1, rfl, ho, hb⟩; obtain ⟨g, cap, rfl, g1, g2, g3, g4⟩ := ho.open_ hpos; have z1 := hb.size; have HO := Lib.hid ho; have HB := Lib.hid hb; have HC := Lib.hid ((H.out.below hb).more z1); clear ho hb)
   | ((with_reducible refine (hasRows_any _ l _ _ _ _ HC.out hl).mono ?_); rintro e w' ⟨rfl, rfl⟩; rw [HB2.out])
   | ((with_reducible refine (rowOf_own g l.length cap c y p P _ Q1.out Q2.out HPP.out hpn g3 g4 c1 (by omega)).mono ?_); rintro e w' ⟨rfl, rfl⟩)
   | ((with_reducible refine (mendRow y HG.out hy HO.out z1 (by omega) HP.out HPP.out hpn g3 g4).mono ?_); rintro e w2 ⟨rfl, ho2, hb2⟩))
  go_ret
  exact CellsPost.toCs ⟨_, rfl, ho2, HB.out.trans hb2⟩
 | false =>
  unfold mendL
  rw [gPlace0, hB, if_neg (by decide)]
  have HB2 := Lib.hid hB
  obtain ⟨A, k, rfl, h1, h2⟩ := h.form
  clear h hB
  go_enter Tryz.func55, Tryz.ntmps55
  go_wp2_with (first
   | ((with_reducible refine hO.mono ?_); rintro e w1 ⟨v1, rfl, ho, hb⟩; have z1 := hb.size; have HO := Lib.hid ho; have HB := Lib.hid hb; have HC := Lib.hid ((H.out.below hb).more z1); clear ho hb)
   | ((with_reducible refine (hasRows_any _ l _ _ _ _ HC.out hl).mono ?_); rintro e w' ⟨rfl, rfl⟩; rw [HB2.out]))
  go_ret
  exact CellsPost.toCs ⟨_, rfl, HO.out, HB.out⟩
end Go.Proofs.YtlolgfgcgfjdjaaGreatDoor

namespace Go.Proofs.YtlolgfgcgfjdjaaGreatDoor
set_option linter.unusedVariables false
set_option linter.unusedSimpArgs false
set_option maxHeartbeats 400000
set_option maxRecDepth 100000
theorem rows_ext {l m : List Cl} {r c : Nat} (h1 : l.length = r * c) (h2 : m.length = r * c) (hc : 1 ≤ c) (h : ∀ y x, y < r → x < c → getC l (y * c + x) = getC m (y * c + x)) : l = m := by
 refine getC_ext (by rw [h1, h2]) (fun i hi => ?_)
 rw [h2] at hi
 have e : i / c * c + i % c = i := by rw [Nat.mul_comm]; exact Nat.div_add_mod i c
 have := h (i / c) (i % c) ((Nat.div_lt_iff_lt_mul (by omega)).2 hi) (Nat.mod_lt _ (by omega))
 rw [e] at this
 exact this
theorem badH_same {l m : List Cl} {c y x : Nat} (he : ∀ x, x < c → getC m (y * c + x) = getC l (y * c + x)) (hx : x < c) : badH m c (y * c + x) x = badH l c (y * c + x) x := by
 unfold badH
 rw [he x hx]
 have e1 : (decide (x + 1 = c) || decide ((getC m (y * c + x + 1)).h ≠ 2)) = (decide (x + 1 = c) || decide ((getC l (y * c + x + 1)).h ≠ 2)) := by
  by_cases h : x + 1 = c
  ·simp [h]
  ·rw [Nat.add_assoc, he (x + 1) (by omega)]
 have e2 : (decide (x = 0) || decide ((getC m (y * c + x - 1)).h ≠ 1)) = (decide (x = 0) || decide ((getC l (y * c + x - 1)).h ≠ 1)) := by
  by_cases h : x = 0
  ·simp [h]
  ·rw [show y * c + x - 1 = y * c + (x - 1) by omega, he (x - 1) (by omega)]
 rw [e1, e2]
end Go.Proofs.YtlolgfgcgfjdjaaGreatDoor

namespace Go.Proofs.YtlolgfgcgfjdjaaGreatDoor
open Go.RowKit
set_option linter.unusedVariables false
set_option linter.unusedSimpArgs false
set_option maxHeartbeats 2000000
set_option maxRecDepth 100000
def ErRel (l : List Cl) (p a b : Nat) (w : World) (base g n cap : Nat) (i : Value) (wr : World) : Prop :=
 ∃ x : Nat, a ≤ x ∧ (x ≤ b ∨ x = a) ∧ i = .int .i64 (x : Int) ∧ OC wr base (.slice (some ⟨g, 0, none⟩) n cap) (fillL l (fun _ => blankC) (p + a) (p + x)) ∧ Below base w wr
theorem capC_leN (n : Int) (c : Nat) : capC n (c : Int) ≤ c := by unfold capC; omega
theorem gerase_yes (v : Value) (l : List Cl) (r c y : Nat) (fr til : Int) (w : World) (h : CS w w.heap.size v l) (hl : l.length ≤ 1048576) (hg : GOk l.length r c) (hy : y < r) :
  Calls Tryz.prog 175 #[v, .int .i64 (c : Int), .int .i64 (y : Int), .int .i64 fr, .int .i64 til] w (CellsPost (mendL (fillL l (fun _ => blankC) (y * c + capC fr c) (y * c + capC til c)) c y) w) := by
 have hO := ownp_any v l w h (by omega)
 have H := Lib.hid h
 have HU := Lib.hid (place_up hg y hy)
 obtain ⟨p, P, hp, hP, q1, q2, hpn⟩ := rowAt hg y hy
 have c1 := hg.c1
 have c2 := hg.c2
 have r2 := hg.r2
 rw [← hp]
 have ha := capC_leN fr c
 have hb := capC_leN til c
 have hN1 := fun w => nearest_any fr c w (by omega)
 have hN2 := fun w => nearest_any til c w (by omega)
 generalize capC fr c = a at *
 generalize capC til c = b at *
 have HN1 := Lib.hid hN1
 have HN2 := Lib.hid hN2
 have HG := Lib.hid hg
 have Q1 := Lib.hid q1
 have Q2 := Lib.hid q2
 have HP := Lib.hid hp
 have HPP := Lib.hid hP
 have hpos : 0 < l.length := by omega
 obtain ⟨A, k, rfl, h1, h2⟩ := h.form
 clear h hg hp hP q1 q2 hN1 hN2
 go_enter Tryz.func175, Tryz.ntmps175
 go_wp2_with (first
  | ((with_reducible refine hO.mono ?_); rintro e w1 ⟨v1, rfl, ho, hb⟩; obtain ⟨g, cap, rfl, g1, g2, g3, g4⟩ := ho.open_ hpos; have z1 := hb.size; have HO := Lib.hid ho; have HB := Lib.hid hb; have HC := Lib.hid ((H.out.below hb).more z1); clear ho hb)
  | ((with_reducible refine (hasRows_any _ l _ _ _ _ HC.out hl).mono ?_); rintro e w' ⟨rfl, rfl⟩; rw [HU.out])
  | ((with_reducible refine (rowOf_own g l.length cap c y p P _ Q1.out Q2.out HPP.out hpn g3 g4 c1 (by omega)).mono ?_); rintro e w' ⟨rfl, rfl⟩)
  | ((with_reducible refine (HN1.out _).mono ?_); rintro e w' ⟨rfl, rfl⟩))
 go_loopw [13] (fun i wr => ErRel l p a b w1 w.heap.size g l.length cap i wr) (fun i _ => b - (intOf i).toNat)
 case atStart => exact ⟨a, Nat.le_refl _, .inr rfl, rfl, by rw [fillL_none _ _ _ _ (Nat.le_refl _)]; exact HO.out, Below.refl _ _⟩
 case round =>
  generalize wr = w3 at *
  obtain ⟨x, hx1, hx2, rfl, ho, hb⟩ := hrel
  have HO3 := Lib.hid ho
  have HB3 := Lib.hid hb
  have z3 := Nat.le_trans z1 hb.size
  have hg3 := ho.block.2
  clear ho hb
  by_cases hxb : x < b
  ·have hxi : (x : Int) < (b : Int) := by omega
   have hQ : (p + x) * 3 = P + x * 3 := by rw [HPP.out]; omega
   have HQ := Lib.hid hQ
   clear hQ
   go_wp2_with (first
    | ((with_reducible refine (HN2.out _).mono ?_); rintro e w' ⟨rfl, rfl⟩)
    | ((with_reducible refine (gblankp_any _).mono ?_); rintro e w4 ⟨rfl, hw⟩; have z4 := hw.size; have HW := Lib.hid hw; obtain ⟨s0, s1, s2, f0, f1, f2⟩ := (HO3.out.below hw).at3 (p + x) _ _ (getC_of (by rw [fillL_len]; omega)) HQ.out; clear hw))
   go_roundw
   case rel =>
    refine ⟨x + 1, by omega, .inl (by omega), by go_num, ?_, below_put (HB3.out.trans (HW.out.mono z3)) g1 _ _ _ _⟩
    have := (HO3.out.below HW.out).put (p + x) (by omega) blankC
    rw [fillL_set _ _ _ _ _ (by omega) rfl, HQ.out] at this
    exact this
   case measure => simp [intOf]; omega
  ·have hxi : ¬ (x : Int) < (b : Int) := by omega
   have HE := Lib.hid (show fillL l (fun _ => blankC) (p + a) (p + x) = fillL l (fun _ => blankC) (p + a) (p + b) by
    rcases hx2 with h | h
    ·rw [show x = b by omega]
    ·rw [fillL_none _ _ _ _ (by omega), fillL_none _ _ _ _ (by omega)])
   have HGF := Lib.hid (show GOk (fillL l (fun _ => blankC) (p + a) (p + x)).length r c by rw [fillL_len]; exact HG.out)
   have HFL := Lib.hid (fillL_len l (fun _ => blankC) (p + a) (p + x))
   go_wp2_with (first
    | ((with_reducible refine (HN2.out _).mono ?_); rintro e w' ⟨rfl, rfl⟩)
    | ((with_reducible refine (mendRow y HGF.out hy HO3.out z3 (by rw [HFL.out]; omega) HP.out HPP.out (by rw [HFL.out]; exact hpn) (by rw [HFL.out]; exact g3) g4).mono ?_); rintro e w2 ⟨rfl, ho2, hb2⟩))
   go_ret
   refine ⟨_, rfl, ?_, HB.out.trans (HB3.out.trans hb2)⟩
   rw [← HE.out]
   exact ho2
theorem gerase_no (v : Value) (l : List Cl) (cols y fr til : Int) (w : World) (h : CS w w.heap.size v l) (hl : l.length ≤ 1048576) (hB : upB l.length cols y y = false) :
  Calls Tryz.prog 175 #[v, .int .i64 cols, .int .i64 y, .int .i64 fr, .int .i64 til] w (CellsPost l w) := by
 have hO := ownp_any v l w h (by omega)
 have H := Lib.hid h
 have HB2 := Lib.hid hB
 obtain ⟨A, k, rfl, h1, h2⟩ := h.form
 clear h hB
 go_enter Tryz.func175, Tryz.ntmps175
 go_wp2_with (first
  | ((with_reducible refine hO.mono ?_); rintro e w1 ⟨v1, rfl, ho, hb⟩; have z1 := hb.size; have HO := Lib.hid ho; have HB := Lib.hid hb; have HC := Lib.hid ((H.out.below hb).more z1); clear ho hb)
  | ((with_reducible refine (hasRows_any _ l _ _ _ _ HC.out hl).mono ?_); rintro e w' ⟨rfl, rfl⟩; rw [HB2.out]))
 go_ret
 exact ⟨_, rfl, HO.out, HB.out⟩
theorem gerase_any (v : Value) (l : List Cl) (cols y fr til : Int) (w : World) (h : CS w w.heap.size v l) (hl : l.length ≤ 1048576) :
  Calls Tryz.prog 175 #[v, .int .i64 cols, .int .i64 y, .int .i64 fr, .int .i64 til] w (CsPost (eraseL l cols y fr til) w) := by
 unfold eraseL
 cases hB : gPlace l.length cols y 0 with
 | true =>
  obtain ⟨r, c, a, b, rfl, rfl, _, hG, hab, hbr⟩ := gPlace_of hB
  rw [if_pos rfl]
  simp only [Int.toNat_natCast]
  exact (gerase_yes v l r c a fr til w h hl hG hab).mono fun {_ _} h => h.toCs
 | false =>
  rw [if_neg (by decide)]
  exact (gerase_no v l cols y fr til w h hl (by rw [← gPlace0]; exact hB)).mono fun {_ _} h => h.toCs
theorem sizeOk_two (rows cols : Int) : sizeOk rows cols = (sizeB rows && sizeB cols) := by
 rw [Bool.eq_iff_iff]
 unfold sizeOk sizeB
 simp only [Bool.and_eq_true, decide_eq_true_eq]
 constructor
 ·rintro ⟨a, b, c, d⟩
  exact ⟨⟨a, b⟩, c, d⟩
 ·rintro ⟨⟨a, b⟩, c, d⟩
  exact ⟨a, b, c, d⟩
theorem gblank_any (rows cols : Int) (w : World) : Calls Tryz.prog 83 #[.int .i64 rows, .int .i64 cols] w (CellsPost (blankL rows cols) w) := by
 unfold blankL
 rw [sizeOk_two]
 cases hr : sizeB rows with
 | false =>
  rw [if_neg (by simp)]
  go_enter Tryz.func83, Tryz.ntmps83
  go_wp2_with ((with_reducible refine (isSize_any _ _).mono ?_); rintro e w' ⟨rfl, rfl⟩)
  go_ret
  exact ⟨_, rfl, OC.nil _ _, Below.refl _ _⟩
 | true =>
  cases hc : sizeB cols with
  | false =>
   rw [if_neg (by decide)]
   go_enter Tryz.func83, Tryz.ntmps83
   go_wp2_with ((with_reducible refine (isSize_any _ _).mono ?_); rintro e w' ⟨rfl, rfl⟩)
   go_ret
   exact ⟨_, rfl, OC.nil _ _, Below.refl _ _⟩
  | true =>
   rw [if_pos (by decide)]
   have hr2 := hr
   have hc2 := hc
   unfold sizeB at hr2 hc2
   rw [decide_eq_true_eq] at hr2 hc2
   obtain ⟨r, rfl⟩ : ∃ r : Nat, rows = r := ⟨rows.toNat, by omega⟩
   obtain ⟨c, rfl⟩ : ∃ c : Nat, cols = c := ⟨cols.toNat, by omega⟩
   simp only [Int.toNat_natCast]
   have hrc := rc_le (show r ≤ 1000 by omega) (show c ≤ 1000 by omega)
   obtain ⟨n, hn⟩ : ∃ n : Nat, n = r * c := ⟨_, rfl⟩
   have q1 : (r : Int) * (c : Int) = (n : Int) := by rw [hn]; simp
   rw [← hn] at hrc ⊢
   obtain ⟨w5, hmk, ho5, hb5⟩ := run_make0 w n (by omega)
   have hz5 := hb5.size
   have HO5 := Lib.hid ho5
   have HB5 := Lib.hid hb5
   clear hn hr2 hc2 ho5 hb5
   go_enter Tryz.func83, Tryz.ntmps83
   go_wp2_with (first
    | ((with_reducible refine (isSize_any _ _).mono ?_); rintro e w' ⟨rfl, rfl⟩)
    | ((with_reducible refine (addBlanks_any _ [] n w.heap.size w5 HO5.out hz5 (by omega) (by simp)).mono ?_); rintro e w6 ⟨v6, rfl, ho6, hb6⟩))
   go_ret
   exact ⟨_, rfl, ho6, HB5.out.trans hb6⟩
end Go.Proofs.YtlolgfgcgfjdjaaGreatDoor

namespace Go.Proofs.YtlolgfgcgfjdjaaGreatDoor
open Go.RowKit
set_option linter.unusedVariables false
set_option linter.unusedSimpArgs false
set_option maxHeartbeats 400000
set_option maxRecDepth 100000
theorem gupO_any (v : Value) (l : List Cl) (cols top bottom n : Int) (w : World) (h : CS w w.heap.size v l) (hl : l.length ≤ 1048576) :
  Calls Tryz.prog 158 #[v, .int .i64 cols, .int .i64 top, .int .i64 bottom, .int .i64 n] w (CellsPost (upL l cols top bottom n) w) := by
 rw [upL_if]
 cases hB : upB l.length cols top bottom with
 | true =>
  obtain ⟨r, c, a, b, rfl, rfl, rfl, hG, hab, hbr⟩ := upB_of hB
  rw [if_pos rfl]
  simp only [Int.toNat_natCast]
  exact gup_yes v l r c a b n w h hl hG hab hbr
 | false =>
  rw [if_neg (by decide)]
  exact gup_no v l cols top bottom n w h hl hB
theorem gdownO_any (v : Value) (l : List Cl) (cols top bottom n : Int) (w : World) (h : CS w w.heap.size v l) (hl : l.length ≤ 1048576) :
  Calls Tryz.prog 159 #[v, .int .i64 cols, .int .i64 top, .int .i64 bottom, .int .i64 n] w (CellsPost (downL l cols top bottom n) w) := by
 rw [downL_if]
 cases hB : upB l.length cols top bottom with
 | true =>
  obtain ⟨r, c, a, b, rfl, rfl, rfl, hG, hab, hbr⟩ := upB_of hB
  rw [if_pos rfl]
  simp only [Int.toNat_natCast]
  exact gdown_yes v l r c a b n w h hl hG hab hbr
 | false =>
  rw [if_neg (by decide)]
  exact gdown_no v l cols top bottom n w h hl hB
end Go.Proofs.YtlolgfgcgfjdjaaGreatDoor

namespace Go.Proofs.YtlolgfgcgfjdjaaGreatDoor
open Go.RowKit
set_option linter.unusedVariables false
set_option linter.unusedSimpArgs false
set_option maxHeartbeats 2000000
set_option maxRecDepth 100000
theorem pup_any (s : Sc) (r c : Nat) (vc vt vo : Value) (A4 A5 A6 : Option Addr) (n4 n5 n6 k4 k5 k6 : Nat) (base : Nat) (w : World) (hbase : base ≤ w.heap.size) (h : PsL w base vc vt vo s) (hi : ScIn { s with wrap := false } r c) (top n : Int) :
  Calls Tryz.prog 141 #[.agg (vS s vc vt vo (.slice A4 n4 k4) (.slice A5 n5 k5) (.slice A6 n6 k6)), .int .i64 top, .int .i64 n] w (PsPost base vc vt vo { s with cells := upL s.cells s.cols top s.bottom n } w) := by
 obtain ⟨g1, k1, g2, k2, A3, k3, rfl, rfl, rfl, ⟨b1, l1, p1, q1⟩, ⟨b2, l2, p2, q2⟩, p3, q3⟩ := h.open_ hi
 have H := Lib.hid h
 have HI := Lib.hid hi
 obtain ⟨hlen, hr1, hr2, hc1, hc2, HR, HCO, hr3, hr4, hc3, hc4, y0, y1, x0, x1, t0, t1, u1⟩ := pIn hi
 clear h hi
 have h2 := two_new w (.cells (vS s (.slice (some ⟨g1, 0, none⟩) s.cells.length k1) (.slice (some ⟨g2, 0, none⟩) s.tabs.length k2) (.slice A3 s.other.length k3) (.slice A4 n4 k4) (.slice A5 n5 k5) (.slice A6 n6 k6)) 31) (.cells zQ 31)
 have HC := Lib.hid ((H.out.c.cs.below h2.1).more h2.1.size)
 have H2 := Lib.hid h2
 clear h2
 go_enter Tryz.func141, Tryz.ntmps141
 go_upto_region 2 with fail
 ((with_reducible refine (gupO_any _ s.cells s.cols top s.bottom n _ HC.out (by omega)).mono ?_); rintro e w4 ⟨v4, rfl, o4, b4⟩)
 have hb4 : Below (w.heap.size + 1 + 1) _ w4 := (by rw [← H2.out.2]; exact b4)
 obtain ⟨e0, e1⟩ := two_keptB hb4
 obtain ⟨c2, f2⟩ := cellR e0 2 rfl
 have K0 := Lib.hid e0
 have K1 := Lib.hid e1
 have B4 := Lib.hid (H2.out.1.trans (hb4.mono (by omega)))
 have O4 : Hid (OC w4 (w.heap.size + 1 + 1) v4 _) := (by rw [← H2.out.2]; exact o4)
 clear b4 hb4 e0 e1 o4
 obtain ⟨A7, k7, rfl, p7, q7⟩ := O4.out.cs.form
 go_upto_region 2 with fail
 refine wp_region_lit ?_
 refine wpl_loadS rfl (.tmp 3) rfl rfl ((heap_setCell_same _ _ 2 _ _ _ K0.out).trans rfl) rfl ?_
 refine wpl_storeS rfl (.tmp 6) (.tmp 17) rfl rfl rfl ((heap_setCell_other _ _ _ _ (by simp)).trans K1.out) rfl rfl (all24 rfl rfl rfl rfl rfl rfl rfl rfl rfl rfl rfl rfl rfl rfl rfl rfl rfl rfl rfl rfl rfl rfl rfl rfl) ?_
 go_wp2
 refine psEndC (w.heap.size + 1) 6 Tryz.results141 ?_ ?_ ((heap_setCell_other _ _ _ _ (by simp)).trans K1.out) (by omega) hbase (B4.out.setCell (by simp) _) sl3 H.out rfl rfl (by omega) O4.out (fun b hb => heap_setCell_other _ _ _ _ (by simp; omega))
 all_goals rfl
theorem pdown_any (s : Sc) (r c : Nat) (vc vt vo : Value) (A4 A5 A6 : Option Addr) (n4 n5 n6 k4 k5 k6 : Nat) (base : Nat) (w : World) (hbase : base ≤ w.heap.size) (h : PsL w base vc vt vo s) (hi : ScIn { s with wrap := false } r c) (top n : Int) :
  Calls Tryz.prog 142 #[.agg (vS s vc vt vo (.slice A4 n4 k4) (.slice A5 n5 k5) (.slice A6 n6 k6)), .int .i64 top, .int .i64 n] w (PsPost base vc vt vo { s with cells := downL s.cells s.cols top s.bottom n } w) := by
 obtain ⟨g1, k1, g2, k2, A3, k3, rfl, rfl, rfl, ⟨b1, l1, p1, q1⟩, ⟨b2, l2, p2, q2⟩, p3, q3⟩ := h.open_ hi
 have H := Lib.hid h
 have HI := Lib.hid hi
 obtain ⟨hlen, hr1, hr2, hc1, hc2, HR, HCO, hr3, hr4, hc3, hc4, y0, y1, x0, x1, t0, t1, u1⟩ := pIn hi
 clear h hi
 have h2 := two_new w (.cells (vS s (.slice (some ⟨g1, 0, none⟩) s.cells.length k1) (.slice (some ⟨g2, 0, none⟩) s.tabs.length k2) (.slice A3 s.other.length k3) (.slice A4 n4 k4) (.slice A5 n5 k5) (.slice A6 n6 k6)) 31) (.cells zQ 31)
 have HC := Lib.hid ((H.out.c.cs.below h2.1).more h2.1.size)
 have H2 := Lib.hid h2
 clear h2
 go_enter Tryz.func142, Tryz.ntmps142
 go_upto_region 2 with fail
 ((with_reducible refine (gdownO_any _ s.cells s.cols top s.bottom n _ HC.out (by omega)).mono ?_); rintro e w4 ⟨v4, rfl, o4, b4⟩)
 have hb4 : Below (w.heap.size + 1 + 1) _ w4 := (by rw [← H2.out.2]; exact b4)
 obtain ⟨e0, e1⟩ := two_keptB hb4
 obtain ⟨c2, f2⟩ := cellR e0 2 rfl
 have K0 := Lib.hid e0
 have K1 := Lib.hid e1
 have B4 := Lib.hid (H2.out.1.trans (hb4.mono (by omega)))
 have O4 : Hid (OC w4 (w.heap.size + 1 + 1) v4 _) := (by rw [← H2.out.2]; exact o4)
 clear b4 hb4 e0 e1 o4
 obtain ⟨A7, k7, rfl, p7, q7⟩ := O4.out.cs.form
 go_upto_region 2 with fail
 refine wp_region_lit ?_
 refine wpl_loadS rfl (.tmp 3) rfl rfl ((heap_setCell_same _ _ 2 _ _ _ K0.out).trans rfl) rfl ?_
 refine wpl_storeS rfl (.tmp 6) (.tmp 17) rfl rfl rfl ((heap_setCell_other _ _ _ _ (by simp)).trans K1.out) rfl rfl (all24 rfl rfl rfl rfl rfl rfl rfl rfl rfl rfl rfl rfl rfl rfl rfl rfl rfl rfl rfl rfl rfl rfl rfl rfl) ?_
 go_wp2
 refine psEndC (w.heap.size + 1) 6 Tryz.results142 ?_ ?_ ((heap_setCell_other _ _ _ _ (by simp)).trans K1.out) (by omega) hbase (B4.out.setCell (by simp) _) sl3 H.out rfl rfl (by omega) O4.out (fun b hb => heap_setCell_other _ _ _ _ (by simp; omega))
 all_goals rfl
end Go.Proofs.YtlolgfgcgfjdjaaGreatDoor
