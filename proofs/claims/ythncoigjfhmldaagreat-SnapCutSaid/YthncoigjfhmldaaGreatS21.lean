/- What is proved here: parts of the proofs of the laws of layer 10. -/
import Derived.Test.YthncoigjfhmldaaGreatS10
import Derived.Test.YthncoigjfhmldaaGreatS19
import Derived.Test.YthncoigjfhmldaaGreatS18
import Derived.Test.YthncoigjfhmldaaGreatS20
namespace Go.Proofs.YthncoigjfhmldaaGreat
open Go.RowKit
set_option linter.unusedVariables false
set_option linter.unusedSimpArgs false
set_option maxHeartbeats 8000000
set_option maxRecDepth 100000
def BPost (P : Prop) (w : World) (e : Ending) (w' : World) : Prop := ∃ b, e = .returned (.bool b) ∧ (b = true ↔ P) ∧ Below w.heap.size w w'
def OthOk (s : Sc) (r c : Nat) : Prop := (s.alt = true → CellsR s.other r c) ∧ (s.alt = false → s.other.length = 0 ∧ s.oy = 0 ∧ s.ox = 0)
theorem bpost_no {P : Prop} {w w' : World} (h : ¬ P) (hb : Below w.heap.size w w') : BPost P w (.returned (.bool false)) w' := ⟨false, rfl, by simp [h], hb⟩
theorem bpost_yes {P : Prop} {w w' : World} (h : P) (hb : Below w.heap.size w w') : BPost P w (.returned (.bool true)) w' := ⟨true, rfl, by simp [h], hb⟩
theorem bool_post {P : Prop} {w : World} {b : Bool} (h : b = true ↔ P) {e : Ending} {w' : World} (he : e = .returned (.bool b) ∧ Below w.heap.size w w') : BPost P w e w' := ⟨b, he.1, h, he.2⟩
theorem wpl_loadSg {w : World} {ops : Array Oper} {rest : List Oper} {o : Oper} {a : Act} {Q : Exit → Act → World → Prop} (hw : Region.wanted o (yielded ops a.tmps) = true) (x : Operand) (ho : o.op = .load 30 x) {g : Nat} {xs : Array Value} (hx : a.eval x = .pointer (some ⟨g, 0, none⟩))
  (hg : w.heap[g]? = some (.cells xs 30)) (hn : xs.size = 24) (h : wpList Tryz.prog ops Q rest (a.put o.dst (.agg xs)) w) : wpList Tryz.prog ops Q (o :: rest) a w := by
 refine wpList_step fun K hK => ?_
 rw [if_pos hw]
 unfold Oper.wp execOp
 simp only [ho, hx, Sem.run_bind, run_loadS hg hn, Result.andThen_ok, Sem.run_pure]
 exact hK _ _ h
theorem prightOther_any (m : Int) (s : Sc) (vc vt vo vp vi vu : Value) (S : Nat → Prop) (w : World) (hS : ∀ x, S x → x < w.heap.size) (hs : SSl w S s vc vt vo vp vi vu) (hf : FitS m s) (r c : Nat) (hr : s.rows = r) (hc : s.cols = c) (r1 : 1 ≤ r) (r2 : r ≤ 1000) (c1 : 1 ≤ c) (c2 : c ≤ 1000) :
  Calls Tryz.prog 45 #[.agg (vRaw m s vc vt vo vp vi vu)] w (BPost (OthOk s r c) w) := by
 have HSS := Lib.hid hS
 have HF := Lib.hid hf
 have HS := Lib.hid hs
 obtain ⟨g1, g2, g3, g4, g5, g6⟩ := hs
 obtain ⟨A1, kk1, rfl, p1, q1⟩ := g1.form
 obtain ⟨A2, k2, rfl, p2, q2⟩ := g2.form
 obtain ⟨A3, k3, rfl, p3, q3⟩ := g3.form
 obtain ⟨A4, k4, rfl, p4, q4⟩ := g4.form
 obtain ⟨A5, k5, rfl, p5, q5⟩ := g5.form
 obtain ⟨A6, k6, rfl, p6, q6⟩ := g6.form
 have hnt := hf.nt
 have hno := hf.no
 clear g1 g2 g3 g4 g5 g6 hS hf
 have HB0 := Lib.hid (show Below w.heap.size w (w.alloc (.cells (vMq m s A1 A2 A3 A4 A5 A6 kk1 k2 k3 k4 k5 k6) 30)) from (Below.refl _ _).alloc (Nat.le_refl _) _)
 have HK0 := Lib.hid (heap_alloc_new w (.cells (vMq m s A1 A2 A3 A4 A5 A6 kk1 k2 k3 k4 k5 k6) 30))
 have HG := Lib.hid (fun (W : World) (hW : Below w.heap.size w W) => prightCells_any m s A1 A2 A3 A4 A5 A6 s.cells.length s.tabs.length s.other.length s.p.params.length s.p.inter.length s.p.utf.length kk1 k2 k3 k4 k5 k6 (.slice A3 s.other.length k3) s.other r c W hr hc (HS.out.2.2.1.cs' HSS.out hW (Nat.le_refl _)) HF.out.other HF.out.no r1 r2 c1 c2)
 obtain ⟨e0, e1, e2, e3, e4, e5, e6, e7, e8, e9, e10, e11, e12, e13, e14, e15, e16, e17, e18, e19, e20, e21, e22, e23⟩ := vRaw_cells HK0.out
 clear hr hc
 cases hal : s.alt with
 | true =>
  rw [hal] at e15
  have HAL := Lib.hid hal
  clear hal
  go_enter Tryz.func45, Tryz.ntmps45
  go_upto_region 2 with fail
  refine wp_region_lit ?_
  refine wpl_loadS rfl (.tmp 1) rfl rfl HK0.out rfl ?_
  go_wp2_with (go_at_call 44; (with_reducible refine (HG.out _ HB0.out).mono ?_); rintro e wz ⟨b, rfl, hb, bz⟩)
  go_ret
  refine ⟨b, rfl, ?_, HB0.out.trans (bz.mono HB0.out.size)⟩
  rw [hb]
  exact ⟨fun g => ⟨fun _ => g, fun e => by rw [HAL.out] at e; cases e⟩, fun g => g.1 HAL.out⟩
 | false =>
  rw [hal] at e15
  have HAL := Lib.hid hal
  clear hal
  by_cases cn : s.other.length = 0
  rotate_left
  ·have fn : ((s.other.length : Int) == 0) = false := by rw [beq_eq_false_iff_ne]; omega
   have HNO := Lib.hid (show ¬ OthOk s r c from fun g => cn (g.2 HAL.out).1)
   clear cn
   go_enter Tryz.func45, Tryz.ntmps45
   go_wp2
   go_ret
   exact bpost_no HNO.out HB0.out
  have fn : ((s.other.length : Int) == 0) = true := by rw [beq_iff_eq]; omega
  have CN := Lib.hid cn
  clear cn
  by_cases co : s.oy = 0
  rotate_left
  ·have fo : (s.oy == 0) = false := by rw [beq_eq_false_iff_ne]; omega
   have HNO := Lib.hid (show ¬ OthOk s r c from fun g => co (g.2 HAL.out).2.1)
   clear co
   go_enter Tryz.func45, Tryz.ntmps45
   go_wp2
   go_ret
   exact bpost_no HNO.out HB0.out
  have fo : (s.oy == 0) = true := by rw [beq_iff_eq]; omega
  have CO := Lib.hid co
  clear co
  by_cases cp : s.ox = 0
  rotate_left
  ·have fp : (s.ox == 0) = false := by rw [beq_eq_false_iff_ne]; omega
   have HNO := Lib.hid (show ¬ OthOk s r c from fun g => cp (g.2 HAL.out).2.2)
   clear cp
   go_enter Tryz.func45, Tryz.ntmps45
   go_wp2
   go_ret
   exact bpost_no HNO.out HB0.out
  have fp : (s.ox == 0) = true := by rw [beq_iff_eq]; omega
  have CP := Lib.hid cp
  clear cp
  have HYES := Lib.hid (show OthOk s r c from ⟨fun e => (by rw [HAL.out] at e; cases e), fun _ => ⟨CN.out, CO.out, CP.out⟩⟩)
  go_enter Tryz.func45, Tryz.ntmps45
  go_wp2
  go_ret
  exact bpost_yes HYES.out HB0.out
theorem pRight_any (m : Int) (s : Sc) (vc vt vo vp vi vu : Value) (S : Nat → Prop) (w : World) (hS : ∀ x, S x → x < w.heap.size) (hs : SSl w S s vc vt vo vp vi vu) (hf : FitS m s) :
  Calls Tryz.prog 18 #[.agg (vRaw m s vc vt vo vp vi vu)] w (RightSPost m s w) := by
 have HSS := Lib.hid hS
 have HF := Lib.hid hf
 have HS := Lib.hid hs
 obtain ⟨g1, g2, g3, g4, g5, g6⟩ := hs
 obtain ⟨A1, kk1, rfl, p1, q1⟩ := g1.form
 obtain ⟨A2, k2, rfl, p2, q2⟩ := g2.form
 obtain ⟨A3, k3, rfl, p3, q3⟩ := g3.form
 obtain ⟨A4, k4, rfl, p4, q4⟩ := g4.form
 obtain ⟨A5, k5, rfl, p5, q5⟩ := g5.form
 obtain ⟨A6, k6, rfl, p6, q6⟩ := g6.form
 have hnt := hf.nt
 have hno := hf.no
 clear g1 g2 g3 g4 g5 g6 hS hf
 have HB0 := Lib.hid (show Below w.heap.size w (w.alloc (.cells (vMq m s A1 A2 A3 A4 A5 A6 kk1 k2 k3 k4 k5 k6) 30)) from (Below.refl _ _).alloc (Nat.le_refl _) _)
 have HK0 := Lib.hid (heap_alloc_new w (.cells (vMq m s A1 A2 A3 A4 A5 A6 kk1 k2 k3 k4 k5 k6) 30))
 have HC0 : Hid (∀ W, Calls Tryz.prog 43 #[.int .i64 s.rows] W (BPost (1 ≤ s.rows ∧ s.rows ≤ 1000) W)) := fun W => (psize_any s.rows W).mono (fun e w' h => bool_post (by unfold sizeB; simp) ⟨h.1, by rw [← h.2]; exact Below.refl _ _⟩)
 have HC1 : Hid (∀ W, Calls Tryz.prog 43 #[.int .i64 s.cols] W (BPost (1 ≤ s.cols ∧ s.cols ≤ 1000) W)) := fun W => (psize_any s.cols W).mono (fun e w' h => bool_post (by unfold sizeB; simp) ⟨h.1, by rw [← h.2]; exact Below.refl _ _⟩)
 have HC4 : Hid (∀ W, Calls Tryz.prog 46 #[.agg (vMq m s A1 A2 A3 A4 A5 A6 kk1 k2 k3 k4 k5 k6), .int .i64 s.y, .int .i64 s.x] W (BPost (0 ≤ s.y ∧ s.y < s.rows ∧ 0 ≤ s.x ∧ s.x < s.cols) W)) := fun W => (pisPlace_any m s A1 A2 A3 A4 A5 A6 s.cells.length s.tabs.length s.other.length s.p.params.length s.p.inter.length s.p.utf.length kk1 k2 k3 k4 k5 k6 s.y s.x W).mono (fun e w' h => bool_post (by simp) h)
 have HC5 : Hid (∀ W, Calls Tryz.prog 46 #[.agg (vMq m s A1 A2 A3 A4 A5 A6 kk1 k2 k3 k4 k5 k6), .int .i64 s.sy, .int .i64 s.sx] W (BPost (0 ≤ s.sy ∧ s.sy < s.rows ∧ 0 ≤ s.sx ∧ s.sx < s.cols) W)) := fun W => (pisPlace_any m s A1 A2 A3 A4 A5 A6 s.cells.length s.tabs.length s.other.length s.p.params.length s.p.inter.length s.p.utf.length kk1 k2 k3 k4 k5 k6 s.sy s.sx W).mono (fun e w' h => bool_post (by simp) h)
 have HC6 : Hid (∀ W, Calls Tryz.prog 46 #[.agg (vMq m s A1 A2 A3 A4 A5 A6 kk1 k2 k3 k4 k5 k6), .int .i64 s.oy, .int .i64 s.ox] W (BPost (0 ≤ s.oy ∧ s.oy < s.rows ∧ 0 ≤ s.ox ∧ s.ox < s.cols) W)) := fun W => (pisPlace_any m s A1 A2 A3 A4 A5 A6 s.cells.length s.tabs.length s.other.length s.p.params.length s.p.inter.length s.p.utf.length kk1 k2 k3 k4 k5 k6 s.oy s.ox W).mono (fun e w' h => bool_post (by simp) h)
 have HC8 : Hid (∀ W, Calls Tryz.prog 47 #[.int .u16 (s.attr : Int)] W (BPost (attrB s.attr = true) W)) := fun W => (prightAttr_any s.attr W).mono (fun e w' h => bool_post Iff.rfl h)
 have HC9 : Hid (∀ W, Calls Tryz.prog 47 #[.int .u16 (s.sattr : Int)] W (BPost (attrB s.sattr = true) W)) := fun W => (prightAttr_any s.sattr W).mono (fun e w' h => bool_post Iff.rfl h)
 have HC10 : Hid (∀ W, Calls Tryz.prog 48 #[.agg (vMq m s A1 A2 A3 A4 A5 A6 kk1 k2 k3 k4 k5 k6)] W (BPost ((s.rows = 1 ∧ s.top = 0 ∧ s.bottom = 0) ∨ (s.rows ≠ 1 ∧ 0 ≤ s.top ∧ s.top < s.bottom ∧ s.bottom < s.rows)) W)) := fun W => (prightRegion_any m s A1 A2 A3 A4 A5 A6 s.cells.length s.tabs.length s.other.length s.p.params.length s.p.inter.length s.p.utf.length kk1 k2 k3 k4 k5 k6 W).mono (fun e w' ⟨⟨b, h1, h2⟩, h3⟩ => ⟨b, h1, h2, h3⟩)
 have HC12 : Hid (∀ W, Below w.heap.size w W → Calls Tryz.prog 49 #[.agg #[.int .i64 m, .int .u8 (s.p.priv : Int), .slice A4 s.p.params.length k4, .slice A5 s.p.inter.length k5, .slice A6 s.p.utf.length k6]] W (BPost (RightP m s.p.priv s.p.params s.p.inter s.p.utf) W)) := fun W hW => vright_any (.slice A4 s.p.params.length k4) (.slice A5 s.p.inter.length k5) (.slice A6 s.p.utf.length k6) m s.p.priv s.p.params s.p.inter s.p.utf S W (HS.out.2.2.2.1.keep fun q hq => hW.cell (HSS.out _ hq)) (HS.out.2.2.2.2.1.keep fun q hq => hW.cell (HSS.out _ hq)) (HS.out.2.2.2.2.2.keep fun q hq => hW.cell (HSS.out _ hq)) (fun x hx => Nat.lt_of_lt_of_le (HSS.out x hx) hW.size) HF.out.m0 HF.out.m1 HF.out.nu HF.out.pv
 obtain ⟨e0, e1, e2, e3, e4, e5, e6, e7, e8, e9, e10, e11, e12, e13, e14, e15, e16, e17, e18, e19, e20, e21, e22, e23⟩ := vRaw_cells HK0.out
 go_enter Tryz.func18, Tryz.ntmps18
 go_wp2_with fail
 ((with_reducible refine (HC0.out _).mono ?_); rintro e w1 ⟨b, rfl, hb, bb⟩)
 have HB1 := Lib.hid (HB0.out.trans (bb.mono HB0.out.size))
 have HK1 := Lib.hid (blk_below HK0.out bb)
 have HY0 := Lib.hid hb
 clear bb hb e0 e1 e2 e3 e4 e5 e6 e7 e8 e9 e10 e11 e12 e13 e14 e15 e16 e17 e18 e19 e20 e21 e22 e23
 obtain ⟨e0, e1, e2, e3, e4, e5, e6, e7, e8, e9, e10, e11, e12, e13, e14, e15, e16, e17, e18, e19, e20, e21, e22, e23⟩ := vRaw_cells HK1.out
 rename_i K hK
 refine hK _ _ ?_
 clear hK K
 rcases Bool.eq_false_or_eq_true b with rfl | rfl
 rotate_left
 ·have HNO := Lib.hid (show ¬ RightS m s from fun g => by have h := HY0.out.2 ⟨g.r1, g.r2⟩; cases h)
  go_wp2
  all_goals first | (rename_i h1 h2; cases h1; done) | skip
  go_ret
  exact rightS_no HNO.out HB1.out
 have HP0 := Lib.hid (HY0.out.1 rfl)
 clear HY0
 go_wp2_with fail
 ((with_reducible refine (HC1.out _).mono ?_); rintro e w2 ⟨b, rfl, hb, bb⟩)
 have HB2 := Lib.hid (HB1.out.trans (bb.mono HB1.out.size))
 have HK2 := Lib.hid (blk_below HK1.out bb)
 have HY1 := Lib.hid hb
 clear bb hb e0 e1 e2 e3 e4 e5 e6 e7 e8 e9 e10 e11 e12 e13 e14 e15 e16 e17 e18 e19 e20 e21 e22 e23
 obtain ⟨e0, e1, e2, e3, e4, e5, e6, e7, e8, e9, e10, e11, e12, e13, e14, e15, e16, e17, e18, e19, e20, e21, e22, e23⟩ := vRaw_cells HK2.out
 rename_i K hK
 refine hK _ _ ?_
 clear hK K
 rcases Bool.eq_false_or_eq_true b with rfl | rfl
 rotate_left
 ·have HNO := Lib.hid (show ¬ RightS m s from fun g => by have h := HY1.out.2 ⟨g.c1, g.c2⟩; cases h)
  go_wp2
  all_goals first | (rename_i h1 h2; cases h1; done) | skip
  go_ret
  exact rightS_no HNO.out HB2.out
 have HP1 := Lib.hid (HY1.out.1 rfl)
 clear HY1
 obtain ⟨r, hr⟩ : ∃ r : Nat, s.rows = r := ⟨s.rows.toNat, by have := HP0.out; omega⟩
 obtain ⟨c, hc⟩ : ∃ c : Nat, s.cols = c := ⟨s.cols.toNat, by have := HP1.out; omega⟩
 have HR := Lib.hid hr
 have HC := Lib.hid hc
 have HRT := Lib.hid (show s.rows.toNat = r by omega)
 have HCT := Lib.hid (show s.cols.toNat = c by omega)
 have hr1 : 1 ≤ r := by have := HP0.out; omega
 have hr2 : r ≤ 1000 := by have := HP0.out; omega
 have hc1 : 1 ≤ c := by have := HP1.out; omega
 have hc2 : c ≤ 1000 := by have := HP1.out; omega
 have HC2 : Hid (∀ W, Below w.heap.size w W → Calls Tryz.prog 44 #[.agg (vMq m s A1 A2 A3 A4 A5 A6 kk1 k2 k3 k4 k5 k6), .slice A1 s.cells.length kk1] W (BPost (CellsR s.cells r c) W)) := fun W hW => prightCells_any m s A1 A2 A3 A4 A5 A6 s.cells.length s.tabs.length s.other.length s.p.params.length s.p.inter.length s.p.utf.length kk1 k2 k3 k4 k5 k6 (.slice A1 s.cells.length kk1) s.cells r c W hr hc (HS.out.1.cs' HSS.out hW (Nat.le_refl _)) HF.out.cells HF.out.nc hr1 hr2 hc1 hc2
 have HC3 : Hid (∀ W, Below w.heap.size w W → Calls Tryz.prog 45 #[.agg (vMq m s A1 A2 A3 A4 A5 A6 kk1 k2 k3 k4 k5 k6)] W (BPost (OthOk s r c) W)) := fun W hW => prightOther_any m s _ _ _ _ _ _ S W (fun x hx => Nat.lt_of_lt_of_le (HSS.out x hx) hW.size) (HS.out.below HSS.out hW) HF.out r c hr hc hr1 hr2 hc1 hc2
 clear hr hc
 iterate 4 go_step
 refine wpl_loadSg (by rfl) (.tmp 1) rfl rfl HK2.out rfl ?_
 go_wp2_with fail
 ((with_reducible refine (HC2.out _ HB2.out).mono ?_); rintro e w3 ⟨b, rfl, hb, bb⟩)
 have HB3 := Lib.hid (HB2.out.trans (bb.mono HB2.out.size))
 have HK3 := Lib.hid (blk_below HK2.out bb)
 have HY2 := Lib.hid hb
 clear bb hb e0 e1 e2 e3 e4 e5 e6 e7 e8 e9 e10 e11 e12 e13 e14 e15 e16 e17 e18 e19 e20 e21 e22 e23
 obtain ⟨e0, e1, e2, e3, e4, e5, e6, e7, e8, e9, e10, e11, e12, e13, e14, e15, e16, e17, e18, e19, e20, e21, e22, e23⟩ := vRaw_cells HK3.out
 rename_i K hK
 refine hK _ _ ?_
 clear hK K
 rcases Bool.eq_false_or_eq_true b with rfl | rfl
 rotate_left
 ·have HNO := Lib.hid (show ¬ RightS m s from fun g => by have h := HY2.out.2 (by have := g.cells; rw [HRT.out, HCT.out] at this; exact this); cases h)
  go_wp2
  all_goals first | (rename_i h1 h2; cases h1; done) | skip
  go_ret
  exact rightS_no HNO.out HB3.out
 have HP2 := Lib.hid (HY2.out.1 rfl)
 clear HY2
 iterate 4 go_step
 refine wpl_loadSg (by rfl) (.tmp 1) rfl rfl HK3.out rfl ?_
 go_wp2_with fail
 ((with_reducible refine (HC3.out _ HB3.out).mono ?_); rintro e w4 ⟨b, rfl, hb, bb⟩)
 have HB4 := Lib.hid (HB3.out.trans (bb.mono HB3.out.size))
 have HK4 := Lib.hid (blk_below HK3.out bb)
 have HY3 := Lib.hid hb
 clear bb hb e0 e1 e2 e3 e4 e5 e6 e7 e8 e9 e10 e11 e12 e13 e14 e15 e16 e17 e18 e19 e20 e21 e22 e23
 obtain ⟨e0, e1, e2, e3, e4, e5, e6, e7, e8, e9, e10, e11, e12, e13, e14, e15, e16, e17, e18, e19, e20, e21, e22, e23⟩ := vRaw_cells HK4.out
 rename_i K hK
 refine hK _ _ ?_
 clear hK K
 rcases Bool.eq_false_or_eq_true b with rfl | rfl
 rotate_left
 ·have HNO := Lib.hid (show ¬ RightS m s from fun g => by have h := HY3.out.2 ⟨fun e => (by have := g.other e; rw [HRT.out, HCT.out] at this; exact this), fun e => g.noAlt e⟩; cases h)
  go_wp2
  all_goals first | (rename_i h1 h2; cases h1; done) | skip
  go_ret
  exact rightS_no HNO.out HB4.out
 have HP3 := Lib.hid (HY3.out.1 rfl)
 clear HY3
 iterate 4 go_step
 refine wpl_loadSg (by rfl) (.tmp 1) rfl rfl HK4.out rfl ?_
 go_wp2_with fail
 ((with_reducible refine (HC4.out _).mono ?_); rintro e w5 ⟨b, rfl, hb, bb⟩)
 have HB5 := Lib.hid (HB4.out.trans (bb.mono HB4.out.size))
 have HK5 := Lib.hid (blk_below HK4.out bb)
 have HY4 := Lib.hid hb
 clear bb hb e0 e1 e2 e3 e4 e5 e6 e7 e8 e9 e10 e11 e12 e13 e14 e15 e16 e17 e18 e19 e20 e21 e22 e23
 obtain ⟨e0, e1, e2, e3, e4, e5, e6, e7, e8, e9, e10, e11, e12, e13, e14, e15, e16, e17, e18, e19, e20, e21, e22, e23⟩ := vRaw_cells HK5.out
 rename_i K hK
 refine hK _ _ ?_
 clear hK K
 rcases Bool.eq_false_or_eq_true b with rfl | rfl
 rotate_left
 ·have HNO := Lib.hid (show ¬ RightS m s from fun g => by have h := HY4.out.2 ⟨g.y0, g.y1, g.x0, g.x1⟩; cases h)
  go_wp2
  all_goals first | (rename_i h1 h2; cases h1; done) | skip
  go_ret
  exact rightS_no HNO.out HB5.out
 have HP4 := Lib.hid (HY4.out.1 rfl)
 clear HY4
 iterate 4 go_step
 refine wpl_loadSg (by rfl) (.tmp 1) rfl rfl HK5.out rfl ?_
 go_wp2_with fail
 ((with_reducible refine (HC5.out _).mono ?_); rintro e w6 ⟨b, rfl, hb, bb⟩)
 have HB6 := Lib.hid (HB5.out.trans (bb.mono HB5.out.size))
 have HK6 := Lib.hid (blk_below HK5.out bb)
 have HY5 := Lib.hid hb
 clear bb hb e0 e1 e2 e3 e4 e5 e6 e7 e8 e9 e10 e11 e12 e13 e14 e15 e16 e17 e18 e19 e20 e21 e22 e23
 obtain ⟨e0, e1, e2, e3, e4, e5, e6, e7, e8, e9, e10, e11, e12, e13, e14, e15, e16, e17, e18, e19, e20, e21, e22, e23⟩ := vRaw_cells HK6.out
 rename_i K hK
 refine hK _ _ ?_
 clear hK K
 rcases Bool.eq_false_or_eq_true b with rfl | rfl
 rotate_left
 ·have HNO := Lib.hid (show ¬ RightS m s from fun g => by have h := HY5.out.2 ⟨g.sy0, g.sy1, g.sx0, g.sx1⟩; cases h)
  go_wp2
  all_goals first | (rename_i h1 h2; cases h1; done) | skip
  go_ret
  exact rightS_no HNO.out HB6.out
 have HP5 := Lib.hid (HY5.out.1 rfl)
 clear HY5
 iterate 4 go_step
 refine wpl_loadSg (by rfl) (.tmp 1) rfl rfl HK6.out rfl ?_
 go_wp2_with fail
 ((with_reducible refine (HC6.out _).mono ?_); rintro e w7 ⟨b, rfl, hb, bb⟩)
 have HB7 := Lib.hid (HB6.out.trans (bb.mono HB6.out.size))
 have HK7 := Lib.hid (blk_below HK6.out bb)
 have HY6 := Lib.hid hb
 clear bb hb e0 e1 e2 e3 e4 e5 e6 e7 e8 e9 e10 e11 e12 e13 e14 e15 e16 e17 e18 e19 e20 e21 e22 e23
 obtain ⟨e0, e1, e2, e3, e4, e5, e6, e7, e8, e9, e10, e11, e12, e13, e14, e15, e16, e17, e18, e19, e20, e21, e22, e23⟩ := vRaw_cells HK7.out
 rename_i K hK
 refine hK _ _ ?_
 clear hK K
 rcases Bool.eq_false_or_eq_true b with rfl | rfl
 rotate_left
 ·have HNO := Lib.hid (show ¬ RightS m s from fun g => by have h := HY6.out.2 ⟨g.oy0, g.oy1, g.ox0, g.ox1⟩; cases h)
  go_wp2
  all_goals first | (rename_i h1 h2; cases h1; done) | skip
  go_ret
  exact rightS_no HNO.out HB7.out
 have HP6 := Lib.hid (HY6.out.1 rfl)
 clear HY6
 cases hw : s.wrap with
 | false =>
  have HW := Lib.hid (show s.wrap = true → s.x = (c : Int) - 1 from fun e => by rw [hw] at e; cases e)
  rw [hw] at e5
  clear hw
  go_wp2_with fail
  ((with_reducible refine (HC8.out _).mono ?_); rintro e w8 ⟨b, rfl, hb, bb⟩)
  have HB8 := Lib.hid (HB7.out.trans (bb.mono HB7.out.size))
  have HK8 := Lib.hid (blk_below HK7.out bb)
  have HY8 := Lib.hid hb
  clear bb hb e0 e1 e2 e3 e4 e5 e6 e7 e8 e9 e10 e11 e12 e13 e14 e15 e16 e17 e18 e19 e20 e21 e22 e23
  obtain ⟨e0, e1, e2, e3, e4, e5, e6, e7, e8, e9, e10, e11, e12, e13, e14, e15, e16, e17, e18, e19, e20, e21, e22, e23⟩ := vRaw_cells HK8.out
  rename_i K hK
  refine hK _ _ ?_
  clear hK K
  rcases Bool.eq_false_or_eq_true b with rfl | rfl
  rotate_left
  ·have HNO := Lib.hid (show ¬ RightS m s from fun g => by have h := HY8.out.2 g.attr; cases h)
   go_wp2
   go_ret
   exact rightS_no HNO.out HB8.out
  have HP8 := Lib.hid (HY8.out.1 rfl)
  clear HY8
  go_wp2_with fail
  ((with_reducible refine (HC9.out _).mono ?_); rintro e w9 ⟨b, rfl, hb, bb⟩)
  have HB9 := Lib.hid (HB8.out.trans (bb.mono HB8.out.size))
  have HK9 := Lib.hid (blk_below HK8.out bb)
  have HY9 := Lib.hid hb
  clear bb hb e0 e1 e2 e3 e4 e5 e6 e7 e8 e9 e10 e11 e12 e13 e14 e15 e16 e17 e18 e19 e20 e21 e22 e23
  obtain ⟨e0, e1, e2, e3, e4, e5, e6, e7, e8, e9, e10, e11, e12, e13, e14, e15, e16, e17, e18, e19, e20, e21, e22, e23⟩ := vRaw_cells HK9.out
  rename_i K hK
  refine hK _ _ ?_
  clear hK K
  rcases Bool.eq_false_or_eq_true b with rfl | rfl
  rotate_left
  ·have HNO := Lib.hid (show ¬ RightS m s from fun g => by have h := HY9.out.2 g.sattr; cases h)
   go_wp2
   go_ret
   exact rightS_no HNO.out HB9.out
  have HP9 := Lib.hid (HY9.out.1 rfl)
  clear HY9
  iterate 6 go_step
  refine wpl_loadSg (by rfl) (.tmp 1) rfl rfl HK9.out rfl ?_
  go_wp2_with fail
  ((with_reducible refine (HC10.out _).mono ?_); rintro e w10 ⟨b, rfl, hb, bb⟩)
  have HB10 := Lib.hid (HB9.out.trans (bb.mono HB9.out.size))
  have HK10 := Lib.hid (blk_below HK9.out bb)
  have HY10 := Lib.hid hb
  clear bb hb e0 e1 e2 e3 e4 e5 e6 e7 e8 e9 e10 e11 e12 e13 e14 e15 e16 e17 e18 e19 e20 e21 e22 e23
  obtain ⟨e0, e1, e2, e3, e4, e5, e6, e7, e8, e9, e10, e11, e12, e13, e14, e15, e16, e17, e18, e19, e20, e21, e22, e23⟩ := vRaw_cells HK10.out
  rename_i K hK
  refine hK _ _ ?_
  clear hK K
  rcases Bool.eq_false_or_eq_true b with rfl | rfl
  rotate_left
  ·have HNO := Lib.hid (show ¬ RightS m s from fun g => by have h := HY10.out.2 (by have h1 := g.tb; have h2 := g.t0; have h3 := g.b1; omega); cases h)
   go_wp2
   go_ret
   exact rightS_no HNO.out HB10.out
  have HP10 := Lib.hid (HY10.out.1 rfl)
  clear HY10
  rw [HC.out] at e1
  by_cases bt : (s.tabs.length : Int) = (c : Int)
  rotate_left
  ·have ftt : ((s.tabs.length : Int) == (c : Int)) = false := beq_eq_false_iff_ne.2 bt
   have HNO := Lib.hid (show ¬ RightS m s from fun g => by have := g.tabs; rw [HC.out] at this; omega)
   clear bt
   go_wp2
   go_ret
   exact rightS_no HNO.out HB10.out
  have ftt : ((s.tabs.length : Int) == (c : Int)) = true := beq_iff_eq.2 bt
  have HT := Lib.hid bt
  clear bt
  go_wp2_with fail
  ((with_reducible refine (HC12.out _ HB10.out).mono ?_); rintro e w11 ⟨b, rfl, hb, bb⟩)
  have HB11 := Lib.hid (HB10.out.trans (bb.mono HB10.out.size))
  have HK11 := Lib.hid (blk_below HK10.out bb)
  have HY12 := Lib.hid hb
  clear bb hb e0 e1 e2 e3 e4 e5 e6 e7 e8 e9 e10 e11 e12 e13 e14 e15 e16 e17 e18 e19 e20 e21 e22 e23
  obtain ⟨e0, e1, e2, e3, e4, e5, e6, e7, e8, e9, e10, e11, e12, e13, e14, e15, e16, e17, e18, e19, e20, e21, e22, e23⟩ := vRaw_cells HK11.out
  rename_i K hK
  refine hK _ _ ?_
  clear hK K
  go_wp2
  go_ret
  refine ⟨b, rfl, ?_, HB11.out⟩
  rw [HY12.out]
  have h4 := HP4.out
  have h5 := HP5.out
  have h6 := HP6.out
  rw [HR.out, HC.out] at h4 h5 h6
  have h10 := HP10.out
  rw [HR.out] at h10
  exact ⟨fun g => rightS_of HR.out HC.out hr1 hr2 hc1 hc2 HP2.out ⟨⟨h4.1, h4.2.1⟩, ⟨h4.2.2.1, h4.2.2.2⟩, ⟨h5.1, h5.2.1⟩, ⟨h5.2.2.1, h5.2.2.2⟩, ⟨h6.1, h6.2.1⟩, ⟨h6.2.2.1, h6.2.2.2⟩⟩ HW.out HP8.out HP9.out HT.out g ⟨by omega, by omega⟩ (by omega) HP3.out.1 HP3.out.2, fun g => g.p⟩
 | true =>
  rw [HC.out] at e1
  by_cases hx : s.x = (c : Int) - 1
  rotate_left
  ·have fx : (s.x == (c : Int) - 1) = false := beq_eq_false_iff_ne.2 hx
   have HNO := Lib.hid (show ¬ RightS m s from fun g => by have := g.wrap hw; rw [HC.out] at this; omega)
   have hwc : IntKind.i64.wrap ((c : Int) - 1) = (c : Int) - 1 := by rw [IntKind.wrap_i64]; omega
   rw [hw] at e5
   clear hx hw
   go_wp2
   go_ret
   exact rightS_no HNO.out HB7.out
  have fx : (s.x == (c : Int) - 1) = true := beq_iff_eq.2 hx
  have HW := Lib.hid (show s.wrap = true → s.x = (c : Int) - 1 from fun _ => hx)
  have hwc : IntKind.i64.wrap ((c : Int) - 1) = (c : Int) - 1 := by rw [IntKind.wrap_i64]; omega
  rw [hw] at e5
  clear hx hw
  go_wp2_with fail
  ((with_reducible refine (HC8.out _).mono ?_); rintro e w8 ⟨b, rfl, hb, bb⟩)
  have HB8 := Lib.hid (HB7.out.trans (bb.mono HB7.out.size))
  have HK8 := Lib.hid (blk_below HK7.out bb)
  have HY8 := Lib.hid hb
  clear bb hb e0 e1 e2 e3 e4 e5 e6 e7 e8 e9 e10 e11 e12 e13 e14 e15 e16 e17 e18 e19 e20 e21 e22 e23
  obtain ⟨e0, e1, e2, e3, e4, e5, e6, e7, e8, e9, e10, e11, e12, e13, e14, e15, e16, e17, e18, e19, e20, e21, e22, e23⟩ := vRaw_cells HK8.out
  rename_i K hK
  refine hK _ _ ?_
  clear hK K
  rcases Bool.eq_false_or_eq_true b with rfl | rfl
  rotate_left
  ·have HNO := Lib.hid (show ¬ RightS m s from fun g => by have h := HY8.out.2 g.attr; cases h)
   go_wp2
   go_ret
   exact rightS_no HNO.out HB8.out
  have HP8 := Lib.hid (HY8.out.1 rfl)
  clear HY8
  go_wp2_with fail
  ((with_reducible refine (HC9.out _).mono ?_); rintro e w9 ⟨b, rfl, hb, bb⟩)
  have HB9 := Lib.hid (HB8.out.trans (bb.mono HB8.out.size))
  have HK9 := Lib.hid (blk_below HK8.out bb)
  have HY9 := Lib.hid hb
  clear bb hb e0 e1 e2 e3 e4 e5 e6 e7 e8 e9 e10 e11 e12 e13 e14 e15 e16 e17 e18 e19 e20 e21 e22 e23
  obtain ⟨e0, e1, e2, e3, e4, e5, e6, e7, e8, e9, e10, e11, e12, e13, e14, e15, e16, e17, e18, e19, e20, e21, e22, e23⟩ := vRaw_cells HK9.out
  rename_i K hK
  refine hK _ _ ?_
  clear hK K
  rcases Bool.eq_false_or_eq_true b with rfl | rfl
  rotate_left
  ·have HNO := Lib.hid (show ¬ RightS m s from fun g => by have h := HY9.out.2 g.sattr; cases h)
   go_wp2
   go_ret
   exact rightS_no HNO.out HB9.out
  have HP9 := Lib.hid (HY9.out.1 rfl)
  clear HY9
  iterate 6 go_step
  refine wpl_loadSg (by rfl) (.tmp 1) rfl rfl HK9.out rfl ?_
  go_wp2_with fail
  ((with_reducible refine (HC10.out _).mono ?_); rintro e w10 ⟨b, rfl, hb, bb⟩)
  have HB10 := Lib.hid (HB9.out.trans (bb.mono HB9.out.size))
  have HK10 := Lib.hid (blk_below HK9.out bb)
  have HY10 := Lib.hid hb
  clear bb hb e0 e1 e2 e3 e4 e5 e6 e7 e8 e9 e10 e11 e12 e13 e14 e15 e16 e17 e18 e19 e20 e21 e22 e23
  obtain ⟨e0, e1, e2, e3, e4, e5, e6, e7, e8, e9, e10, e11, e12, e13, e14, e15, e16, e17, e18, e19, e20, e21, e22, e23⟩ := vRaw_cells HK10.out
  rename_i K hK
  refine hK _ _ ?_
  clear hK K
  rcases Bool.eq_false_or_eq_true b with rfl | rfl
  rotate_left
  ·have HNO := Lib.hid (show ¬ RightS m s from fun g => by have h := HY10.out.2 (by have h1 := g.tb; have h2 := g.t0; have h3 := g.b1; omega); cases h)
   go_wp2
   go_ret
   exact rightS_no HNO.out HB10.out
  have HP10 := Lib.hid (HY10.out.1 rfl)
  clear HY10
  rw [HC.out] at e1
  by_cases bt : (s.tabs.length : Int) = (c : Int)
  rotate_left
  ·have ftt : ((s.tabs.length : Int) == (c : Int)) = false := beq_eq_false_iff_ne.2 bt
   have HNO := Lib.hid (show ¬ RightS m s from fun g => by have := g.tabs; rw [HC.out] at this; omega)
   clear bt
   go_wp2
   go_ret
   exact rightS_no HNO.out HB10.out
  have ftt : ((s.tabs.length : Int) == (c : Int)) = true := beq_iff_eq.2 bt
  have HT := Lib.hid bt
  clear bt
  go_wp2_with fail
  ((with_reducible refine (HC12.out _ HB10.out).mono ?_); rintro e w11 ⟨b, rfl, hb, bb⟩)
  have HB11 := Lib.hid (HB10.out.trans (bb.mono HB10.out.size))
  have HK11 := Lib.hid (blk_below HK10.out bb)
  have HY12 := Lib.hid hb
  clear bb hb e0 e1 e2 e3 e4 e5 e6 e7 e8 e9 e10 e11 e12 e13 e14 e15 e16 e17 e18 e19 e20 e21 e22 e23
  obtain ⟨e0, e1, e2, e3, e4, e5, e6, e7, e8, e9, e10, e11, e12, e13, e14, e15, e16, e17, e18, e19, e20, e21, e22, e23⟩ := vRaw_cells HK11.out
  rename_i K hK
  refine hK _ _ ?_
  clear hK K
  go_wp2
  go_ret
  refine ⟨b, rfl, ?_, HB11.out⟩
  rw [HY12.out]
  have h4 := HP4.out
  have h5 := HP5.out
  have h6 := HP6.out
  rw [HR.out, HC.out] at h4 h5 h6
  have h10 := HP10.out
  rw [HR.out] at h10
  exact ⟨fun g => rightS_of HR.out HC.out hr1 hr2 hc1 hc2 HP2.out ⟨⟨h4.1, h4.2.1⟩, ⟨h4.2.2.1, h4.2.2.2⟩, ⟨h5.1, h5.2.1⟩, ⟨h5.2.2.1, h5.2.2.2⟩, ⟨h6.1, h6.2.1⟩, ⟨h6.2.2.1, h6.2.2.2⟩⟩ HW.out HP8.out HP9.out HT.out g ⟨by omega, by omega⟩ (by omega) HP3.out.1 HP3.out.2, fun g => g.p⟩
end Go.Proofs.YthncoigjfhmldaaGreat
