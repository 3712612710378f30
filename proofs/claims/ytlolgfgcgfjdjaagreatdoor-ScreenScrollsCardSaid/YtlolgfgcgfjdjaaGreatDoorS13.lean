/- What is proved here: the contract of the landed screen's put, way by way; the contract of the landed screen's put, way by way: a wrap is pending; the contract of the landed screen's put: what the document's print tells; contracts of the landed screen's number, choice, inside, move; plain facts on the document's erasing of a screen's cells, told row by row; no program is named. -/
import Derived.Test.YtlolgfgcgfjdjaaGreatDoorS12
import Derived.Test.YtlolgfgcgfjdjaaGreatDoorS7
import Derived.Test.YtlolgfgcgfjdjaaGreatDoorS8
import Derived.Test.YtlolgfgcgfjdjaaGreatDoorS9
import Derived.Deep.RegionWith
import Derived.Deep.QuietTactic
import Derived.BigQuiet
namespace Go.Proofs.YtlolgfgcgfjdjaaGreatDoor
open Go.RowKit
set_option linter.unusedVariables false
set_option linter.unusedSimpArgs false
set_option maxHeartbeats 2000000
set_option maxRecDepth 100000
theorem pput_01 (s : Sc) (r c : Nat) (vc vt vo : Value) (A4 A5 A6 : Option Addr) (n4 n5 n6 k4 k5 k6 : Nat) (base : Nat) (w : World) (hbase : base ≤ w.heap.size) (h : PsL w base vc vt vo s) (hi : ScIn { s with wrap := false } r c) (rn : Int) (h0 : -2147483648 ≤ rn) (h1 : rn ≤ 2147483647) (hsp : Spans w) (hgb : 0 < w.heap.size) (hwd : widthL rn = 1) (hwr : s.wrap = false) :
  Calls Tryz.prog 70 #[.agg (vS s vc vt vo (.slice A4 n4 k4) (.slice A5 n5 k5) (.slice A6 n6 k6)), .int .i32 rn] w (PsPost base vc vt vo (putS s rn 1) w) := by
 have H0 := Lib.hid (show ∀ x, OwB vc vt vo x → x < w.heap.size from fun x hx => (h.lt x hx).2)
 obtain ⟨g1, k1, g2, k2, A3, k3, hvc, hvt, hvo, ⟨b1, l1, p1, q1⟩, ⟨b2, l2, p2, q2⟩, p3, q3⟩ := h.open_ hi
 subst hvc hvt hvo
 have H := Lib.hid h
 have HI := Lib.hid hi
 have hc1 := hi.g.c1
 have hc2 := hi.g.c2
 clear h hi
 have h2 := two_new w (.cells (vS s (.slice (some ⟨g1, 0, none⟩) s.cells.length k1) (.slice (some ⟨g2, 0, none⟩) s.tabs.length k2) (.slice A3 s.other.length k3) (.slice A4 n4 k4) (.slice A5 n5 k5) (.slice A6 n6 k6)) 31) (.cells zQ 31)
 have hW := wof_any rn h0 h1 ((w.alloc (.cells (vS s (.slice (some ⟨g1, 0, none⟩) s.cells.length k1) (.slice (some ⟨g2, 0, none⟩) s.tabs.length k2) (.slice A3 s.other.length k3) (.slice A4 n4 k4) (.slice A5 n5 k5) (.slice A6 n6 k6)) 31)).alloc (.cells zQ 31)) (hsp.below hgb h2.1)
 rw [hwd] at hW
 have HW := Lib.hid hW
 have H2 := Lib.hid h2
 clear hW h2 hwd
 go_enter Tryz.func70, Tryz.ntmps70
 go_upto_region 2 with ((with_reducible refine HW.out.mono ?_); rintro e w1 ⟨rfl, bw⟩)
 have hb4 : Below (w.heap.size + 1 + 1) _ w1 := (by rw [← H2.out.2]; exact bw)
 obtain ⟨e0, e1⟩ := two_keptB hb4
 have zw := bw.size
 rw [H2.out.2] at zw
 have HS : Hid (PutAt w base _ _ _ r c _ s g1 k1 g2 k2 A3 k3 (.slice A4 n4 k4) (.slice A5 n5 k5) (.slice A6 n6 k6) w1) :=
  ⟨e0, e1, (H.out.below H2.out.1).below bw, Fr.of (H2.out.1.trans (bw.mono H2.out.1.size)) _, by omega, fun x hx => .inl hx, HI.out, sl3⟩
 clear bw hb4 e0 e1 zw
 obtain ⟨d1, f1⟩ := cellR (v := .int .i64 s.cols) HS.out.v 1 rfl
 obtain ⟨d4, f4⟩ := cellR (v := .int .i64 s.x) HS.out.v 4 rfl
 obtain ⟨d5, f5⟩ := cellR (v := .bool s.wrap) HS.out.v 5 rfl
 obtain ⟨d13, f13⟩ := cellR (v := .bool s.auto) HS.out.v 13 rfl
 have xx0 : 0 ≤ s.x := HS.out.i.x0
 have xx1 : s.x < (c : Int) := HS.out.i.x1
 have xc : s.cols = (c : Int) := HS.out.i.cols
 have XC := Lib.hid xc
 replace xx1 : s.x ≤ s.cols - 1 := by omega
 have xx2 : 1 ≤ s.cols := by omega
 have xx3 : s.cols ≤ 1000 := by omega
 clear xc
 rw [hwr] at d5
 clear hwr
 have dgt : ¬ s.cols - s.x < 1 := by omega
 go_upto_region 10 with fail
 refine wp_region_lit ?_
 refine wpl_loadS rfl (.tmp 2) rfl rfl HS.out.v rfl ?_
 go_wp2_with fail
 ((with_reducible refine (pwrite1_any s r c g1 k1 g2 k2 A3 k3 A4 A5 A6 n4 n5 n6 k4 k5 k6 base _ (by have := HS.out.n; omega) HS.out.p HS.out.i rn).mono ?_); rintro e w6 ⟨rfl, o6, f6⟩)
 obtain ⟨ne0, ne1⟩ := HS.out.g1ne H0.out
 have v6 : w6.heap[w.heap.size]? = _ := (f6.block _ (by have := HS.out.n; omega) (fun e => ne0 e.symm)).trans HS.out.v
 have z6 : w6.heap[w.heap.size + 1]? = _ := (f6.block _ HS.out.n (fun e => ne1 e.symm)).trans HS.out.z
 have n6' := f6.size
 rename_i K hK
 refine hK _ _ ?_
 clear hK K
 replace d1 := (cellR (v := .int .i64 s.cols) v6 1 rfl).1
 obtain ⟨c4, g4⟩ := cellR (v := .int .i64 s.x) v6 4 rfl
 obtain ⟨c5, g5⟩ := cellR (v := .bool s.wrap) v6 5 rfl
 replace d13 := (cellR (v := .bool s.auto) v6 13 rfl).1
 have V6 := Lib.hid v6
 have Z6 := Lib.hid z6
 have O6 := Lib.hid o6
 have F6 := Lib.hid f6
 clear v6 z6 o6 f6 d4 f4 f1 d5 f5 f13
 have hwt := HS.out.wrote O6.out F6.out
 have HWT := Lib.hid hwt
 have hfar := HS.out.far H0.out
 have HFAR := Lib.hid hfar
 have HSUB := Lib.hid HS.out.sub
 clear hwt hfar
 by_cases hge : s.cols ≤ s.x + 1
 ·have HGE := Lib.hid hge
  go_upto_region 14 with fail
  refine wp_region_lit ?_
  refine wpl_loadS (xs := vS { s with cells := mendL (cells1 s rn) s.cols s.y, x := s.cols - 1, wrap := s.auto } (.slice (some ⟨g1, 0, none⟩) s.cells.length k1) (.slice (some ⟨g2, 0, none⟩) s.tabs.length k2) (.slice A3 s.other.length k3) (.slice A4 n4 k4) (.slice A5 n5 k5) (.slice A6 n6 k6)) rfl (.tmp 2) rfl rfl ((heap_setCell_same _ _ 5 _ _ _ (heap_setCell_same _ _ 4 _ _ _ (heap_setCell_same _ _ 4 _ _ _ V6.out))).trans rfl) rfl ?_
  have z14 := (heap_setCell_other _ ⟨w.heap.size, 5, none⟩ (w.heap.size + 1) (.bool s.auto) (by simp)).trans ((heap_setCell_other _ ⟨w.heap.size, 4, none⟩ (w.heap.size + 1) (.int .i64 (s.cols - 1)) (by simp)).trans ((heap_setCell_other _ ⟨w.heap.size, 4, none⟩ (w.heap.size + 1) (.int .i64 (s.x + 1)) (by simp)).trans Z6.out))
  refine wpl_storeS rfl (.tmp 4) (.tmp 55) rfl rfl rfl z14 rfl rfl (all24 rfl rfl rfl rfl rfl rfl rfl rfl rfl rfl rfl rfl rfl rfl rfl rfl rfl rfl rfl rfl rfl rfl rfl rfl) ?_
  go_wp2
  rw [putS_ge1 HGE.out]
  refine psEnd (w.heap.size + 1) 4 Tryz.results70 ?_ ?_ z14 (by omega) (((HWT.out.2.setCell (.inr (Nat.le_refl _)) _).setCell (.inr (Nat.le_refl _)) _).setCell (.inr (Nat.le_refl _)) _) sl3 ((((HWT.out.1.set HFAR.out.1 _).set HFAR.out.1 _).set HFAR.out.1 _).like rfl rfl rfl) HFAR.out.2 (fun x hx => (HSUB.out x hx).imp id (fun h => by omega))
  all_goals rfl
 ·have HGE := Lib.hid hge
  go_upto_region 14 with fail
  refine wp_region_lit ?_
  refine wpl_loadS (xs := vS { s with cells := mendL (cells1 s rn) s.cols s.y, x := s.x + 1 } (.slice (some ⟨g1, 0, none⟩) s.cells.length k1) (.slice (some ⟨g2, 0, none⟩) s.tabs.length k2) (.slice A3 s.other.length k3) (.slice A4 n4 k4) (.slice A5 n5 k5) (.slice A6 n6 k6)) rfl (.tmp 2) rfl rfl ((heap_setCell_same _ _ 4 _ _ _ V6.out).trans rfl) rfl ?_
  have z14 := (heap_setCell_other _ ⟨w.heap.size, 4, none⟩ (w.heap.size + 1) (.int .i64 (s.x + 1)) (by simp)).trans Z6.out
  refine wpl_storeS rfl (.tmp 4) (.tmp 55) rfl rfl rfl z14 rfl rfl (all24 rfl rfl rfl rfl rfl rfl rfl rfl rfl rfl rfl rfl rfl rfl rfl rfl rfl rfl rfl rfl rfl rfl rfl rfl) ?_
  go_wp2
  rw [putS_lt1 (by have := HGE.out; omega)]
  refine psEnd (w.heap.size + 1) 4 Tryz.results70 ?_ ?_ z14 (by omega) (HWT.out.2.setCell (.inr (Nat.le_refl _)) _) sl3 ((HWT.out.1.set HFAR.out.1 _).like rfl rfl rfl) HFAR.out.2 (fun x hx => (HSUB.out x hx).imp id (fun h => by omega))
  all_goals rfl
theorem pput_02 (s : Sc) (r c : Nat) (vc vt vo : Value) (A4 A5 A6 : Option Addr) (n4 n5 n6 k4 k5 k6 : Nat) (base : Nat) (w : World) (hbase : base ≤ w.heap.size) (h : PsL w base vc vt vo s) (hi : ScIn { s with wrap := false } r c) (rn : Int) (h0 : -2147483648 ≤ rn) (h1 : rn ≤ 2147483647) (hsp : Spans w) (hgb : 0 < w.heap.size) (hwd : widthL rn = 2) (hwr : s.wrap = false) (hend : s.x + 1 < s.cols) :
  Calls Tryz.prog 70 #[.agg (vS s vc vt vo (.slice A4 n4 k4) (.slice A5 n5 k5) (.slice A6 n6 k6)), .int .i32 rn] w (PsPost base vc vt vo (putS s rn 2) w) := by
 have H0 := Lib.hid (show ∀ x, OwB vc vt vo x → x < w.heap.size from fun x hx => (h.lt x hx).2)
 obtain ⟨g1, k1, g2, k2, A3, k3, hvc, hvt, hvo, ⟨b1, l1, p1, q1⟩, ⟨b2, l2, p2, q2⟩, p3, q3⟩ := h.open_ hi
 subst hvc hvt hvo
 have H := Lib.hid h
 have HI := Lib.hid hi
 have hc1 := hi.g.c1
 have hc2 := hi.g.c2
 clear h hi
 have h2 := two_new w (.cells (vS s (.slice (some ⟨g1, 0, none⟩) s.cells.length k1) (.slice (some ⟨g2, 0, none⟩) s.tabs.length k2) (.slice A3 s.other.length k3) (.slice A4 n4 k4) (.slice A5 n5 k5) (.slice A6 n6 k6)) 31) (.cells zQ 31)
 have hW := wof_any rn h0 h1 ((w.alloc (.cells (vS s (.slice (some ⟨g1, 0, none⟩) s.cells.length k1) (.slice (some ⟨g2, 0, none⟩) s.tabs.length k2) (.slice A3 s.other.length k3) (.slice A4 n4 k4) (.slice A5 n5 k5) (.slice A6 n6 k6)) 31)).alloc (.cells zQ 31)) (hsp.below hgb h2.1)
 rw [hwd] at hW
 have HW := Lib.hid hW
 have H2 := Lib.hid h2
 clear hW h2 hwd
 go_enter Tryz.func70, Tryz.ntmps70
 go_upto_region 2 with ((with_reducible refine HW.out.mono ?_); rintro e w1 ⟨rfl, bw⟩)
 have hb4 : Below (w.heap.size + 1 + 1) _ w1 := (by rw [← H2.out.2]; exact bw)
 obtain ⟨e0, e1⟩ := two_keptB hb4
 have zw := bw.size
 rw [H2.out.2] at zw
 have HS : Hid (PutAt w base _ _ _ r c _ s g1 k1 g2 k2 A3 k3 (.slice A4 n4 k4) (.slice A5 n5 k5) (.slice A6 n6 k6) w1) :=
  ⟨e0, e1, (H.out.below H2.out.1).below bw, Fr.of (H2.out.1.trans (bw.mono H2.out.1.size)) _, by omega, fun x hx => .inl hx, HI.out, sl3⟩
 clear bw hb4 e0 e1 zw
 obtain ⟨d1, f1⟩ := cellR (v := .int .i64 s.cols) HS.out.v 1 rfl
 obtain ⟨d4, f4⟩ := cellR (v := .int .i64 s.x) HS.out.v 4 rfl
 obtain ⟨d5, f5⟩ := cellR (v := .bool s.wrap) HS.out.v 5 rfl
 obtain ⟨d13, f13⟩ := cellR (v := .bool s.auto) HS.out.v 13 rfl
 have xx0 : 0 ≤ s.x := HS.out.i.x0
 have xx1 : s.x < (c : Int) := HS.out.i.x1
 have xc : s.cols = (c : Int) := HS.out.i.cols
 have XC := Lib.hid xc
 replace xx1 : s.x ≤ s.cols - 1 := by omega
 have xx2 : 1 ≤ s.cols := by omega
 have xx3 : s.cols ≤ 1000 := by omega
 clear xc
 rw [hwr] at d5
 clear hwr
 have dgt : ¬ s.cols - s.x < 2 := by omega
 have hx2 : s.x + 1 < s.cols := by omega
 go_upto_region 10 with fail
 refine wp_region_lit ?_
 refine wpl_loadS rfl (.tmp 2) rfl rfl HS.out.v rfl ?_
 go_wp2_with fail
 ((with_reducible refine (pwrite2_any s r c g1 k1 g2 k2 A3 k3 A4 A5 A6 n4 n5 n6 k4 k5 k6 base _ (by have := HS.out.n; omega) HS.out.p HS.out.i rn hx2).mono ?_); rintro e w6 ⟨rfl, o6, f6⟩)
 obtain ⟨ne0, ne1⟩ := HS.out.g1ne H0.out
 have v6 : w6.heap[w.heap.size]? = _ := (f6.block _ (by have := HS.out.n; omega) (fun e => ne0 e.symm)).trans HS.out.v
 have z6 : w6.heap[w.heap.size + 1]? = _ := (f6.block _ HS.out.n (fun e => ne1 e.symm)).trans HS.out.z
 have n6' := f6.size
 rename_i K hK
 refine hK _ _ ?_
 clear hK K
 replace d1 := (cellR (v := .int .i64 s.cols) v6 1 rfl).1
 obtain ⟨c4, g4⟩ := cellR (v := .int .i64 s.x) v6 4 rfl
 obtain ⟨c5, g5⟩ := cellR (v := .bool s.wrap) v6 5 rfl
 replace d13 := (cellR (v := .bool s.auto) v6 13 rfl).1
 have V6 := Lib.hid v6
 have Z6 := Lib.hid z6
 have O6 := Lib.hid o6
 have F6 := Lib.hid f6
 clear v6 z6 o6 f6 d4 f4 f1 d5 f5 f13
 have hwt := HS.out.wrote O6.out F6.out
 have HWT := Lib.hid hwt
 have hfar := HS.out.far H0.out
 have HFAR := Lib.hid hfar
 have HSUB := Lib.hid HS.out.sub
 clear hwt hfar
 by_cases hge : s.cols ≤ s.x + 2
 ·have HGE := Lib.hid hge
  go_upto_region 14 with fail
  refine wp_region_lit ?_
  refine wpl_loadS (xs := vS { s with cells := mendL (cells2 s rn) s.cols s.y, x := s.cols - 1, wrap := s.auto } (.slice (some ⟨g1, 0, none⟩) s.cells.length k1) (.slice (some ⟨g2, 0, none⟩) s.tabs.length k2) (.slice A3 s.other.length k3) (.slice A4 n4 k4) (.slice A5 n5 k5) (.slice A6 n6 k6)) rfl (.tmp 2) rfl rfl ((heap_setCell_same _ _ 5 _ _ _ (heap_setCell_same _ _ 4 _ _ _ (heap_setCell_same _ _ 4 _ _ _ V6.out))).trans rfl) rfl ?_
  have z14 := (heap_setCell_other _ ⟨w.heap.size, 5, none⟩ (w.heap.size + 1) (.bool s.auto) (by simp)).trans ((heap_setCell_other _ ⟨w.heap.size, 4, none⟩ (w.heap.size + 1) (.int .i64 (s.cols - 1)) (by simp)).trans ((heap_setCell_other _ ⟨w.heap.size, 4, none⟩ (w.heap.size + 1) (.int .i64 (s.x + 2)) (by simp)).trans Z6.out))
  refine wpl_storeS rfl (.tmp 4) (.tmp 55) rfl rfl rfl z14 rfl rfl (all24 rfl rfl rfl rfl rfl rfl rfl rfl rfl rfl rfl rfl rfl rfl rfl rfl rfl rfl rfl rfl rfl rfl rfl rfl) ?_
  go_wp2
  rw [putS_ge2 HGE.out]
  refine psEnd (w.heap.size + 1) 4 Tryz.results70 ?_ ?_ z14 (by omega) (((HWT.out.2.setCell (.inr (Nat.le_refl _)) _).setCell (.inr (Nat.le_refl _)) _).setCell (.inr (Nat.le_refl _)) _) sl3 ((((HWT.out.1.set HFAR.out.1 _).set HFAR.out.1 _).set HFAR.out.1 _).like rfl rfl rfl) HFAR.out.2 (fun x hx => (HSUB.out x hx).imp id (fun h => by omega))
  all_goals rfl
 ·have HGE := Lib.hid hge
  go_upto_region 14 with fail
  refine wp_region_lit ?_
  refine wpl_loadS (xs := vS { s with cells := mendL (cells2 s rn) s.cols s.y, x := s.x + 2 } (.slice (some ⟨g1, 0, none⟩) s.cells.length k1) (.slice (some ⟨g2, 0, none⟩) s.tabs.length k2) (.slice A3 s.other.length k3) (.slice A4 n4 k4) (.slice A5 n5 k5) (.slice A6 n6 k6)) rfl (.tmp 2) rfl rfl ((heap_setCell_same _ _ 4 _ _ _ V6.out).trans rfl) rfl ?_
  have z14 := (heap_setCell_other _ ⟨w.heap.size, 4, none⟩ (w.heap.size + 1) (.int .i64 (s.x + 2)) (by simp)).trans Z6.out
  refine wpl_storeS rfl (.tmp 4) (.tmp 55) rfl rfl rfl z14 rfl rfl (all24 rfl rfl rfl rfl rfl rfl rfl rfl rfl rfl rfl rfl rfl rfl rfl rfl rfl rfl rfl rfl rfl rfl rfl rfl) ?_
  go_wp2
  rw [putS_lt2 (by have := HGE.out; omega)]
  refine psEnd (w.heap.size + 1) 4 Tryz.results70 ?_ ?_ z14 (by omega) (HWT.out.2.setCell (.inr (Nat.le_refl _)) _) sl3 ((HWT.out.1.set HFAR.out.1 _).like rfl rfl rfl) HFAR.out.2 (fun x hx => (HSUB.out x hx).imp id (fun h => by omega))
  all_goals rfl
theorem pput_03 (s : Sc) (r c : Nat) (vc vt vo : Value) (A4 A5 A6 : Option Addr) (n4 n5 n6 k4 k5 k6 : Nat) (base : Nat) (w : World) (hbase : base ≤ w.heap.size) (h : PsL w base vc vt vo s) (hi : ScIn { s with wrap := false } r c) (rn : Int) (h0 : -2147483648 ≤ rn) (h1 : rn ≤ 2147483647) (hsp : Spans w) (hgb : 0 < w.heap.size) (hwd : widthL rn = 2) (hwr : s.wrap = false) (hend : s.x = s.cols - 1) (hau : s.auto = true) (hco : 1 < s.cols) :
  Calls Tryz.prog 70 #[.agg (vS s vc vt vo (.slice A4 n4 k4) (.slice A5 n5 k5) (.slice A6 n6 k6)), .int .i32 rn] w (PsPost base vc vt vo (putS (crS s) rn 2) w) := by
 have H0 := Lib.hid (show ∀ x, OwB vc vt vo x → x < w.heap.size from fun x hx => (h.lt x hx).2)
 obtain ⟨g1, k1, g2, k2, A3, k3, hvc, hvt, hvo, ⟨b1, l1, p1, q1⟩, ⟨b2, l2, p2, q2⟩, p3, q3⟩ := h.open_ hi
 subst hvc hvt hvo
 have H := Lib.hid h
 have HI := Lib.hid hi
 have hc1 := hi.g.c1
 have hc2 := hi.g.c2
 clear h hi
 have h2 := two_new w (.cells (vS s (.slice (some ⟨g1, 0, none⟩) s.cells.length k1) (.slice (some ⟨g2, 0, none⟩) s.tabs.length k2) (.slice A3 s.other.length k3) (.slice A4 n4 k4) (.slice A5 n5 k5) (.slice A6 n6 k6)) 31) (.cells zQ 31)
 have hW := wof_any rn h0 h1 ((w.alloc (.cells (vS s (.slice (some ⟨g1, 0, none⟩) s.cells.length k1) (.slice (some ⟨g2, 0, none⟩) s.tabs.length k2) (.slice A3 s.other.length k3) (.slice A4 n4 k4) (.slice A5 n5 k5) (.slice A6 n6 k6)) 31)).alloc (.cells zQ 31)) (hsp.below hgb h2.1)
 rw [hwd] at hW
 have HW := Lib.hid hW
 have H2 := Lib.hid h2
 clear hW h2 hwd
 go_enter Tryz.func70, Tryz.ntmps70
 go_upto_region 2 with ((with_reducible refine HW.out.mono ?_); rintro e w1 ⟨rfl, bw⟩)
 have hb4 : Below (w.heap.size + 1 + 1) _ w1 := (by rw [← H2.out.2]; exact bw)
 obtain ⟨e0, e1⟩ := two_keptB hb4
 have zw := bw.size
 rw [H2.out.2] at zw
 have HS : Hid (PutAt w base _ _ _ r c _ s g1 k1 g2 k2 A3 k3 (.slice A4 n4 k4) (.slice A5 n5 k5) (.slice A6 n6 k6) w1) :=
  ⟨e0, e1, (H.out.below H2.out.1).below bw, Fr.of (H2.out.1.trans (bw.mono H2.out.1.size)) _, by omega, fun x hx => .inl hx, HI.out, sl3⟩
 clear bw hb4 e0 e1 zw
 obtain ⟨d1, f1⟩ := cellR (v := .int .i64 s.cols) HS.out.v 1 rfl
 obtain ⟨d4, f4⟩ := cellR (v := .int .i64 s.x) HS.out.v 4 rfl
 obtain ⟨d5, f5⟩ := cellR (v := .bool s.wrap) HS.out.v 5 rfl
 obtain ⟨d13, f13⟩ := cellR (v := .bool s.auto) HS.out.v 13 rfl
 have xx0 : 0 ≤ s.x := HS.out.i.x0
 have xx1 : s.x < (c : Int) := HS.out.i.x1
 have xc : s.cols = (c : Int) := HS.out.i.cols
 have XC := Lib.hid xc
 replace xx1 : s.x ≤ s.cols - 1 := by omega
 have xx2 : 1 ≤ s.cols := by omega
 have xx3 : s.cols ≤ 1000 := by omega
 clear xc
 rw [hwr] at d5
 clear hwr
 have dgt : s.cols - s.x < 2 := by omega
 have hcc : 1 < c := by have := XC.out; omega
 rw [hau] at d13
 have dg2 : ¬ s.cols < 2 := by omega
 go_upto_region 9 with fail
 clear dgt dg2
 clear d1 f1 d4 f4 d5 f5 d13 f13 xx0 xx1 xx2 xx3 XC
 go_upto_region 9 with fail
 refine wp_region_lit ?_
 refine wpl_loadS rfl (.tmp 2) rfl rfl HS.out.v rfl ?_
 go_wp2_with fail
 ((with_reducible refine (pnextLine_any s r c _ _ _ A4 A5 A6 n4 n5 n6 k4 k5 k6 base _ (by have := HS.out.n; omega) HS.out.p HS.out.i).mono ?_); rintro e w4 ⟨uc, ut, uo, up, ui, uu, rfl, hsl, hs4, hf4, hsub4⟩)
 have f1 := hf4.var HS.out.v (HS.out.far H0.out).1
 rename_i K hK
 refine hK _ _ ?_
 clear hK K
 refine wpl_storeS rfl (.tmp 2) (.tmp 33) rfl rfl rfl f1 rfl rfl (hs4.one hsl) ?_
 obtain ⟨ga1, ka1, gb1, kb1, Aa1, kc1, rfl, rfl, rfl, hS2⟩ := HS.out.next H0.out (wrapS_i HS.out.i) hsl hs4 hf4 hsub4
 obtain ⟨⟨P41, q41, r41, rfl⟩, ⟨P51, q51, r51, rfl⟩, ⟨P61, q61, r61, rfl⟩⟩ := hsl
 generalize World.setRow w4 w.heap.size _ = v1 at hS2 ⊢
 clear hs4 hf4 hsub4 f1 HS
 have HS := Lib.hid hS2
 clear hS2
 obtain ⟨d1, f1⟩ := cellR (v := .int .i64 (crS s).cols) HS.out.v 1 rfl
 obtain ⟨d4, f4⟩ := cellR (v := .int .i64 (crS s).x) HS.out.v 4 rfl
 obtain ⟨d5, f5⟩ := cellR (v := .bool (crS s).wrap) HS.out.v 5 rfl
 obtain ⟨d13, f13⟩ := cellR (v := .bool (crS s).auto) HS.out.v 13 rfl
 have xx0 : 0 ≤ (crS s).x := HS.out.i.x0
 have xx1 : (crS s).x < (c : Int) := HS.out.i.x1
 have xc : (crS s).cols = (c : Int) := HS.out.i.cols
 have XC := Lib.hid xc
 replace xx1 : (crS s).x ≤ (crS s).cols - 1 := by omega
 have xx2 : 1 ≤ (crS s).cols := by omega
 have xx3 : (crS s).cols ≤ 1000 := by omega
 clear xc
 have hx2 : (crS s).x + 1 < (crS s).cols := by
  have e0 : (crS s).x = 0 := rfl
  have e1 := XC.out
  omega
 go_upto_region 10 with fail
 refine wp_region_lit ?_
 refine wpl_loadS rfl (.tmp 2) rfl rfl HS.out.v rfl ?_
 go_wp2_with fail
 ((with_reducible refine (pwrite2_any (crS s) r c ga1 ka1 gb1 kb1 Aa1 kc1 P41 P51 P61 q41 q51 q61 r41 r51 r61 base _ (by have := HS.out.n; omega) HS.out.p HS.out.i rn hx2).mono ?_); rintro e w6 ⟨rfl, o6, f6⟩)
 obtain ⟨ne0, ne1⟩ := HS.out.g1ne H0.out
 have v6 : w6.heap[w.heap.size]? = _ := (f6.block _ (by have := HS.out.n; omega) (fun e => ne0 e.symm)).trans HS.out.v
 have z6 : w6.heap[w.heap.size + 1]? = _ := (f6.block _ HS.out.n (fun e => ne1 e.symm)).trans HS.out.z
 have n6' := f6.size
 rename_i K hK
 refine hK _ _ ?_
 clear hK K
 replace d1 := (cellR (v := .int .i64 (crS s).cols) v6 1 rfl).1
 obtain ⟨c4, g4⟩ := cellR (v := .int .i64 (crS s).x) v6 4 rfl
 obtain ⟨c5, g5⟩ := cellR (v := .bool (crS s).wrap) v6 5 rfl
 replace d13 := (cellR (v := .bool (crS s).auto) v6 13 rfl).1
 have V6 := Lib.hid v6
 have Z6 := Lib.hid z6
 have O6 := Lib.hid o6
 have F6 := Lib.hid f6
 clear v6 z6 o6 f6 d4 f4 f1 d5 f5 f13
 have hwt := HS.out.wrote O6.out F6.out
 have HWT := Lib.hid hwt
 have hfar := HS.out.far H0.out
 have HFAR := Lib.hid hfar
 have HSUB := Lib.hid HS.out.sub
 clear hwt hfar
 by_cases hge : (crS s).cols ≤ (crS s).x + 2
 ·have HGE := Lib.hid hge
  go_upto_region 14 with fail
  refine wp_region_lit ?_
  refine wpl_loadS (xs := vS { (crS s) with cells := mendL (cells2 (crS s) rn) (crS s).cols (crS s).y, x := (crS s).cols - 1, wrap := (crS s).auto } (.slice (some ⟨ga1, 0, none⟩) (crS s).cells.length ka1) (.slice (some ⟨gb1, 0, none⟩) (crS s).tabs.length kb1) (.slice Aa1 (crS s).other.length kc1) (.slice P41 q41 r41) (.slice P51 q51 r51) (.slice P61 q61 r61)) rfl (.tmp 2) rfl rfl ((heap_setCell_same _ _ 5 _ _ _ (heap_setCell_same _ _ 4 _ _ _ (heap_setCell_same _ _ 4 _ _ _ V6.out))).trans rfl) rfl ?_
  have z14 := (heap_setCell_other _ ⟨w.heap.size, 5, none⟩ (w.heap.size + 1) (.bool (crS s).auto) (by simp)).trans ((heap_setCell_other _ ⟨w.heap.size, 4, none⟩ (w.heap.size + 1) (.int .i64 ((crS s).cols - 1)) (by simp)).trans ((heap_setCell_other _ ⟨w.heap.size, 4, none⟩ (w.heap.size + 1) (.int .i64 ((crS s).x + 2)) (by simp)).trans Z6.out))
  refine wpl_storeS rfl (.tmp 4) (.tmp 55) rfl rfl rfl z14 rfl rfl (all24 rfl rfl rfl rfl rfl rfl rfl rfl rfl rfl rfl rfl rfl rfl rfl rfl rfl rfl rfl rfl rfl rfl rfl rfl) ?_
  go_wp2
  rw [putS_ge2 HGE.out]
  refine psEnd (w.heap.size + 1) 4 Tryz.results70 ?_ ?_ z14 (by omega) (((HWT.out.2.setCell (.inr (Nat.le_refl _)) _).setCell (.inr (Nat.le_refl _)) _).setCell (.inr (Nat.le_refl _)) _) sl3 ((((HWT.out.1.set HFAR.out.1 _).set HFAR.out.1 _).set HFAR.out.1 _).like rfl rfl rfl) HFAR.out.2 (fun x hx => (HSUB.out x hx).imp id (fun h => by omega))
  all_goals rfl
 ·have HGE := Lib.hid hge
  go_upto_region 14 with fail
  refine wp_region_lit ?_
  refine wpl_loadS (xs := vS { (crS s) with cells := mendL (cells2 (crS s) rn) (crS s).cols (crS s).y, x := (crS s).x + 2 } (.slice (some ⟨ga1, 0, none⟩) (crS s).cells.length ka1) (.slice (some ⟨gb1, 0, none⟩) (crS s).tabs.length kb1) (.slice Aa1 (crS s).other.length kc1) (.slice P41 q41 r41) (.slice P51 q51 r51) (.slice P61 q61 r61)) rfl (.tmp 2) rfl rfl ((heap_setCell_same _ _ 4 _ _ _ V6.out).trans rfl) rfl ?_
  have z14 := (heap_setCell_other _ ⟨w.heap.size, 4, none⟩ (w.heap.size + 1) (.int .i64 ((crS s).x + 2)) (by simp)).trans Z6.out
  refine wpl_storeS rfl (.tmp 4) (.tmp 55) rfl rfl rfl z14 rfl rfl (all24 rfl rfl rfl rfl rfl rfl rfl rfl rfl rfl rfl rfl rfl rfl rfl rfl rfl rfl rfl rfl rfl rfl rfl rfl) ?_
  go_wp2
  rw [putS_lt2 (by have := HGE.out; omega)]
  refine psEnd (w.heap.size + 1) 4 Tryz.results70 ?_ ?_ z14 (by omega) (HWT.out.2.setCell (.inr (Nat.le_refl _)) _) sl3 ((HWT.out.1.set HFAR.out.1 _).like rfl rfl rfl) HFAR.out.2 (fun x hx => (HSUB.out x hx).imp id (fun h => by omega))
  all_goals rfl
theorem pput_04 (s : Sc) (r c : Nat) (vc vt vo : Value) (A4 A5 A6 : Option Addr) (n4 n5 n6 k4 k5 k6 : Nat) (base : Nat) (w : World) (hbase : base ≤ w.heap.size) (h : PsL w base vc vt vo s) (hi : ScIn { s with wrap := false } r c) (rn : Int) (h0 : -2147483648 ≤ rn) (h1 : rn ≤ 2147483647) (hsp : Spans w) (hgb : 0 < w.heap.size) (hwd : widthL rn = 2) (hwr : s.wrap = false) (hend : s.x = s.cols - 1) (hau : s.auto = false ∨ s.cols = 1) :
  Calls Tryz.prog 70 #[.agg (vS s vc vt vo (.slice A4 n4 k4) (.slice A5 n5 k5) (.slice A6 n6 k6)), .int .i32 rn] w (PsPost base vc vt vo (s) w) := by
 have H0 := Lib.hid (show ∀ x, OwB vc vt vo x → x < w.heap.size from fun x hx => (h.lt x hx).2)
 obtain ⟨g1, k1, g2, k2, A3, k3, hvc, hvt, hvo, ⟨b1, l1, p1, q1⟩, ⟨b2, l2, p2, q2⟩, p3, q3⟩ := h.open_ hi
 subst hvc hvt hvo
 have H := Lib.hid h
 have HI := Lib.hid hi
 have hc1 := hi.g.c1
 have hc2 := hi.g.c2
 clear h hi
 have h2 := two_new w (.cells (vS s (.slice (some ⟨g1, 0, none⟩) s.cells.length k1) (.slice (some ⟨g2, 0, none⟩) s.tabs.length k2) (.slice A3 s.other.length k3) (.slice A4 n4 k4) (.slice A5 n5 k5) (.slice A6 n6 k6)) 31) (.cells zQ 31)
 have hW := wof_any rn h0 h1 ((w.alloc (.cells (vS s (.slice (some ⟨g1, 0, none⟩) s.cells.length k1) (.slice (some ⟨g2, 0, none⟩) s.tabs.length k2) (.slice A3 s.other.length k3) (.slice A4 n4 k4) (.slice A5 n5 k5) (.slice A6 n6 k6)) 31)).alloc (.cells zQ 31)) (hsp.below hgb h2.1)
 rw [hwd] at hW
 have HW := Lib.hid hW
 have H2 := Lib.hid h2
 clear hW h2 hwd
 go_enter Tryz.func70, Tryz.ntmps70
 go_upto_region 2 with ((with_reducible refine HW.out.mono ?_); rintro e w1 ⟨rfl, bw⟩)
 have hb4 : Below (w.heap.size + 1 + 1) _ w1 := (by rw [← H2.out.2]; exact bw)
 obtain ⟨e0, e1⟩ := two_keptB hb4
 have zw := bw.size
 rw [H2.out.2] at zw
 have HS : Hid (PutAt w base _ _ _ r c _ s g1 k1 g2 k2 A3 k3 (.slice A4 n4 k4) (.slice A5 n5 k5) (.slice A6 n6 k6) w1) :=
  ⟨e0, e1, (H.out.below H2.out.1).below bw, Fr.of (H2.out.1.trans (bw.mono H2.out.1.size)) _, by omega, fun x hx => .inl hx, HI.out, sl3⟩
 clear bw hb4 e0 e1 zw
 obtain ⟨d1, f1⟩ := cellR (v := .int .i64 s.cols) HS.out.v 1 rfl
 obtain ⟨d4, f4⟩ := cellR (v := .int .i64 s.x) HS.out.v 4 rfl
 obtain ⟨d5, f5⟩ := cellR (v := .bool s.wrap) HS.out.v 5 rfl
 obtain ⟨d13, f13⟩ := cellR (v := .bool s.auto) HS.out.v 13 rfl
 have xx0 : 0 ≤ s.x := HS.out.i.x0
 have xx1 : s.x < (c : Int) := HS.out.i.x1
 have xc : s.cols = (c : Int) := HS.out.i.cols
 have XC := Lib.hid xc
 replace xx1 : s.x ≤ s.cols - 1 := by omega
 have xx2 : 1 ≤ s.cols := by omega
 have xx3 : s.cols ≤ 1000 := by omega
 clear xc
 rw [hwr] at d5
 clear hwr
 have dgt : s.cols - s.x < 2 := by omega
 rcases hau with hau | hau
 ·rw [hau] at d13
  go_upto_region 8 with fail
  refine wp_region_lit ?_
  refine wpl_loadS rfl (.tmp 2) rfl rfl HS.out.v rfl ?_
  refine wpl_storeS rfl (.tmp 4) (.tmp 31) rfl rfl rfl HS.out.z rfl rfl (HS.out.p.one HS.out.sl) ?_
  go_wp2
  refine psEnd (w.heap.size + 1) 4 Tryz.results70 rfl rfl HS.out.z (by omega) HS.out.f HS.out.sl HS.out.p (HS.out.far H0.out).2 (fun x hx => (HS.out.sub x hx).imp id (fun h => by omega))
 ·cases hau2 : s.auto with
  | false =>
   rw [hau2] at d13
   clear hau2
   go_upto_region 8 with fail
   refine wp_region_lit ?_
   refine wpl_loadS rfl (.tmp 2) rfl rfl HS.out.v rfl ?_
   refine wpl_storeS rfl (.tmp 4) (.tmp 31) rfl rfl rfl HS.out.z rfl rfl (HS.out.p.one HS.out.sl) ?_
   go_wp2
   refine psEnd (w.heap.size + 1) 4 Tryz.results70 rfl rfl HS.out.z (by omega) HS.out.f HS.out.sl HS.out.p (HS.out.far H0.out).2 (fun x hx => (HS.out.sub x hx).imp id (fun h => by omega))
  | true =>
   rw [hau2] at d13
   clear hau2
   have dg2 : s.cols < 2 := by omega
   go_upto_region 8 with fail
   refine wp_region_lit ?_
   refine wpl_loadS rfl (.tmp 2) rfl rfl HS.out.v rfl ?_
   refine wpl_storeS rfl (.tmp 4) (.tmp 31) rfl rfl rfl HS.out.z rfl rfl (HS.out.p.one HS.out.sl) ?_
   go_wp2
   refine psEnd (w.heap.size + 1) 4 Tryz.results70 rfl rfl HS.out.z (by omega) HS.out.f HS.out.sl HS.out.p (HS.out.far H0.out).2 (fun x hx => (HS.out.sub x hx).imp id (fun h => by omega))
end Go.Proofs.YtlolgfgcgfjdjaaGreatDoor

namespace Go.Proofs.YtlolgfgcgfjdjaaGreatDoor
open Go.RowKit
set_option linter.unusedVariables false
set_option linter.unusedSimpArgs false
set_option maxHeartbeats 2000000
set_option maxRecDepth 100000
theorem pput_11 (s : Sc) (r c : Nat) (vc vt vo : Value) (A4 A5 A6 : Option Addr) (n4 n5 n6 k4 k5 k6 : Nat) (base : Nat) (w : World) (hbase : base ≤ w.heap.size) (h : PsL w base vc vt vo s) (hi : ScIn { s with wrap := false } r c) (rn : Int) (h0 : -2147483648 ≤ rn) (h1 : rn ≤ 2147483647) (hsp : Spans w) (hgb : 0 < w.heap.size) (hwd : widthL rn = 1) (hwr : s.wrap = true) :
  Calls Tryz.prog 70 #[.agg (vS s vc vt vo (.slice A4 n4 k4) (.slice A5 n5 k5) (.slice A6 n6 k6)), .int .i32 rn] w (PsPost base vc vt vo (putS (crS s) rn 1) w) := by
 have H0 := Lib.hid (show ∀ x, OwB vc vt vo x → x < w.heap.size from fun x hx => (h.lt x hx).2)
 obtain ⟨g1, k1, g2, k2, A3, k3, hvc, hvt, hvo, ⟨b1, l1, p1, q1⟩, ⟨b2, l2, p2, q2⟩, p3, q3⟩ := h.open_ hi
 subst hvc hvt hvo
 have H := Lib.hid h
 have HI := Lib.hid hi
 have hc1 := hi.g.c1
 have hc2 := hi.g.c2
 clear h hi
 have h2 := two_new w (.cells (vS s (.slice (some ⟨g1, 0, none⟩) s.cells.length k1) (.slice (some ⟨g2, 0, none⟩) s.tabs.length k2) (.slice A3 s.other.length k3) (.slice A4 n4 k4) (.slice A5 n5 k5) (.slice A6 n6 k6)) 31) (.cells zQ 31)
 have hW := wof_any rn h0 h1 ((w.alloc (.cells (vS s (.slice (some ⟨g1, 0, none⟩) s.cells.length k1) (.slice (some ⟨g2, 0, none⟩) s.tabs.length k2) (.slice A3 s.other.length k3) (.slice A4 n4 k4) (.slice A5 n5 k5) (.slice A6 n6 k6)) 31)).alloc (.cells zQ 31)) (hsp.below hgb h2.1)
 rw [hwd] at hW
 have HW := Lib.hid hW
 have H2 := Lib.hid h2
 clear hW h2 hwd
 go_enter Tryz.func70, Tryz.ntmps70
 go_upto_region 2 with ((with_reducible refine HW.out.mono ?_); rintro e w1 ⟨rfl, bw⟩)
 have hb4 : Below (w.heap.size + 1 + 1) _ w1 := (by rw [← H2.out.2]; exact bw)
 obtain ⟨e0, e1⟩ := two_keptB hb4
 have zw := bw.size
 rw [H2.out.2] at zw
 have HS : Hid (PutAt w base _ _ _ r c _ s g1 k1 g2 k2 A3 k3 (.slice A4 n4 k4) (.slice A5 n5 k5) (.slice A6 n6 k6) w1) :=
  ⟨e0, e1, (H.out.below H2.out.1).below bw, Fr.of (H2.out.1.trans (bw.mono H2.out.1.size)) _, by omega, fun x hx => .inl hx, HI.out, sl3⟩
 clear bw hb4 e0 e1 zw
 obtain ⟨d1, f1⟩ := cellR (v := .int .i64 s.cols) HS.out.v 1 rfl
 obtain ⟨d4, f4⟩ := cellR (v := .int .i64 s.x) HS.out.v 4 rfl
 obtain ⟨d5, f5⟩ := cellR (v := .bool s.wrap) HS.out.v 5 rfl
 obtain ⟨d13, f13⟩ := cellR (v := .bool s.auto) HS.out.v 13 rfl
 have xx0 : 0 ≤ s.x := HS.out.i.x0
 have xx1 : s.x < (c : Int) := HS.out.i.x1
 have xc : s.cols = (c : Int) := HS.out.i.cols
 have XC := Lib.hid xc
 replace xx1 : s.x ≤ s.cols - 1 := by omega
 have xx2 : 1 ≤ s.cols := by omega
 have xx3 : s.cols ≤ 1000 := by omega
 clear xc
 rw [hwr] at d5
 clear hwr
 go_upto_region 5 with fail
 clear d1 f1 d4 f4 d5 f5 d13 f13 xx0 xx1 xx2 xx3 XC
 go_upto_region 5 with fail
 refine wp_region_lit ?_
 refine wpl_loadS rfl (.tmp 2) rfl rfl HS.out.v rfl ?_
 go_wp2_with fail
 ((with_reducible refine (pnextLine_any s r c _ _ _ A4 A5 A6 n4 n5 n6 k4 k5 k6 base _ (by have := HS.out.n; omega) HS.out.p HS.out.i).mono ?_); rintro e w4 ⟨uc, ut, uo, up, ui, uu, rfl, hsl, hs4, hf4, hsub4⟩)
 have f1 := hf4.var HS.out.v (HS.out.far H0.out).1
 rename_i K hK
 refine hK _ _ ?_
 clear hK K
 refine wpl_storeS rfl (.tmp 2) (.tmp 14) rfl rfl rfl f1 rfl rfl (hs4.one hsl) ?_
 obtain ⟨ga1, ka1, gb1, kb1, Aa1, kc1, rfl, rfl, rfl, hS2⟩ := HS.out.next H0.out (wrapS_i HS.out.i) hsl hs4 hf4 hsub4
 obtain ⟨⟨P41, q41, r41, rfl⟩, ⟨P51, q51, r51, rfl⟩, ⟨P61, q61, r61, rfl⟩⟩ := hsl
 generalize World.setRow w4 w.heap.size _ = v1 at hS2 ⊢
 clear hs4 hf4 hsub4 f1 HS
 have HS := Lib.hid hS2
 clear hS2
 obtain ⟨d1, f1⟩ := cellR (v := .int .i64 (crS s).cols) HS.out.v 1 rfl
 obtain ⟨d4, f4⟩ := cellR (v := .int .i64 (crS s).x) HS.out.v 4 rfl
 obtain ⟨d5, f5⟩ := cellR (v := .bool (crS s).wrap) HS.out.v 5 rfl
 obtain ⟨d13, f13⟩ := cellR (v := .bool (crS s).auto) HS.out.v 13 rfl
 have xx0 : 0 ≤ (crS s).x := HS.out.i.x0
 have xx1 : (crS s).x < (c : Int) := HS.out.i.x1
 have xc : (crS s).cols = (c : Int) := HS.out.i.cols
 have XC := Lib.hid xc
 replace xx1 : (crS s).x ≤ (crS s).cols - 1 := by omega
 have xx2 : 1 ≤ (crS s).cols := by omega
 have xx3 : (crS s).cols ≤ 1000 := by omega
 clear xc
 have dgt : ¬ (crS s).cols - (crS s).x < 1 := by omega
 go_upto_region 10 with fail
 refine wp_region_lit ?_
 refine wpl_loadS rfl (.tmp 2) rfl rfl HS.out.v rfl ?_
 go_wp2_with fail
 ((with_reducible refine (pwrite1_any (crS s) r c ga1 ka1 gb1 kb1 Aa1 kc1 P41 P51 P61 q41 q51 q61 r41 r51 r61 base _ (by have := HS.out.n; omega) HS.out.p HS.out.i rn).mono ?_); rintro e w6 ⟨rfl, o6, f6⟩)
 obtain ⟨ne0, ne1⟩ := HS.out.g1ne H0.out
 have v6 : w6.heap[w.heap.size]? = _ := (f6.block _ (by have := HS.out.n; omega) (fun e => ne0 e.symm)).trans HS.out.v
 have z6 : w6.heap[w.heap.size + 1]? = _ := (f6.block _ HS.out.n (fun e => ne1 e.symm)).trans HS.out.z
 have n6' := f6.size
 rename_i K hK
 refine hK _ _ ?_
 clear hK K
 replace d1 := (cellR (v := .int .i64 (crS s).cols) v6 1 rfl).1
 obtain ⟨c4, g4⟩ := cellR (v := .int .i64 (crS s).x) v6 4 rfl
 obtain ⟨c5, g5⟩ := cellR (v := .bool (crS s).wrap) v6 5 rfl
 replace d13 := (cellR (v := .bool (crS s).auto) v6 13 rfl).1
 have V6 := Lib.hid v6
 have Z6 := Lib.hid z6
 have O6 := Lib.hid o6
 have F6 := Lib.hid f6
 clear v6 z6 o6 f6 d4 f4 f1 d5 f5 f13
 have hwt := HS.out.wrote O6.out F6.out
 have HWT := Lib.hid hwt
 have hfar := HS.out.far H0.out
 have HFAR := Lib.hid hfar
 have HSUB := Lib.hid HS.out.sub
 clear hwt hfar
 by_cases hge : (crS s).cols ≤ (crS s).x + 1
 ·have HGE := Lib.hid hge
  go_upto_region 14 with fail
  refine wp_region_lit ?_
  refine wpl_loadS (xs := vS { (crS s) with cells := mendL (cells1 (crS s) rn) (crS s).cols (crS s).y, x := (crS s).cols - 1, wrap := (crS s).auto } (.slice (some ⟨ga1, 0, none⟩) (crS s).cells.length ka1) (.slice (some ⟨gb1, 0, none⟩) (crS s).tabs.length kb1) (.slice Aa1 (crS s).other.length kc1) (.slice P41 q41 r41) (.slice P51 q51 r51) (.slice P61 q61 r61)) rfl (.tmp 2) rfl rfl ((heap_setCell_same _ _ 5 _ _ _ (heap_setCell_same _ _ 4 _ _ _ (heap_setCell_same _ _ 4 _ _ _ V6.out))).trans rfl) rfl ?_
  have z14 := (heap_setCell_other _ ⟨w.heap.size, 5, none⟩ (w.heap.size + 1) (.bool (crS s).auto) (by simp)).trans ((heap_setCell_other _ ⟨w.heap.size, 4, none⟩ (w.heap.size + 1) (.int .i64 ((crS s).cols - 1)) (by simp)).trans ((heap_setCell_other _ ⟨w.heap.size, 4, none⟩ (w.heap.size + 1) (.int .i64 ((crS s).x + 1)) (by simp)).trans Z6.out))
  refine wpl_storeS rfl (.tmp 4) (.tmp 55) rfl rfl rfl z14 rfl rfl (all24 rfl rfl rfl rfl rfl rfl rfl rfl rfl rfl rfl rfl rfl rfl rfl rfl rfl rfl rfl rfl rfl rfl rfl rfl) ?_
  go_wp2
  rw [putS_ge1 HGE.out]
  refine psEnd (w.heap.size + 1) 4 Tryz.results70 ?_ ?_ z14 (by omega) (((HWT.out.2.setCell (.inr (Nat.le_refl _)) _).setCell (.inr (Nat.le_refl _)) _).setCell (.inr (Nat.le_refl _)) _) sl3 ((((HWT.out.1.set HFAR.out.1 _).set HFAR.out.1 _).set HFAR.out.1 _).like rfl rfl rfl) HFAR.out.2 (fun x hx => (HSUB.out x hx).imp id (fun h => by omega))
  all_goals rfl
 ·have HGE := Lib.hid hge
  go_upto_region 14 with fail
  refine wp_region_lit ?_
  refine wpl_loadS (xs := vS { (crS s) with cells := mendL (cells1 (crS s) rn) (crS s).cols (crS s).y, x := (crS s).x + 1 } (.slice (some ⟨ga1, 0, none⟩) (crS s).cells.length ka1) (.slice (some ⟨gb1, 0, none⟩) (crS s).tabs.length kb1) (.slice Aa1 (crS s).other.length kc1) (.slice P41 q41 r41) (.slice P51 q51 r51) (.slice P61 q61 r61)) rfl (.tmp 2) rfl rfl ((heap_setCell_same _ _ 4 _ _ _ V6.out).trans rfl) rfl ?_
  have z14 := (heap_setCell_other _ ⟨w.heap.size, 4, none⟩ (w.heap.size + 1) (.int .i64 ((crS s).x + 1)) (by simp)).trans Z6.out
  refine wpl_storeS rfl (.tmp 4) (.tmp 55) rfl rfl rfl z14 rfl rfl (all24 rfl rfl rfl rfl rfl rfl rfl rfl rfl rfl rfl rfl rfl rfl rfl rfl rfl rfl rfl rfl rfl rfl rfl rfl) ?_
  go_wp2
  rw [putS_lt1 (by have := HGE.out; omega)]
  refine psEnd (w.heap.size + 1) 4 Tryz.results70 ?_ ?_ z14 (by omega) (HWT.out.2.setCell (.inr (Nat.le_refl _)) _) sl3 ((HWT.out.1.set HFAR.out.1 _).like rfl rfl rfl) HFAR.out.2 (fun x hx => (HSUB.out x hx).imp id (fun h => by omega))
  all_goals rfl
theorem pput_12 (s : Sc) (r c : Nat) (vc vt vo : Value) (A4 A5 A6 : Option Addr) (n4 n5 n6 k4 k5 k6 : Nat) (base : Nat) (w : World) (hbase : base ≤ w.heap.size) (h : PsL w base vc vt vo s) (hi : ScIn { s with wrap := false } r c) (rn : Int) (h0 : -2147483648 ≤ rn) (h1 : rn ≤ 2147483647) (hsp : Spans w) (hgb : 0 < w.heap.size) (hwd : widthL rn = 2) (hwr : s.wrap = true) (hend : (crS s).x + 1 < (crS s).cols) :
  Calls Tryz.prog 70 #[.agg (vS s vc vt vo (.slice A4 n4 k4) (.slice A5 n5 k5) (.slice A6 n6 k6)), .int .i32 rn] w (PsPost base vc vt vo (putS (crS s) rn 2) w) := by
 have H0 := Lib.hid (show ∀ x, OwB vc vt vo x → x < w.heap.size from fun x hx => (h.lt x hx).2)
 obtain ⟨g1, k1, g2, k2, A3, k3, hvc, hvt, hvo, ⟨b1, l1, p1, q1⟩, ⟨b2, l2, p2, q2⟩, p3, q3⟩ := h.open_ hi
 subst hvc hvt hvo
 have H := Lib.hid h
 have HI := Lib.hid hi
 have hc1 := hi.g.c1
 have hc2 := hi.g.c2
 clear h hi
 have h2 := two_new w (.cells (vS s (.slice (some ⟨g1, 0, none⟩) s.cells.length k1) (.slice (some ⟨g2, 0, none⟩) s.tabs.length k2) (.slice A3 s.other.length k3) (.slice A4 n4 k4) (.slice A5 n5 k5) (.slice A6 n6 k6)) 31) (.cells zQ 31)
 have hW := wof_any rn h0 h1 ((w.alloc (.cells (vS s (.slice (some ⟨g1, 0, none⟩) s.cells.length k1) (.slice (some ⟨g2, 0, none⟩) s.tabs.length k2) (.slice A3 s.other.length k3) (.slice A4 n4 k4) (.slice A5 n5 k5) (.slice A6 n6 k6)) 31)).alloc (.cells zQ 31)) (hsp.below hgb h2.1)
 rw [hwd] at hW
 have HW := Lib.hid hW
 have H2 := Lib.hid h2
 clear hW h2 hwd
 go_enter Tryz.func70, Tryz.ntmps70
 go_upto_region 2 with ((with_reducible refine HW.out.mono ?_); rintro e w1 ⟨rfl, bw⟩)
 have hb4 : Below (w.heap.size + 1 + 1) _ w1 := (by rw [← H2.out.2]; exact bw)
 obtain ⟨e0, e1⟩ := two_keptB hb4
 have zw := bw.size
 rw [H2.out.2] at zw
 have HS : Hid (PutAt w base _ _ _ r c _ s g1 k1 g2 k2 A3 k3 (.slice A4 n4 k4) (.slice A5 n5 k5) (.slice A6 n6 k6) w1) :=
  ⟨e0, e1, (H.out.below H2.out.1).below bw, Fr.of (H2.out.1.trans (bw.mono H2.out.1.size)) _, by omega, fun x hx => .inl hx, HI.out, sl3⟩
 clear bw hb4 e0 e1 zw
 obtain ⟨d1, f1⟩ := cellR (v := .int .i64 s.cols) HS.out.v 1 rfl
 obtain ⟨d4, f4⟩ := cellR (v := .int .i64 s.x) HS.out.v 4 rfl
 obtain ⟨d5, f5⟩ := cellR (v := .bool s.wrap) HS.out.v 5 rfl
 obtain ⟨d13, f13⟩ := cellR (v := .bool s.auto) HS.out.v 13 rfl
 have xx0 : 0 ≤ s.x := HS.out.i.x0
 have xx1 : s.x < (c : Int) := HS.out.i.x1
 have xc : s.cols = (c : Int) := HS.out.i.cols
 have XC := Lib.hid xc
 replace xx1 : s.x ≤ s.cols - 1 := by omega
 have xx2 : 1 ≤ s.cols := by omega
 have xx3 : s.cols ≤ 1000 := by omega
 clear xc
 rw [hwr] at d5
 clear hwr
 go_upto_region 5 with fail
 clear d1 f1 d4 f4 d5 f5 d13 f13 xx0 xx1 xx2 xx3 XC
 go_upto_region 5 with fail
 refine wp_region_lit ?_
 refine wpl_loadS rfl (.tmp 2) rfl rfl HS.out.v rfl ?_
 go_wp2_with fail
 ((with_reducible refine (pnextLine_any s r c _ _ _ A4 A5 A6 n4 n5 n6 k4 k5 k6 base _ (by have := HS.out.n; omega) HS.out.p HS.out.i).mono ?_); rintro e w4 ⟨uc, ut, uo, up, ui, uu, rfl, hsl, hs4, hf4, hsub4⟩)
 have f1 := hf4.var HS.out.v (HS.out.far H0.out).1
 rename_i K hK
 refine hK _ _ ?_
 clear hK K
 refine wpl_storeS rfl (.tmp 2) (.tmp 14) rfl rfl rfl f1 rfl rfl (hs4.one hsl) ?_
 obtain ⟨ga1, ka1, gb1, kb1, Aa1, kc1, rfl, rfl, rfl, hS2⟩ := HS.out.next H0.out (wrapS_i HS.out.i) hsl hs4 hf4 hsub4
 obtain ⟨⟨P41, q41, r41, rfl⟩, ⟨P51, q51, r51, rfl⟩, ⟨P61, q61, r61, rfl⟩⟩ := hsl
 generalize World.setRow w4 w.heap.size _ = v1 at hS2 ⊢
 clear hs4 hf4 hsub4 f1 HS
 have HS := Lib.hid hS2
 clear hS2
 obtain ⟨d1, f1⟩ := cellR (v := .int .i64 (crS s).cols) HS.out.v 1 rfl
 obtain ⟨d4, f4⟩ := cellR (v := .int .i64 (crS s).x) HS.out.v 4 rfl
 obtain ⟨d5, f5⟩ := cellR (v := .bool (crS s).wrap) HS.out.v 5 rfl
 obtain ⟨d13, f13⟩ := cellR (v := .bool (crS s).auto) HS.out.v 13 rfl
 have xx0 : 0 ≤ (crS s).x := HS.out.i.x0
 have xx1 : (crS s).x < (c : Int) := HS.out.i.x1
 have xc : (crS s).cols = (c : Int) := HS.out.i.cols
 have XC := Lib.hid xc
 replace xx1 : (crS s).x ≤ (crS s).cols - 1 := by omega
 have xx2 : 1 ≤ (crS s).cols := by omega
 have xx3 : (crS s).cols ≤ 1000 := by omega
 clear xc
 have dgt : ¬ (crS s).cols - (crS s).x < 2 := by omega
 have hx2 : (crS s).x + 1 < (crS s).cols := by omega
 go_upto_region 10 with fail
 refine wp_region_lit ?_
 refine wpl_loadS rfl (.tmp 2) rfl rfl HS.out.v rfl ?_
 go_wp2_with fail
 ((with_reducible refine (pwrite2_any (crS s) r c ga1 ka1 gb1 kb1 Aa1 kc1 P41 P51 P61 q41 q51 q61 r41 r51 r61 base _ (by have := HS.out.n; omega) HS.out.p HS.out.i rn hx2).mono ?_); rintro e w6 ⟨rfl, o6, f6⟩)
 obtain ⟨ne0, ne1⟩ := HS.out.g1ne H0.out
 have v6 : w6.heap[w.heap.size]? = _ := (f6.block _ (by have := HS.out.n; omega) (fun e => ne0 e.symm)).trans HS.out.v
 have z6 : w6.heap[w.heap.size + 1]? = _ := (f6.block _ HS.out.n (fun e => ne1 e.symm)).trans HS.out.z
 have n6' := f6.size
 rename_i K hK
 refine hK _ _ ?_
 clear hK K
 replace d1 := (cellR (v := .int .i64 (crS s).cols) v6 1 rfl).1
 obtain ⟨c4, g4⟩ := cellR (v := .int .i64 (crS s).x) v6 4 rfl
 obtain ⟨c5, g5⟩ := cellR (v := .bool (crS s).wrap) v6 5 rfl
 replace d13 := (cellR (v := .bool (crS s).auto) v6 13 rfl).1
 have V6 := Lib.hid v6
 have Z6 := Lib.hid z6
 have O6 := Lib.hid o6
 have F6 := Lib.hid f6
 clear v6 z6 o6 f6 d4 f4 f1 d5 f5 f13
 have hwt := HS.out.wrote O6.out F6.out
 have HWT := Lib.hid hwt
 have hfar := HS.out.far H0.out
 have HFAR := Lib.hid hfar
 have HSUB := Lib.hid HS.out.sub
 clear hwt hfar
 by_cases hge : (crS s).cols ≤ (crS s).x + 2
 ·have HGE := Lib.hid hge
  go_upto_region 14 with fail
  refine wp_region_lit ?_
  refine wpl_loadS (xs := vS { (crS s) with cells := mendL (cells2 (crS s) rn) (crS s).cols (crS s).y, x := (crS s).cols - 1, wrap := (crS s).auto } (.slice (some ⟨ga1, 0, none⟩) (crS s).cells.length ka1) (.slice (some ⟨gb1, 0, none⟩) (crS s).tabs.length kb1) (.slice Aa1 (crS s).other.length kc1) (.slice P41 q41 r41) (.slice P51 q51 r51) (.slice P61 q61 r61)) rfl (.tmp 2) rfl rfl ((heap_setCell_same _ _ 5 _ _ _ (heap_setCell_same _ _ 4 _ _ _ (heap_setCell_same _ _ 4 _ _ _ V6.out))).trans rfl) rfl ?_
  have z14 := (heap_setCell_other _ ⟨w.heap.size, 5, none⟩ (w.heap.size + 1) (.bool (crS s).auto) (by simp)).trans ((heap_setCell_other _ ⟨w.heap.size, 4, none⟩ (w.heap.size + 1) (.int .i64 ((crS s).cols - 1)) (by simp)).trans ((heap_setCell_other _ ⟨w.heap.size, 4, none⟩ (w.heap.size + 1) (.int .i64 ((crS s).x + 2)) (by simp)).trans Z6.out))
  refine wpl_storeS rfl (.tmp 4) (.tmp 55) rfl rfl rfl z14 rfl rfl (all24 rfl rfl rfl rfl rfl rfl rfl rfl rfl rfl rfl rfl rfl rfl rfl rfl rfl rfl rfl rfl rfl rfl rfl rfl) ?_
  go_wp2
  rw [putS_ge2 HGE.out]
  refine psEnd (w.heap.size + 1) 4 Tryz.results70 ?_ ?_ z14 (by omega) (((HWT.out.2.setCell (.inr (Nat.le_refl _)) _).setCell (.inr (Nat.le_refl _)) _).setCell (.inr (Nat.le_refl _)) _) sl3 ((((HWT.out.1.set HFAR.out.1 _).set HFAR.out.1 _).set HFAR.out.1 _).like rfl rfl rfl) HFAR.out.2 (fun x hx => (HSUB.out x hx).imp id (fun h => by omega))
  all_goals rfl
 ·have HGE := Lib.hid hge
  go_upto_region 14 with fail
  refine wp_region_lit ?_
  refine wpl_loadS (xs := vS { (crS s) with cells := mendL (cells2 (crS s) rn) (crS s).cols (crS s).y, x := (crS s).x + 2 } (.slice (some ⟨ga1, 0, none⟩) (crS s).cells.length ka1) (.slice (some ⟨gb1, 0, none⟩) (crS s).tabs.length kb1) (.slice Aa1 (crS s).other.length kc1) (.slice P41 q41 r41) (.slice P51 q51 r51) (.slice P61 q61 r61)) rfl (.tmp 2) rfl rfl ((heap_setCell_same _ _ 4 _ _ _ V6.out).trans rfl) rfl ?_
  have z14 := (heap_setCell_other _ ⟨w.heap.size, 4, none⟩ (w.heap.size + 1) (.int .i64 ((crS s).x + 2)) (by simp)).trans Z6.out
  refine wpl_storeS rfl (.tmp 4) (.tmp 55) rfl rfl rfl z14 rfl rfl (all24 rfl rfl rfl rfl rfl rfl rfl rfl rfl rfl rfl rfl rfl rfl rfl rfl rfl rfl rfl rfl rfl rfl rfl rfl) ?_
  go_wp2
  rw [putS_lt2 (by have := HGE.out; omega)]
  refine psEnd (w.heap.size + 1) 4 Tryz.results70 ?_ ?_ z14 (by omega) (HWT.out.2.setCell (.inr (Nat.le_refl _)) _) sl3 ((HWT.out.1.set HFAR.out.1 _).like rfl rfl rfl) HFAR.out.2 (fun x hx => (HSUB.out x hx).imp id (fun h => by omega))
  all_goals rfl
theorem pput_13 (s : Sc) (r c : Nat) (vc vt vo : Value) (A4 A5 A6 : Option Addr) (n4 n5 n6 k4 k5 k6 : Nat) (base : Nat) (w : World) (hbase : base ≤ w.heap.size) (h : PsL w base vc vt vo s) (hi : ScIn { s with wrap := false } r c) (rn : Int) (h0 : -2147483648 ≤ rn) (h1 : rn ≤ 2147483647) (hsp : Spans w) (hgb : 0 < w.heap.size) (hwd : widthL rn = 2) (hwr : s.wrap = true) (hend : (crS s).x = (crS s).cols - 1) (hau : (crS s).auto = true) (hco : 1 < (crS s).cols) :
  Calls Tryz.prog 70 #[.agg (vS s vc vt vo (.slice A4 n4 k4) (.slice A5 n5 k5) (.slice A6 n6 k6)), .int .i32 rn] w (PsPost base vc vt vo (putS (crS (crS s)) rn 2) w) := by
 have H0 := Lib.hid (show ∀ x, OwB vc vt vo x → x < w.heap.size from fun x hx => (h.lt x hx).2)
 obtain ⟨g1, k1, g2, k2, A3, k3, hvc, hvt, hvo, ⟨b1, l1, p1, q1⟩, ⟨b2, l2, p2, q2⟩, p3, q3⟩ := h.open_ hi
 subst hvc hvt hvo
 have H := Lib.hid h
 have HI := Lib.hid hi
 have hc1 := hi.g.c1
 have hc2 := hi.g.c2
 clear h hi
 have h2 := two_new w (.cells (vS s (.slice (some ⟨g1, 0, none⟩) s.cells.length k1) (.slice (some ⟨g2, 0, none⟩) s.tabs.length k2) (.slice A3 s.other.length k3) (.slice A4 n4 k4) (.slice A5 n5 k5) (.slice A6 n6 k6)) 31) (.cells zQ 31)
 have hW := wof_any rn h0 h1 ((w.alloc (.cells (vS s (.slice (some ⟨g1, 0, none⟩) s.cells.length k1) (.slice (some ⟨g2, 0, none⟩) s.tabs.length k2) (.slice A3 s.other.length k3) (.slice A4 n4 k4) (.slice A5 n5 k5) (.slice A6 n6 k6)) 31)).alloc (.cells zQ 31)) (hsp.below hgb h2.1)
 rw [hwd] at hW
 have HW := Lib.hid hW
 have H2 := Lib.hid h2
 clear hW h2 hwd
 go_enter Tryz.func70, Tryz.ntmps70
 go_upto_region 2 with ((with_reducible refine HW.out.mono ?_); rintro e w1 ⟨rfl, bw⟩)
 have hb4 : Below (w.heap.size + 1 + 1) _ w1 := (by rw [← H2.out.2]; exact bw)
 obtain ⟨e0, e1⟩ := two_keptB hb4
 have zw := bw.size
 rw [H2.out.2] at zw
 have HS : Hid (PutAt w base _ _ _ r c _ s g1 k1 g2 k2 A3 k3 (.slice A4 n4 k4) (.slice A5 n5 k5) (.slice A6 n6 k6) w1) :=
  ⟨e0, e1, (H.out.below H2.out.1).below bw, Fr.of (H2.out.1.trans (bw.mono H2.out.1.size)) _, by omega, fun x hx => .inl hx, HI.out, sl3⟩
 clear bw hb4 e0 e1 zw
 obtain ⟨d1, f1⟩ := cellR (v := .int .i64 s.cols) HS.out.v 1 rfl
 obtain ⟨d4, f4⟩ := cellR (v := .int .i64 s.x) HS.out.v 4 rfl
 obtain ⟨d5, f5⟩ := cellR (v := .bool s.wrap) HS.out.v 5 rfl
 obtain ⟨d13, f13⟩ := cellR (v := .bool s.auto) HS.out.v 13 rfl
 have xx0 : 0 ≤ s.x := HS.out.i.x0
 have xx1 : s.x < (c : Int) := HS.out.i.x1
 have xc : s.cols = (c : Int) := HS.out.i.cols
 have XC := Lib.hid xc
 replace xx1 : s.x ≤ s.cols - 1 := by omega
 have xx2 : 1 ≤ s.cols := by omega
 have xx3 : s.cols ≤ 1000 := by omega
 clear xc
 rw [hwr] at d5
 clear hwr
 go_upto_region 5 with fail
 clear d1 f1 d4 f4 d5 f5 d13 f13 xx0 xx1 xx2 xx3 XC
 go_upto_region 5 with fail
 refine wp_region_lit ?_
 refine wpl_loadS rfl (.tmp 2) rfl rfl HS.out.v rfl ?_
 go_wp2_with fail
 ((with_reducible refine (pnextLine_any s r c _ _ _ A4 A5 A6 n4 n5 n6 k4 k5 k6 base _ (by have := HS.out.n; omega) HS.out.p HS.out.i).mono ?_); rintro e w4 ⟨uc, ut, uo, up, ui, uu, rfl, hsl, hs4, hf4, hsub4⟩)
 have f1 := hf4.var HS.out.v (HS.out.far H0.out).1
 rename_i K hK
 refine hK _ _ ?_
 clear hK K
 refine wpl_storeS rfl (.tmp 2) (.tmp 14) rfl rfl rfl f1 rfl rfl (hs4.one hsl) ?_
 obtain ⟨ga1, ka1, gb1, kb1, Aa1, kc1, rfl, rfl, rfl, hS2⟩ := HS.out.next H0.out (wrapS_i HS.out.i) hsl hs4 hf4 hsub4
 obtain ⟨⟨P41, q41, r41, rfl⟩, ⟨P51, q51, r51, rfl⟩, ⟨P61, q61, r61, rfl⟩⟩ := hsl
 generalize World.setRow w4 w.heap.size _ = v1 at hS2 ⊢
 clear hs4 hf4 hsub4 f1 HS
 have HS := Lib.hid hS2
 clear hS2
 obtain ⟨d1, f1⟩ := cellR (v := .int .i64 (crS s).cols) HS.out.v 1 rfl
 obtain ⟨d4, f4⟩ := cellR (v := .int .i64 (crS s).x) HS.out.v 4 rfl
 obtain ⟨d5, f5⟩ := cellR (v := .bool (crS s).wrap) HS.out.v 5 rfl
 obtain ⟨d13, f13⟩ := cellR (v := .bool (crS s).auto) HS.out.v 13 rfl
 have xx0 : 0 ≤ (crS s).x := HS.out.i.x0
 have xx1 : (crS s).x < (c : Int) := HS.out.i.x1
 have xc : (crS s).cols = (c : Int) := HS.out.i.cols
 have XC := Lib.hid xc
 replace xx1 : (crS s).x ≤ (crS s).cols - 1 := by omega
 have xx2 : 1 ≤ (crS s).cols := by omega
 have xx3 : (crS s).cols ≤ 1000 := by omega
 clear xc
 have dgt : (crS s).cols - (crS s).x < 2 := by omega
 have hcc : 1 < c := by have := XC.out; omega
 rw [hau] at d13
 have dg2 : ¬ (crS s).cols < 2 := by omega
 go_upto_region 9 with fail
 clear dgt dg2
 clear d1 f1 d4 f4 d5 f5 d13 f13 xx0 xx1 xx2 xx3 XC
 go_upto_region 9 with fail
 refine wp_region_lit ?_
 refine wpl_loadS rfl (.tmp 2) rfl rfl HS.out.v rfl ?_
 go_wp2_with fail
 ((with_reducible refine (pnextLine_any (crS s) r c _ _ _ P41 P51 P61 q41 q51 q61 r41 r51 r61 base _ (by have := HS.out.n; omega) HS.out.p HS.out.i).mono ?_); rintro e w4 ⟨uc, ut, uo, up, ui, uu, rfl, hsl, hs4, hf4, hsub4⟩)
 have f1 := hf4.var HS.out.v (HS.out.far H0.out).1
 rename_i K hK
 refine hK _ _ ?_
 clear hK K
 refine wpl_storeS rfl (.tmp 2) (.tmp 33) rfl rfl rfl f1 rfl rfl (hs4.one hsl) ?_
 obtain ⟨ga2, ka2, gb2, kb2, Aa2, kc2, rfl, rfl, rfl, hS2⟩ := HS.out.next H0.out (wrapS_i HS.out.i) hsl hs4 hf4 hsub4
 obtain ⟨⟨P42, q42, r42, rfl⟩, ⟨P52, q52, r52, rfl⟩, ⟨P62, q62, r62, rfl⟩⟩ := hsl
 generalize World.setRow w4 w.heap.size _ = v2 at hS2 ⊢
 clear hs4 hf4 hsub4 f1 HS
 have HS := Lib.hid hS2
 clear hS2
 obtain ⟨d1, f1⟩ := cellR (v := .int .i64 (crS (crS s)).cols) HS.out.v 1 rfl
 obtain ⟨d4, f4⟩ := cellR (v := .int .i64 (crS (crS s)).x) HS.out.v 4 rfl
 obtain ⟨d5, f5⟩ := cellR (v := .bool (crS (crS s)).wrap) HS.out.v 5 rfl
 obtain ⟨d13, f13⟩ := cellR (v := .bool (crS (crS s)).auto) HS.out.v 13 rfl
 have xx0 : 0 ≤ (crS (crS s)).x := HS.out.i.x0
 have xx1 : (crS (crS s)).x < (c : Int) := HS.out.i.x1
 have xc : (crS (crS s)).cols = (c : Int) := HS.out.i.cols
 have XC := Lib.hid xc
 replace xx1 : (crS (crS s)).x ≤ (crS (crS s)).cols - 1 := by omega
 have xx2 : 1 ≤ (crS (crS s)).cols := by omega
 have xx3 : (crS (crS s)).cols ≤ 1000 := by omega
 clear xc
 have hx2 : (crS (crS s)).x + 1 < (crS (crS s)).cols := by
  have e0 : (crS (crS s)).x = 0 := rfl
  have e1 := XC.out
  omega
 go_upto_region 10 with fail
 refine wp_region_lit ?_
 refine wpl_loadS rfl (.tmp 2) rfl rfl HS.out.v rfl ?_
 go_wp2_with fail
 ((with_reducible refine (pwrite2_any (crS (crS s)) r c ga2 ka2 gb2 kb2 Aa2 kc2 P42 P52 P62 q42 q52 q62 r42 r52 r62 base _ (by have := HS.out.n; omega) HS.out.p HS.out.i rn hx2).mono ?_); rintro e w6 ⟨rfl, o6, f6⟩)
 obtain ⟨ne0, ne1⟩ := HS.out.g1ne H0.out
 have v6 : w6.heap[w.heap.size]? = _ := (f6.block _ (by have := HS.out.n; omega) (fun e => ne0 e.symm)).trans HS.out.v
 have z6 : w6.heap[w.heap.size + 1]? = _ := (f6.block _ HS.out.n (fun e => ne1 e.symm)).trans HS.out.z
 have n6' := f6.size
 rename_i K hK
 refine hK _ _ ?_
 clear hK K
 replace d1 := (cellR (v := .int .i64 (crS (crS s)).cols) v6 1 rfl).1
 obtain ⟨c4, g4⟩ := cellR (v := .int .i64 (crS (crS s)).x) v6 4 rfl
 obtain ⟨c5, g5⟩ := cellR (v := .bool (crS (crS s)).wrap) v6 5 rfl
 replace d13 := (cellR (v := .bool (crS (crS s)).auto) v6 13 rfl).1
 have V6 := Lib.hid v6
 have Z6 := Lib.hid z6
 have O6 := Lib.hid o6
 have F6 := Lib.hid f6
 clear v6 z6 o6 f6 d4 f4 f1 d5 f5 f13
 have hwt := HS.out.wrote O6.out F6.out
 have HWT := Lib.hid hwt
 have hfar := HS.out.far H0.out
 have HFAR := Lib.hid hfar
 have HSUB := Lib.hid HS.out.sub
 clear hwt hfar
 by_cases hge : (crS (crS s)).cols ≤ (crS (crS s)).x + 2
 ·have HGE := Lib.hid hge
  go_upto_region 14 with fail
  refine wp_region_lit ?_
  refine wpl_loadS (xs := vS { (crS (crS s)) with cells := mendL (cells2 (crS (crS s)) rn) (crS (crS s)).cols (crS (crS s)).y, x := (crS (crS s)).cols - 1, wrap := (crS (crS s)).auto } (.slice (some ⟨ga2, 0, none⟩) (crS (crS s)).cells.length ka2) (.slice (some ⟨gb2, 0, none⟩) (crS (crS s)).tabs.length kb2) (.slice Aa2 (crS (crS s)).other.length kc2) (.slice P42 q42 r42) (.slice P52 q52 r52) (.slice P62 q62 r62)) rfl (.tmp 2) rfl rfl ((heap_setCell_same _ _ 5 _ _ _ (heap_setCell_same _ _ 4 _ _ _ (heap_setCell_same _ _ 4 _ _ _ V6.out))).trans rfl) rfl ?_
  have z14 := (heap_setCell_other _ ⟨w.heap.size, 5, none⟩ (w.heap.size + 1) (.bool (crS (crS s)).auto) (by simp)).trans ((heap_setCell_other _ ⟨w.heap.size, 4, none⟩ (w.heap.size + 1) (.int .i64 ((crS (crS s)).cols - 1)) (by simp)).trans ((heap_setCell_other _ ⟨w.heap.size, 4, none⟩ (w.heap.size + 1) (.int .i64 ((crS (crS s)).x + 2)) (by simp)).trans Z6.out))
  refine wpl_storeS rfl (.tmp 4) (.tmp 55) rfl rfl rfl z14 rfl rfl (all24 rfl rfl rfl rfl rfl rfl rfl rfl rfl rfl rfl rfl rfl rfl rfl rfl rfl rfl rfl rfl rfl rfl rfl rfl) ?_
  go_wp2
  rw [putS_ge2 HGE.out]
  refine psEnd (w.heap.size + 1) 4 Tryz.results70 ?_ ?_ z14 (by omega) (((HWT.out.2.setCell (.inr (Nat.le_refl _)) _).setCell (.inr (Nat.le_refl _)) _).setCell (.inr (Nat.le_refl _)) _) sl3 ((((HWT.out.1.set HFAR.out.1 _).set HFAR.out.1 _).set HFAR.out.1 _).like rfl rfl rfl) HFAR.out.2 (fun x hx => (HSUB.out x hx).imp id (fun h => by omega))
  all_goals rfl
 ·have HGE := Lib.hid hge
  go_upto_region 14 with fail
  refine wp_region_lit ?_
  refine wpl_loadS (xs := vS { (crS (crS s)) with cells := mendL (cells2 (crS (crS s)) rn) (crS (crS s)).cols (crS (crS s)).y, x := (crS (crS s)).x + 2 } (.slice (some ⟨ga2, 0, none⟩) (crS (crS s)).cells.length ka2) (.slice (some ⟨gb2, 0, none⟩) (crS (crS s)).tabs.length kb2) (.slice Aa2 (crS (crS s)).other.length kc2) (.slice P42 q42 r42) (.slice P52 q52 r52) (.slice P62 q62 r62)) rfl (.tmp 2) rfl rfl ((heap_setCell_same _ _ 4 _ _ _ V6.out).trans rfl) rfl ?_
  have z14 := (heap_setCell_other _ ⟨w.heap.size, 4, none⟩ (w.heap.size + 1) (.int .i64 ((crS (crS s)).x + 2)) (by simp)).trans Z6.out
  refine wpl_storeS rfl (.tmp 4) (.tmp 55) rfl rfl rfl z14 rfl rfl (all24 rfl rfl rfl rfl rfl rfl rfl rfl rfl rfl rfl rfl rfl rfl rfl rfl rfl rfl rfl rfl rfl rfl rfl rfl) ?_
  go_wp2
  rw [putS_lt2 (by have := HGE.out; omega)]
  refine psEnd (w.heap.size + 1) 4 Tryz.results70 ?_ ?_ z14 (by omega) (HWT.out.2.setCell (.inr (Nat.le_refl _)) _) sl3 ((HWT.out.1.set HFAR.out.1 _).like rfl rfl rfl) HFAR.out.2 (fun x hx => (HSUB.out x hx).imp id (fun h => by omega))
  all_goals rfl
theorem pput_14 (s : Sc) (r c : Nat) (vc vt vo : Value) (A4 A5 A6 : Option Addr) (n4 n5 n6 k4 k5 k6 : Nat) (base : Nat) (w : World) (hbase : base ≤ w.heap.size) (h : PsL w base vc vt vo s) (hi : ScIn { s with wrap := false } r c) (rn : Int) (h0 : -2147483648 ≤ rn) (h1 : rn ≤ 2147483647) (hsp : Spans w) (hgb : 0 < w.heap.size) (hwd : widthL rn = 2) (hwr : s.wrap = true) (hend : (crS s).x = (crS s).cols - 1) (hau : (crS s).auto = false ∨ (crS s).cols = 1) :
  Calls Tryz.prog 70 #[.agg (vS s vc vt vo (.slice A4 n4 k4) (.slice A5 n5 k5) (.slice A6 n6 k6)), .int .i32 rn] w (PsPost base vc vt vo ((crS s)) w) := by
 have H0 := Lib.hid (show ∀ x, OwB vc vt vo x → x < w.heap.size from fun x hx => (h.lt x hx).2)
 obtain ⟨g1, k1, g2, k2, A3, k3, hvc, hvt, hvo, ⟨b1, l1, p1, q1⟩, ⟨b2, l2, p2, q2⟩, p3, q3⟩ := h.open_ hi
 subst hvc hvt hvo
 have H := Lib.hid h
 have HI := Lib.hid hi
 have hc1 := hi.g.c1
 have hc2 := hi.g.c2
 clear h hi
 have h2 := two_new w (.cells (vS s (.slice (some ⟨g1, 0, none⟩) s.cells.length k1) (.slice (some ⟨g2, 0, none⟩) s.tabs.length k2) (.slice A3 s.other.length k3) (.slice A4 n4 k4) (.slice A5 n5 k5) (.slice A6 n6 k6)) 31) (.cells zQ 31)
 have hW := wof_any rn h0 h1 ((w.alloc (.cells (vS s (.slice (some ⟨g1, 0, none⟩) s.cells.length k1) (.slice (some ⟨g2, 0, none⟩) s.tabs.length k2) (.slice A3 s.other.length k3) (.slice A4 n4 k4) (.slice A5 n5 k5) (.slice A6 n6 k6)) 31)).alloc (.cells zQ 31)) (hsp.below hgb h2.1)
 rw [hwd] at hW
 have HW := Lib.hid hW
 have H2 := Lib.hid h2
 clear hW h2 hwd
 go_enter Tryz.func70, Tryz.ntmps70
 go_upto_region 2 with ((with_reducible refine HW.out.mono ?_); rintro e w1 ⟨rfl, bw⟩)
 have hb4 : Below (w.heap.size + 1 + 1) _ w1 := (by rw [← H2.out.2]; exact bw)
 obtain ⟨e0, e1⟩ := two_keptB hb4
 have zw := bw.size
 rw [H2.out.2] at zw
 have HS : Hid (PutAt w base _ _ _ r c _ s g1 k1 g2 k2 A3 k3 (.slice A4 n4 k4) (.slice A5 n5 k5) (.slice A6 n6 k6) w1) :=
  ⟨e0, e1, (H.out.below H2.out.1).below bw, Fr.of (H2.out.1.trans (bw.mono H2.out.1.size)) _, by omega, fun x hx => .inl hx, HI.out, sl3⟩
 clear bw hb4 e0 e1 zw
 obtain ⟨d1, f1⟩ := cellR (v := .int .i64 s.cols) HS.out.v 1 rfl
 obtain ⟨d4, f4⟩ := cellR (v := .int .i64 s.x) HS.out.v 4 rfl
 obtain ⟨d5, f5⟩ := cellR (v := .bool s.wrap) HS.out.v 5 rfl
 obtain ⟨d13, f13⟩ := cellR (v := .bool s.auto) HS.out.v 13 rfl
 have xx0 : 0 ≤ s.x := HS.out.i.x0
 have xx1 : s.x < (c : Int) := HS.out.i.x1
 have xc : s.cols = (c : Int) := HS.out.i.cols
 have XC := Lib.hid xc
 replace xx1 : s.x ≤ s.cols - 1 := by omega
 have xx2 : 1 ≤ s.cols := by omega
 have xx3 : s.cols ≤ 1000 := by omega
 clear xc
 rw [hwr] at d5
 clear hwr
 go_upto_region 5 with fail
 clear d1 f1 d4 f4 d5 f5 d13 f13 xx0 xx1 xx2 xx3 XC
 go_upto_region 5 with fail
 refine wp_region_lit ?_
 refine wpl_loadS rfl (.tmp 2) rfl rfl HS.out.v rfl ?_
 go_wp2_with fail
 ((with_reducible refine (pnextLine_any s r c _ _ _ A4 A5 A6 n4 n5 n6 k4 k5 k6 base _ (by have := HS.out.n; omega) HS.out.p HS.out.i).mono ?_); rintro e w4 ⟨uc, ut, uo, up, ui, uu, rfl, hsl, hs4, hf4, hsub4⟩)
 have f1 := hf4.var HS.out.v (HS.out.far H0.out).1
 rename_i K hK
 refine hK _ _ ?_
 clear hK K
 refine wpl_storeS rfl (.tmp 2) (.tmp 14) rfl rfl rfl f1 rfl rfl (hs4.one hsl) ?_
 obtain ⟨ga1, ka1, gb1, kb1, Aa1, kc1, rfl, rfl, rfl, hS2⟩ := HS.out.next H0.out (wrapS_i HS.out.i) hsl hs4 hf4 hsub4
 obtain ⟨⟨P41, q41, r41, rfl⟩, ⟨P51, q51, r51, rfl⟩, ⟨P61, q61, r61, rfl⟩⟩ := hsl
 generalize World.setRow w4 w.heap.size _ = v1 at hS2 ⊢
 clear hs4 hf4 hsub4 f1 HS
 have HS := Lib.hid hS2
 clear hS2
 obtain ⟨d1, f1⟩ := cellR (v := .int .i64 (crS s).cols) HS.out.v 1 rfl
 obtain ⟨d4, f4⟩ := cellR (v := .int .i64 (crS s).x) HS.out.v 4 rfl
 obtain ⟨d5, f5⟩ := cellR (v := .bool (crS s).wrap) HS.out.v 5 rfl
 obtain ⟨d13, f13⟩ := cellR (v := .bool (crS s).auto) HS.out.v 13 rfl
 have xx0 : 0 ≤ (crS s).x := HS.out.i.x0
 have xx1 : (crS s).x < (c : Int) := HS.out.i.x1
 have xc : (crS s).cols = (c : Int) := HS.out.i.cols
 have XC := Lib.hid xc
 replace xx1 : (crS s).x ≤ (crS s).cols - 1 := by omega
 have xx2 : 1 ≤ (crS s).cols := by omega
 have xx3 : (crS s).cols ≤ 1000 := by omega
 clear xc
 have dgt : (crS s).cols - (crS s).x < 2 := by omega
 rcases hau with hau | hau
 ·rw [hau] at d13
  go_upto_region 8 with fail
  refine wp_region_lit ?_
  refine wpl_loadS rfl (.tmp 2) rfl rfl HS.out.v rfl ?_
  refine wpl_storeS rfl (.tmp 4) (.tmp 31) rfl rfl rfl HS.out.z rfl rfl (HS.out.p.one HS.out.sl) ?_
  go_wp2
  refine psEnd (w.heap.size + 1) 4 Tryz.results70 rfl rfl HS.out.z (by omega) HS.out.f HS.out.sl HS.out.p (HS.out.far H0.out).2 (fun x hx => (HS.out.sub x hx).imp id (fun h => by omega))
 ·cases hau2 : (crS s).auto with
  | false =>
   rw [hau2] at d13
   clear hau2
   go_upto_region 8 with fail
   refine wp_region_lit ?_
   refine wpl_loadS rfl (.tmp 2) rfl rfl HS.out.v rfl ?_
   refine wpl_storeS rfl (.tmp 4) (.tmp 31) rfl rfl rfl HS.out.z rfl rfl (HS.out.p.one HS.out.sl) ?_
   go_wp2
   refine psEnd (w.heap.size + 1) 4 Tryz.results70 rfl rfl HS.out.z (by omega) HS.out.f HS.out.sl HS.out.p (HS.out.far H0.out).2 (fun x hx => (HS.out.sub x hx).imp id (fun h => by omega))
  | true =>
   rw [hau2] at d13
   clear hau2
   have dg2 : (crS s).cols < 2 := by omega
   go_upto_region 8 with fail
   refine wp_region_lit ?_
   refine wpl_loadS rfl (.tmp 2) rfl rfl HS.out.v rfl ?_
   refine wpl_storeS rfl (.tmp 4) (.tmp 31) rfl rfl rfl HS.out.z rfl rfl (HS.out.p.one HS.out.sl) ?_
   go_wp2
   refine psEnd (w.heap.size + 1) 4 Tryz.results70 rfl rfl HS.out.z (by omega) HS.out.f HS.out.sl HS.out.p (HS.out.far H0.out).2 (fun x hx => (HS.out.sub x hx).imp id (fun h => by omega))
end Go.Proofs.YtlolgfgcgfjdjaaGreatDoor

namespace Go.Proofs.YtlolgfgcgfjdjaaGreatDoor
open Go.RowKit
set_option linter.unusedVariables false
set_option linter.unusedSimpArgs false
set_option maxHeartbeats 2000000
set_option maxRecDepth 100000
theorem wrapS_yes {s : Sc} (h : s.wrap = true) : wrapS s = crS s := by unfold wrapS; rw [if_pos h]
theorem wrapS_no {s : Sc} (h : s.wrap = false) : wrapS s = s := by unfold wrapS; rw [if_neg (by rw [h]; decide)]
theorem print0 {s : Sc} {r : Int} (h : widthL r = 0) : printS s r = s := by unfold printS; rw [if_pos h]
theorem print1 {s : Sc} {r : Int} (h : widthL r = 1) : printS s r = putS (wrapS s) r 1 := by
 unfold printS
 rw [if_neg (by rw [h]; decide), if_neg (by rw [h]; rintro ⟨e, _⟩; exact absurd e (by decide)), h]
theorem print2 {s : Sc} {r : Int} (h : widthL r = 2) (hx : ¬ (wrapS s).x = (wrapS s).cols - 1) : printS s r = putS (wrapS s) r 2 := by
 unfold printS
 rw [if_neg (by rw [h]; decide), if_neg (fun e => hx e.2), h]
theorem print3 {s : Sc} {r : Int} (h : widthL r = 2) (hx : (wrapS s).x = (wrapS s).cols - 1) (h2 : ¬ ((wrapS s).auto = false ∨ (wrapS s).cols = 1)) : printS s r = putS (crS (wrapS s)) r 2 := by
 unfold printS
 rw [if_neg (by rw [h]; decide), if_pos ⟨h, hx⟩, if_neg h2]
theorem print4 {s : Sc} {r : Int} (h : widthL r = 2) (hx : (wrapS s).x = (wrapS s).cols - 1) (h2 : (wrapS s).auto = false ∨ (wrapS s).cols = 1) : printS s r = wrapS s := by
 unfold printS
 rw [if_neg (by rw [h]; decide), if_pos ⟨h, hx⟩, if_pos h2]
theorem pput_0 (s : Sc) (r c : Nat) (vc vt vo : Value) (A4 A5 A6 : Option Addr) (n4 n5 n6 k4 k5 k6 : Nat) (base : Nat) (w : World) (hbase : base ≤ w.heap.size) (h : PsL w base vc vt vo s) (hi : ScIn { s with wrap := false } r c) (rn : Int) (h0 : -2147483648 ≤ rn) (h1 : rn ≤ 2147483647) (hsp : Spans w) (hgb : 0 < w.heap.size) (hwd : widthL rn = 0) :
  Calls Tryz.prog 70 #[.agg (vS s vc vt vo (.slice A4 n4 k4) (.slice A5 n5 k5) (.slice A6 n6 k6)), .int .i32 rn] w (PsPost base vc vt vo s w) := by
 obtain ⟨g1, k1, g2, k2, A3, k3, rfl, rfl, rfl, ⟨b1, l1, p1, q1⟩, ⟨b2, l2, p2, q2⟩, p3, q3⟩ := h.open_ hi
 have H := Lib.hid h
 have HI := Lib.hid hi
 obtain ⟨hlen, hr1, hr2, hc1, hc2, HR, HCO, hr3, hr4, hc3, hc4, y0, y1, x0, x1, t0, t1, u1⟩ := pIn hi
 clear h hi
 have h2 := two_new w (.cells (vS s (.slice (some ⟨g1, 0, none⟩) s.cells.length k1) (.slice (some ⟨g2, 0, none⟩) s.tabs.length k2) (.slice A3 s.other.length k3) (.slice A4 n4 k4) (.slice A5 n5 k5) (.slice A6 n6 k6)) 31) (.cells zQ 31)
 have hW := wof_any rn h0 h1 ((w.alloc (.cells (vS s (.slice (some ⟨g1, 0, none⟩) s.cells.length k1) (.slice (some ⟨g2, 0, none⟩) s.tabs.length k2) (.slice A3 s.other.length k3) (.slice A4 n4 k4) (.slice A5 n5 k5) (.slice A6 n6 k6)) 31)).alloc (.cells zQ 31)) (hsp.below hgb h2.1)
 rw [hwd] at hW
 have HW := Lib.hid hW
 have H2 := Lib.hid h2
 clear hW h2 hwd
 go_enter Tryz.func70, Tryz.ntmps70
 go_upto_region 2 with ((with_reducible refine HW.out.mono ?_); rintro e w1 ⟨rfl, bw⟩)
 have hb4 : Below (w.heap.size + 1 + 1) _ w1 := (by rw [← H2.out.2]; exact bw)
 obtain ⟨e0, e1⟩ := two_keptB hb4
 have B1 := Lib.hid (H2.out.1.trans (bw.mono H2.out.1.size))
 have K0 := Lib.hid e0
 have K1 := Lib.hid e1
 clear bw hb4 e0 e1
 go_upto_region 3 with fail
 refine wp_region_lit ?_
 refine wpl_loadS rfl (.tmp 2) rfl rfl K0.out rfl ?_
 refine wpl_storeS rfl (.tmp 4) (.tmp 10) rfl rfl rfl K1.out rfl rfl (all24 rfl rfl rfl rfl rfl rfl rfl rfl rfl rfl rfl rfl rfl rfl rfl rfl rfl rfl rfl rfl rfl rfl rfl rfl) ?_
 go_wp2
 refine psEnd0 (w.heap.size + 1) 4 Tryz.results70 ?_ ?_ K1.out (by omega) B1.out sl3 H.out ?_ ?_ ?_
 all_goals rfl
theorem pput_any (s : Sc) (r c : Nat) (vc vt vo : Value) (A4 A5 A6 : Option Addr) (n4 n5 n6 k4 k5 k6 : Nat) (base : Nat) (w : World) (hbase : base ≤ w.heap.size) (h : PsL w base vc vt vo s) (hi : ScIn { s with wrap := false } r c) (rn : Int) (h0 : -2147483648 ≤ rn) (h1 : rn ≤ 2147483647) (hsp : Spans w) (hgb : 0 < w.heap.size) :
  Calls Tryz.prog 70 #[.agg (vS s vc vt vo (.slice A4 n4 k4) (.slice A5 n5 k5) (.slice A6 n6 k6)), .int .i32 rn] w (PsPost base vc vt vo (printS s rn) w) := by
 have hend : ∀ s' : Sc, ScIn { s' with wrap := false } r c → ¬ s'.x = s'.cols - 1 → s'.x + 1 < s'.cols := fun s' hi' hx => by
  have e1 : s'.x < (c : Int) := hi'.x1
  have e2 : s'.cols = (c : Int) := hi'.cols
  omega
 have hcol : ∀ s' : Sc, ScIn { s' with wrap := false } r c → ¬ (s'.auto = false ∨ s'.cols = 1) → s'.auto = true ∧ 1 < s'.cols := fun s' hi' hx => by
  have e2 : s'.cols = (c : Int) := hi'.cols
  have e3 := hi'.g.c1
  refine ⟨?_, by omega⟩
  cases e : s'.auto with
  | true => rfl
  | false => exact absurd (.inl e) hx
 rcases widthL_cases rn with hw | hw | hw
 ·rw [print0 hw]
  exact pput_0 s r c vc vt vo A4 A5 A6 n4 n5 n6 k4 k5 k6 base w hbase h hi rn h0 h1 hsp hgb hw
 ·rw [print1 hw]
  cases hwr : s.wrap with
  | true => rw [wrapS_yes hwr]; exact pput_11 s r c vc vt vo A4 A5 A6 n4 n5 n6 k4 k5 k6 base w hbase h hi rn h0 h1 hsp hgb hw hwr
  | false => rw [wrapS_no hwr]; exact pput_01 s r c vc vt vo A4 A5 A6 n4 n5 n6 k4 k5 k6 base w hbase h hi rn h0 h1 hsp hgb hw hwr
 ·cases hwr : s.wrap with
  | true =>
   by_cases hx : (crS s).x = (crS s).cols - 1
   ·by_cases h2 : (crS s).auto = false ∨ (crS s).cols = 1
    ·rw [print4 hw (by rw [wrapS_yes hwr]; exact hx) (by rw [wrapS_yes hwr]; exact h2), wrapS_yes hwr]
     exact pput_14 s r c vc vt vo A4 A5 A6 n4 n5 n6 k4 k5 k6 base w hbase h hi rn h0 h1 hsp hgb hw hwr hx h2
    ·rw [print3 hw (by rw [wrapS_yes hwr]; exact hx) (by rw [wrapS_yes hwr]; exact h2), wrapS_yes hwr]
     obtain ⟨a, b⟩ := hcol _ (wrapS_i hi) h2
     exact pput_13 s r c vc vt vo A4 A5 A6 n4 n5 n6 k4 k5 k6 base w hbase h hi rn h0 h1 hsp hgb hw hwr hx a b
   ·rw [print2 hw (by rw [wrapS_yes hwr]; exact hx), wrapS_yes hwr]
    exact pput_12 s r c vc vt vo A4 A5 A6 n4 n5 n6 k4 k5 k6 base w hbase h hi rn h0 h1 hsp hgb hw hwr (hend _ (wrapS_i hi) hx)
  | false =>
   by_cases hx : s.x = s.cols - 1
   ·by_cases h2 : s.auto = false ∨ s.cols = 1
    ·rw [print4 hw (by rw [wrapS_no hwr]; exact hx) (by rw [wrapS_no hwr]; exact h2), wrapS_no hwr]
     exact pput_04 s r c vc vt vo A4 A5 A6 n4 n5 n6 k4 k5 k6 base w hbase h hi rn h0 h1 hsp hgb hw hwr hx h2
    ·rw [print3 hw (by rw [wrapS_no hwr]; exact hx) (by rw [wrapS_no hwr]; exact h2), wrapS_no hwr]
     obtain ⟨a, b⟩ := hcol _ hi h2
     exact pput_03 s r c vc vt vo A4 A5 A6 n4 n5 n6 k4 k5 k6 base w hbase h hi rn h0 h1 hsp hgb hw hwr hx a b
   ·rw [print2 hw (by rw [wrapS_no hwr]; exact hx), wrapS_no hwr]
    exact pput_02 s r c vc vt vo A4 A5 A6 n4 n5 n6 k4 k5 k6 base w hbase h hi rn h0 h1 hsp hgb hw hwr (hend _ hi hx)
end Go.Proofs.YtlolgfgcgfjdjaaGreatDoor

namespace Go.Proofs.YtlolgfgcgfjdjaaGreatDoor
open Go.RowKit
set_option linter.unusedVariables false
set_option linter.unusedSimpArgs false
set_option maxHeartbeats 2000000
set_option maxRecDepth 100000
def clipN (x : Int) : Int := min (max x (-1000)) 1000
theorem SL.getI {w : World} {S : Nat → Prop} {A : Option Addr} {n c : Nat} {l : List Int} (h : SL vI w S (.slice A n c) l) (i : Nat) (x : Int) (hx : l[i]? = some x) : ∃ ad, A = some ad ∧ S ad.block ∧ w.cell? (ad.add i) = some (.int .i64 x) := by
 obtain ⟨A', c', hv, _, _, h3⟩ := h
 simp only [Value.slice.injEq] at hv
 have hi : i < l.length := (List.getElem?_eq_some_iff.1 hx).1
 obtain ⟨ad, hA, hb, hcell⟩ := h3 (by omega)
 exact ⟨ad, hv.1.trans hA, hb, hcell i x hx⟩
theorem pnumber_any (v : Value) (l : List Int) (i : Nat) (S : Nat → Prop) (w : World) (h : SL vI w S v l) (hl : l.length ≤ 1048576) (hi : i < 1000) : Calls Tryz.prog 160 #[v, .int .i64 (i : Int)] w fun e w' => e = .returned (.int .i64 (clipN (paramL l i 1))) ∧ w = w' := by
 obtain ⟨A, c, rfl, h1, h2⟩ := h.form
 have H := Lib.hid h
 clear h
 by_cases hlt : i < l.length
 ·obtain ⟨x, hx⟩ : ∃ x, l[i]? = some x := ⟨_, List.getElem?_eq_getElem hlt⟩
  have hg : l.getD i 0 = x := by simp [List.getD, hx]
  obtain ⟨ad, rfl, -, e1⟩ := H.out.getI i x hx
  have HG := Lib.hid hg
  clear hg hx
  by_cases hz : x = 0
  ·subst hz
   go_enter Tryz.func160, Tryz.ntmps160
   go_wp2
   go_ret
   exact ⟨by unfold paramL; rw [HG.out]; rfl, rfl⟩
  ·have hz1 : (x == 0) = false := by simpa using hz
   have HZ := Lib.hid hz
   clear hz
   go_enter Tryz.func160, Tryz.ntmps160
   go_wp2
   all_goals
    go_ret
    refine ⟨?_, rfl⟩
    unfold paramL
    rw [HG.out, if_neg HZ.out]
    refine congrArg Ending.returned (congrArg (Value.int .i64) ?_)
    unfold clipN
    first
    | omega
    | (split <;> omega)
    | (split <;> (try split) <;> omega)
 ·have hg : l.getD i 0 = 0 := by simp [List.getD, List.getElem?_eq_none (show l.length ≤ i by omega)]
  have HG := Lib.hid hg
  clear hg
  go_enter Tryz.func160, Tryz.ntmps160
  go_wp2
  go_ret
  exact ⟨by unfold paramL; rw [HG.out]; rfl, rfl⟩
theorem pchoice_any (v : Value) (l : List Int) (S : Nat → Prop) (w : World) (h : SL vI w S v l) (hl : l.length ≤ 1048576) : Calls Tryz.prog 162 #[v] w fun e w' => e = .returned (.int .i64 (paramL l 0 0)) ∧ w = w' := by
 obtain ⟨A, c, rfl, h1, h2⟩ := h.form
 have H := Lib.hid h
 clear h
 cases l with
 | nil =>
  go_enter Tryz.func162, Tryz.ntmps162
  go_wp2
  go_ret
  exact ⟨rfl, rfl⟩
 | cons x l =>
  obtain ⟨ad, rfl, -, e1⟩ := H.out.getI 0 x rfl
  have e2 : paramL (x :: l) 0 0 = x := by unfold paramL; simp; exact fun h => h.symm
  have e3 : ((((x :: l).length : Nat) : Int) == 0) = false := by have : 0 < (x :: l).length := Nat.succ_pos _; rw [beq_eq_false_iff_ne]; omega
  have e4 : (0 : Int) < (((x :: l).length : Nat) : Int) := by have : 0 < (x :: l).length := Nat.succ_pos _; omega
  rw [e2]
  have hn : ad.add 0 = ad := by unfold Addr.add; simp
  rw [hn] at e1
  generalize hN : (x :: l).length = N at *
  clear e2 hN
  go_enter Tryz.func162, Tryz.ntmps162
  go_wp2
  go_ret
  exact ⟨rfl, rfl⟩
theorem pinside_any (s : Sc) (r c : Nat) (vc vt vo : Value) (A4 A5 A6 : Option Addr) (n4 n5 n6 k4 k5 k6 : Nat) (base : Nat) (w : World) (hbase : base ≤ w.heap.size) (h : PsL w base vc vt vo s) (hi : ScIn { s with wrap := false } r c) (y x : Int) :
  Calls Tryz.prog 47 #[.agg (vS s vc vt vo (.slice A4 n4 k4) (.slice A5 n5 k5) (.slice A6 n6 k6)), .int .i64 y, .int .i64 x] w fun e w' => e = .returned (.tuple #[.int .i64 (min (max y 0) (s.rows - 1)), .int .i64 (min (max x 0) (s.cols - 1))]) ∧ Below w.heap.size w w' := by
 obtain ⟨g1, k1, g2, k2, A3, k3, rfl, rfl, rfl, ⟨b1, l1, p1, q1⟩, ⟨b2, l2, p2, q2⟩, p3, q3⟩ := h.open_ hi
 have H := Lib.hid h
 have HI := Lib.hid hi
 obtain ⟨hlen, hr1, hr2, hc1, hc2, HR, HCO, hr3, hr4, hc3, hc4, y0, y1, x0, x1, t0, t1, u1⟩ := pIn hi
 clear h hi
 have qr : IntKind.i64.wrap (s.rows - 1) = s.rows - 1 := by rw [IntKind.wrap_i64]; omega
 have QR := Lib.hid qr
 have qc : IntKind.i64.wrap (s.cols - 1) = s.cols - 1 := by rw [IntKind.wrap_i64]; omega
 have QC := Lib.hid qc
 clear qr qc
 go_enter Tryz.func47, Tryz.ntmps47
 go_wp2
 refine wp_region_any (by kernel_rfl) ?_
 try (change wpAny _ _ _ _ _ _ _ (World.drew _))
 refine wpAny_take (i := 0) (v := .int .i64 y) rfl (by kernel_rfl) (by kernel_rfl) (by kernel_rfl) (fun _ _ _ h => h) (Or.inl ⟨by rfl, fun w => by go_simp⟩) ?_
 go_simp
 refine wpAny_take (i := 1) (v := .int .i64 (if y < 0 then 0 else y)) rfl (by kernel_rfl) (by kernel_rfl) (by kernel_rfl) (fun _ _ _ h => h) (Or.inl ⟨by rfl, fun w => by go_simp⟩) ?_
 go_simp
 refine wpAny_take (i := 6) (v := .int .i64 x) rfl (by kernel_rfl) (by kernel_rfl) (by kernel_rfl) (fun _ _ _ h => h) (Or.inl ⟨by rfl, fun w => by go_simp⟩) ?_
 go_simp
 refine wpAny_take (i := 7) (v := .int .i64 (if x < 0 then 0 else x)) rfl (by kernel_rfl) (by kernel_rfl) (by kernel_rfl) (fun _ _ _ h => h) (Or.inl ⟨by rfl, fun w => by go_simp⟩) ?_
 go_simp
 refine wpAny_take (i := 2) (v := .pointer (some ⟨w.heap.size, 0, none⟩)) rfl (by kernel_rfl) (by kernel_rfl) (by kernel_rfl) (fun _ _ _ h => h) (Or.inl ⟨by rfl, fun w => by go_simp⟩) ?_
 go_simp
 refine wpAny_take (i := 8) (v := .pointer (some ⟨w.heap.size, 1, none⟩)) rfl (by kernel_rfl) (by kernel_rfl) (by kernel_rfl) (fun _ _ _ h => h) (Or.inl ⟨by rfl, fun w => by go_simp⟩) ?_
 go_simp
 refine wpAny_ready (rs := [3, 9]) (by kernel_rfl) (by simp) ?_
 refine AllReady.cons rfl (fun K hK => ?_) (AllReady.cons rfl (fun K hK => ?_) AllReady.nil)
 ·go_simp
  refine hK _ _ ?_
  clear hK K
  refine wpAny_take (i := 4) (v := .int .i64 (s.rows - 1)) rfl (by kernel_rfl) (by kernel_rfl) (by kernel_rfl) (fun _ _ _ h => h) (Or.inl ⟨by rfl, fun w => by go_simp; exact QR.out⟩) ?_
  go_simp
  refine wpAny_take (i := 5) (v := .int .i64 (if s.rows - 1 < (if y < 0 then 0 else y) then s.rows - 1 else (if y < 0 then 0 else y))) rfl (by kernel_rfl) (by kernel_rfl) (by kernel_rfl) (fun _ _ _ h => h) (Or.inl ⟨by rfl, fun w => by go_simp⟩) ?_
  go_simp
  refine wpAny_take (i := 12) (v := .int .i64 (if s.rows - 1 < (if y < 0 then 0 else y) then s.rows - 1 else (if y < 0 then 0 else y))) rfl (by kernel_rfl) (by kernel_rfl) (by kernel_rfl) (fun _ _ _ h => h) (Or.inl ⟨by rfl, fun w => by go_simp⟩) ?_
  go_simp
  refine wpAny_ready (rs := [9]) (by kernel_rfl) (by simp) ?_
  refine AllReady.cons rfl (fun K hK => ?_) AllReady.nil
  go_simp
  refine hK _ _ ?_
  clear hK K
  refine wpAny_take (i := 10) (v := .int .i64 (s.cols - 1)) rfl (by kernel_rfl) (by kernel_rfl) (by kernel_rfl) (fun _ _ _ h => h) (Or.inl ⟨by rfl, fun w => by go_simp; exact QC.out⟩) ?_
  go_simp
  refine wpAny_take (i := 11) (v := .int .i64 (if s.cols - 1 < (if x < 0 then 0 else x) then s.cols - 1 else (if x < 0 then 0 else x))) rfl (by kernel_rfl) (by kernel_rfl) (by kernel_rfl) (fun _ _ _ h => h) (Or.inl ⟨by rfl, fun w => by go_simp⟩) ?_
  go_simp
  refine wpAny_take (i := 13) (v := .int .i64 (if s.cols - 1 < (if x < 0 then 0 else x) then s.cols - 1 else (if x < 0 then 0 else x))) rfl (by kernel_rfl) (by kernel_rfl) (by kernel_rfl) (fun _ _ _ h => h) (Or.inl ⟨by rfl, fun w => by go_simp⟩) ?_
  go_simp
  refine wpAny_done (by kernel_rfl) ?_ _
  rw [minmax_if, minmax_if]
  generalize (if y < 0 then (0 : Int) else y) = qy
  generalize (if x < 0 then (0 : Int) else x) = qx
  go_wp2
  go_ret2
  exact ⟨rfl, ((Below.refl _ _).alloc (Nat.le_refl _) _).drew⟩
 ·go_simp
  refine hK _ _ ?_
  clear hK K
  refine wpAny_take (i := 10) (v := .int .i64 (s.cols - 1)) rfl (by kernel_rfl) (by kernel_rfl) (by kernel_rfl) (fun _ _ _ h => h) (Or.inl ⟨by rfl, fun w => by go_simp; exact QC.out⟩) ?_
  go_simp
  refine wpAny_take (i := 11) (v := .int .i64 (if s.cols - 1 < (if x < 0 then 0 else x) then s.cols - 1 else (if x < 0 then 0 else x))) rfl (by kernel_rfl) (by kernel_rfl) (by kernel_rfl) (fun _ _ _ h => h) (Or.inl ⟨by rfl, fun w => by go_simp⟩) ?_
  go_simp
  refine wpAny_ready (rs := [3]) (by kernel_rfl) (by simp) ?_
  refine AllReady.cons rfl (fun K hK => ?_) AllReady.nil
  go_simp
  refine hK _ _ ?_
  clear hK K
  refine wpAny_take (i := 4) (v := .int .i64 (s.rows - 1)) rfl (by kernel_rfl) (by kernel_rfl) (by kernel_rfl) (fun _ _ _ h => h) (Or.inl ⟨by rfl, fun w => by go_simp; exact QR.out⟩) ?_
  go_simp
  refine wpAny_take (i := 5) (v := .int .i64 (if s.rows - 1 < (if y < 0 then 0 else y) then s.rows - 1 else (if y < 0 then 0 else y))) rfl (by kernel_rfl) (by kernel_rfl) (by kernel_rfl) (fun _ _ _ h => h) (Or.inl ⟨by rfl, fun w => by go_simp⟩) ?_
  go_simp
  refine wpAny_take (i := 12) (v := .int .i64 (if s.rows - 1 < (if y < 0 then 0 else y) then s.rows - 1 else (if y < 0 then 0 else y))) rfl (by kernel_rfl) (by kernel_rfl) (by kernel_rfl) (fun _ _ _ h => h) (Or.inl ⟨by rfl, fun w => by go_simp⟩) ?_
  go_simp
  refine wpAny_take (i := 13) (v := .int .i64 (if s.cols - 1 < (if x < 0 then 0 else x) then s.cols - 1 else (if x < 0 then 0 else x))) rfl (by kernel_rfl) (by kernel_rfl) (by kernel_rfl) (fun _ _ _ h => h) (Or.inl ⟨by rfl, fun w => by go_simp⟩) ?_
  go_simp
  refine wpAny_done (by kernel_rfl) ?_ _
  rw [minmax_if, minmax_if]
  generalize (if y < 0 then (0 : Int) else y) = qy
  generalize (if x < 0 then (0 : Int) else x) = qx
  go_wp2
  go_ret2
  exact ⟨rfl, ((Below.refl _ _).alloc (Nat.le_refl _) _).drew⟩
end Go.Proofs.YtlolgfgcgfjdjaaGreatDoor

namespace Go.Proofs.YtlolgfgcgfjdjaaGreatDoor
set_option linter.unusedVariables false
set_option linter.unusedSimpArgs false
set_option maxHeartbeats 400000
set_option maxRecDepth 100000
theorem eraU_no {l : List Cl} {r c : Nat} (fr til : Nat) (k : Nat) (hk : k ≤ r) (h : ∀ y, y < r → ¬ (fr < y * c + c ∧ y * c < til)) : eraU l c (fr : Int) (til : Int) k = l := by
 induction k with
 | zero => rfl
 | succ k ih =>
  unfold eraU
  rw [if_neg (by have := h k (by omega); omega)]
  exact ih (by omega)
section
variable {s : Sc} {r c Y X : Nat}
theorem eraS_of (hi : ScIn { s with wrap := false } r c) (hw : Whole s.cells r c) (hY : s.y = (Y : Int)) (hYr : Y < r) (row : Bool) (k : Int) (hk : ¬ 2 < k) (F T : Nat)
  (hF : (if k = 0 then s.y * s.cols + s.x else if row = true then s.y * s.cols else 0).toNat = F) (hT : (if k = 1 then s.y * s.cols + s.x + 1 else if row = true then (s.y + 1) * s.cols else s.cells.length).toNat = T)
  (ho : ∀ y, y < r → y ≠ Y → (F ≤ y * c ∧ y * c + c ≤ T) ∨ y * c + c ≤ F ∨ T ≤ y * c) : eraseS s row k = { s with wrap := false, cells := eraU s.cells c F T r } := by
 unfold eraseS
 rw [if_neg hk, hF, hT, eraU_all (show GOk s.cells.length r c from hi.g) hw F T Y hYr ho, show s.cols = (c : Int) from hi.cols, hY]
theorem ho_of {F T : Nat} (hYr : Y < r) (hX : X < c) (h : (F = Y * c + X ∧ T = r * c) ∨ (F = 0 ∧ T = Y * c + X + 1) ∨ (F = 0 ∧ T = r * c) ∨ (F = Y * c + X ∧ T = Y * c + c) ∨ (F = Y * c ∧ T = Y * c + X + 1) ∨ (F = Y * c ∧ T = Y * c + c) ∨ (Y * c ≤ F ∧ T ≤ Y * c + c)) :
  ∀ y, y < r → y ≠ Y → (F ≤ y * c ∧ y * c + c ≤ T) ∨ y * c + c ≤ F ∨ T ≤ y * c := fun y hy hne => by
 have h1 : y * c + c ≤ r * c := row_end hy
 have h2 : Y * c + c ≤ r * c := row_end hYr
 generalize r * c = N at *
 rcases Nat.lt_or_gt_of_ne hne with g | g
 ·have h3 : y * c + c ≤ Y * c := row_end g
  generalize y * c = a at *
  generalize Y * c = b at *
  omega
 ·have h3 : Y * c + c ≤ y * c := row_end g
  generalize y * c = a at *
  generalize Y * c = b at *
  omega
theorem eraX_of (hi : ScIn { s with wrap := false } r c) (hw : Whole s.cells r c) (hY : s.y = (Y : Int)) (hX : s.x = (X : Int)) (hYr : Y < r) (hXc : X < c) (n : Int) (hn : 0 ≤ n) (E : Nat) (hE : (E : Int) = min (s.x + clipN n) s.cols) :
  eraseL s.cells s.cols s.y s.x (s.x + n) = eraU s.cells c ((Y * c + X : Nat) : Int) ((Y * c + E : Nat) : Int) r := by
 have hc : s.cols = (c : Int) := hi.cols
 have hc2 : c ≤ 1000 := hi.g.c2
 have hcl : clipN n = min n 1000 := by unfold clipN; omega
 rw [hc, hX, hcl] at hE
 rw [eraU_all (show GOk s.cells.length r c from hi.g) hw (Y * c + X) (Y * c + E) Y hYr (ho_of hYr hXc (.inr (.inr (.inr (.inr (.inr (.inr ⟨by omega, by omega⟩)))))))]
 have h2 : gPlace s.cells.length (c : Int) (Y : Int) 0 = true := gPlace_mk (show GOk s.cells.length r c from hi.g) (by omega) (by omega) (by omega) (by omega)
 unfold eraseL
 rw [hc, hY, hX, if_pos h2]
 simp only [Int.toNat_natCast]
 rw [show capC (X : Int) (c : Int) = X by unfold capC; omega, show capC ((X : Int) + n) (c : Int) = E by unfold capC; omega]
end
end Go.Proofs.YtlolgfgcgfjdjaaGreatDoor
