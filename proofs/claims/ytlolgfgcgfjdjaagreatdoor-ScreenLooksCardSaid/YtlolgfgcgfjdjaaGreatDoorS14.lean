/- What is proved here: the contract of the landed screen's move. -/
import Derived.Test.YtlolgfgcgfjdjaaGreatDoorS13
namespace Go.Proofs.YtlolgfgcgfjdjaaGreatDoor
open Go.RowKit
set_option linter.unusedVariables false
set_option linter.unusedSimpArgs false
set_option maxHeartbeats 2000000
set_option maxRecDepth 100000
theorem pnumber_0 (v : Value) (l : List Int) (S : Nat → Prop) (w : World) (h : SL vI w S v l) (hl : l.length ≤ 1048576) (N : Int) (hN : clipN (paramL l 0 1) = N) : Calls Tryz.prog 160 #[v, .int .i64 0] w fun e w' => e = .returned (.int .i64 N) ∧ w = w' := by
 subst hN
 exact pnumber_any v l 0 S w h hl (by omega)
theorem pnumber_1 (v : Value) (l : List Int) (S : Nat → Prop) (w : World) (h : SL vI w S v l) (hl : l.length ≤ 1048576) (N : Int) (hN : clipN (paramL l 1 1) = N) : Calls Tryz.prog 160 #[v, .int .i64 1] w fun e w' => e = .returned (.int .i64 N) ∧ w = w' := by
 subst hN
 exact pnumber_any v l 1 S w h hl (by omega)
theorem clip_bd (x : Int) : -1000 ≤ clipN x ∧ clipN x ≤ 1000 := by unfold clipN; omega
theorem pmove_65 (s : Sc) (r c : Nat) (vc vt vo : Value) (A4 A5 A6 : Option Addr) (n4 n5 n6 k4 k5 k6 : Nat) (base : Nat) (w : World) (hbase : base ≤ w.heap.size) (h : PsL w base vc vt vo s) (hi : ScIn { s with wrap := false } r c) (vp : Value) (l : List Int) (T : Nat → Prop) (hT : ∀ x, T x → x < w.heap.size) (hl : SL vI w T vp l) (hll : l.length ≤ 1048576)  :
  Calls Tryz.prog 143 #[.agg (vS s vc vt vo (.slice A4 n4 k4) (.slice A5 n5 k5) (.slice A6 n6 k6)), vp, .int .u8 65] w (PsPost base vc vt vo (toS s (s.y - paramL l 0 1) (s.x)) w) := by
 have H0 := Lib.hid (show ∀ x, OwB vc vt vo x → x < w.heap.size from fun x hx => (h.lt x hx).2)
 obtain ⟨g1, k1, g2, k2, A3, k3, rfl, rfl, rfl, ⟨b1, l1, p1, q1⟩, ⟨b2, l2, p2, q2⟩, p3, q3⟩ := h.open_ hi
 have H := Lib.hid h
 have HI := Lib.hid hi
 obtain ⟨hlen, hr1, hr2, hc1, hc2, HR, HCO, hr3, hr4, hc3, hc4, y0, y1, x0, x1, t0, t1, u1⟩ := pIn hi
 clear h hi
 have HT := Lib.hid hT
 obtain ⟨AP, kP, rfl, pP, qP⟩ := hl.form
 have HLI := Lib.hid hl
 clear hT hl
 have hb0 := clip_bd (paramL l 0 1)
 have hb1 := clip_bd (paramL l 1 1)
 have e : toS s (s.y - paramL l 0 1) (s.x) = toS s (s.y - clipN (paramL l 0 1)) (s.x) := by
  unfold toS clipN
  congr 1 <;> omega
 rw [e]
 clear e
 have h2 := two_new w (.cells (vS s (.slice (some ⟨g1, 0, none⟩) s.cells.length k1) (.slice (some ⟨g2, 0, none⟩) s.tabs.length k2) (.slice A3 s.other.length k3) (.slice A4 n4 k4) (.slice A5 n5 k5) (.slice A6 n6 k6)) 31) (.cells zQ 31)
 have HLW := Lib.hid (HLI.out.keep (w' := (w.alloc (.cells (vS s (.slice (some ⟨g1, 0, none⟩) s.cells.length k1) (.slice (some ⟨g2, 0, none⟩) s.tabs.length k2) (.slice A3 s.other.length k3) (.slice A4 n4 k4) (.slice A5 n5 k5) (.slice A6 n6 k6)) 31)).alloc (.cells zQ 31)) (fun q hq => h2.1.cell (HT.out _ hq)))
 have H2 := Lib.hid h2
 obtain ⟨N0, hN0⟩ : ∃ N0, clipN (paramL l 0 1) = N0 := ⟨_, rfl⟩
 obtain ⟨N1, hN1⟩ : ∃ N1, clipN (paramL l 1 1) = N1 := ⟨_, rfl⟩
 rw [hN0] at hb0
 rw [hN1] at hb1
 rw [hN0]
 have HN0 := Lib.hid hN0
 have HN1 := Lib.hid hN1
 clear h2 hN0 hN1
 go_enter Tryz.func143, Tryz.ntmps143
 go_upto_region 2 with (((with_reducible refine (pnumber_0 _ l T _ HLW.out hll N0 HN0.out).mono ?_); rintro e w' ⟨rfl, rfl⟩))
 go_quiet (fail)
 have K0 : Hid (((w.alloc (.cells (vS s (.slice (some ⟨g1, 0, none⟩) s.cells.length k1) (.slice (some ⟨g2, 0, none⟩) s.tabs.length k2) (.slice A3 s.other.length k3) (.slice A4 n4 k4) (.slice A5 n5 k5) (.slice A6 n6 k6)) 31)).alloc (.cells zQ 31)).heap[w.heap.size]? = some (.cells (vS s (.slice (some ⟨g1, 0, none⟩) s.cells.length k1) (.slice (some ⟨g2, 0, none⟩) s.tabs.length k2) (.slice A3 s.other.length k3) (.slice A4 n4 k4) (.slice A5 n5 k5) (.slice A6 n6 k6)) 31)) := heap_a1 w _ _
 have K1 : Hid (((w.alloc (.cells (vS s (.slice (some ⟨g1, 0, none⟩) s.cells.length k1) (.slice (some ⟨g2, 0, none⟩) s.tabs.length k2) (.slice A3 s.other.length k3) (.slice A4 n4 k4) (.slice A5 n5 k5) (.slice A6 n6 k6)) 31)).alloc (.cells zQ 31)).heap[w.heap.size + 1]? = some (.cells zQ 31)) := heap_a2 w _ _
 have HP : Hid (PsL ((w.alloc (.cells (vS s (.slice (some ⟨g1, 0, none⟩) s.cells.length k1) (.slice (some ⟨g2, 0, none⟩) s.tabs.length k2) (.slice A3 s.other.length k3) (.slice A4 n4 k4) (.slice A5 n5 k5) (.slice A6 n6 k6)) 31)).alloc (.cells zQ 31)) base _ _ _ s) := (H.out.alloc _).alloc _
 have HB := Lib.hid H2.out.1
 have HZ := Lib.hid H2.out.2
 generalize hWD : World.drewN _ _ = WD
 have hh : WD.heap = ((w.alloc (.cells (vS s (.slice (some ⟨g1, 0, none⟩) s.cells.length k1) (.slice (some ⟨g2, 0, none⟩) s.tabs.length k2) (.slice A3 s.other.length k3) (.slice A4 n4 k4) (.slice A5 n5 k5) (.slice A6 n6 k6)) 31)).alloc (.cells zQ 31)).heap := by rw [← hWD]; rfl
 have hbd : Below w.heap.size w WD := by rw [← hWD]; exact ⟨HB.out.os, HB.out.tape, HB.out.output, HB.out.size, HB.out.block⟩
 have HS : Hid (PutAt w base _ _ _ r c _ s g1 k1 g2 k2 A3 k3 (.slice A4 n4 k4) (.slice A5 n5 k5) (.slice A6 n6 k6) WD) :=
  ⟨by rw [hh]; exact K0.out, by rw [hh]; exact K1.out, HP.out.keep (fun x _ => by rw [hh]), Fr.of hbd _, by rw [hh]; exact (by rw [HZ.out]; omega), fun x hx => .inl hx, HI.out, sl3⟩
 have HLD : Hid (SL vI WD T (.slice AP l.length kP) l) := HLW.out.keep (fun q _ => World.cell?_of_block (by rw [hh]))
 have HBD := Lib.hid hbd
 clear hWD hh hbd K0 K1 HP HB HZ H2 HLW
 go_upto_region 20 with (((with_reducible refine (pnumber_1 _ l T _ HLD.out hll N1 HN1.out).mono ?_); rintro e w' ⟨rfl, rfl⟩))
 refine wp_region_lit ?_
 refine wpl_loadS rfl (.tmp 3) rfl rfl HS.out.v rfl ?_
 go_wp2_with fail
 ((with_reducible refine (pinside_any s r c _ _ _ A4 A5 A6 n4 n5 n6 k4 k5 k6 base _ (by have := HS.out.n; omega) HS.out.p HS.out.i _ _).mono ?_); rintro e w4 ⟨rfl, b4⟩)
 have hn := HS.out.n
 have e0 := (b4.block _ (by omega)).trans HS.out.v
 have e1 := (b4.block _ hn).trans HS.out.z
 have bf : Below w.heap.size w w4 := HBD.out.trans (b4.mono (by omega))
 obtain ⟨c3, f3⟩ := cellR (v := .int .i64 s.y) e0 3 rfl
 obtain ⟨c4, f4⟩ := cellR (v := .int .i64 s.x) e0 4 rfl
 obtain ⟨c5, f5⟩ := cellR (v := .bool s.wrap) e0 5 rfl
 have E0 := Lib.hid e0
 have E1 := Lib.hid e1
 have BF := Lib.hid bf
 clear e0 e1 bf b4
 rename_i K hK
 refine hK _ _ ?_
 clear hK K
 go_upto_region 22 with fail
 refine wp_region_lit ?_
 refine wpl_loadS rfl (.tmp 3) rfl rfl ((heap_setCell_same _ _ 5 _ _ _ (heap_setCell_same _ _ 4 _ _ _ (heap_setCell_same _ _ 3 _ _ _ E0.out))).trans rfl) rfl ?_
 have z14 := (heap_setCell_other _ ⟨w.heap.size, 5, none⟩ (w.heap.size + 1) (.bool false) (by simp)).trans ((heap_setCell_other _ ⟨w.heap.size, 4, none⟩ (w.heap.size + 1) (.int .i64 (min (max (s.x) 0) (s.cols - 1))) (by simp)).trans ((heap_setCell_other _ ⟨w.heap.size, 3, none⟩ (w.heap.size + 1) (.int .i64 (min (max (s.y - N0) 0) (s.rows - 1))) (by simp)).trans E1.out))
 refine wpl_storeS rfl (.tmp 6) (.tmp 64) rfl rfl rfl z14 rfl rfl (all24 rfl rfl rfl rfl rfl rfl rfl rfl rfl rfl rfl rfl rfl rfl rfl rfl rfl rfl rfl rfl rfl rfl rfl rfl) ?_
 go_wp2
 refine psEnd0 (w.heap.size + 1) 6 Tryz.results143 ?_ ?_ z14 (by omega) (((BF.out.setCell (by simp) _).setCell (by simp) _).setCell (by simp) _) sl3 H.out ?_ ?_ ?_
 all_goals rfl
theorem pmove_66 (s : Sc) (r c : Nat) (vc vt vo : Value) (A4 A5 A6 : Option Addr) (n4 n5 n6 k4 k5 k6 : Nat) (base : Nat) (w : World) (hbase : base ≤ w.heap.size) (h : PsL w base vc vt vo s) (hi : ScIn { s with wrap := false } r c) (vp : Value) (l : List Int) (T : Nat → Prop) (hT : ∀ x, T x → x < w.heap.size) (hl : SL vI w T vp l) (hll : l.length ≤ 1048576)  :
  Calls Tryz.prog 143 #[.agg (vS s vc vt vo (.slice A4 n4 k4) (.slice A5 n5 k5) (.slice A6 n6 k6)), vp, .int .u8 66] w (PsPost base vc vt vo (toS s (s.y + paramL l 0 1) (s.x)) w) := by
 have H0 := Lib.hid (show ∀ x, OwB vc vt vo x → x < w.heap.size from fun x hx => (h.lt x hx).2)
 obtain ⟨g1, k1, g2, k2, A3, k3, rfl, rfl, rfl, ⟨b1, l1, p1, q1⟩, ⟨b2, l2, p2, q2⟩, p3, q3⟩ := h.open_ hi
 have H := Lib.hid h
 have HI := Lib.hid hi
 obtain ⟨hlen, hr1, hr2, hc1, hc2, HR, HCO, hr3, hr4, hc3, hc4, y0, y1, x0, x1, t0, t1, u1⟩ := pIn hi
 clear h hi
 have HT := Lib.hid hT
 obtain ⟨AP, kP, rfl, pP, qP⟩ := hl.form
 have HLI := Lib.hid hl
 clear hT hl
 have hb0 := clip_bd (paramL l 0 1)
 have hb1 := clip_bd (paramL l 1 1)
 have e : toS s (s.y + paramL l 0 1) (s.x) = toS s (s.y + clipN (paramL l 0 1)) (s.x) := by
  unfold toS clipN
  congr 1 <;> omega
 rw [e]
 clear e
 have h2 := two_new w (.cells (vS s (.slice (some ⟨g1, 0, none⟩) s.cells.length k1) (.slice (some ⟨g2, 0, none⟩) s.tabs.length k2) (.slice A3 s.other.length k3) (.slice A4 n4 k4) (.slice A5 n5 k5) (.slice A6 n6 k6)) 31) (.cells zQ 31)
 have HLW := Lib.hid (HLI.out.keep (w' := (w.alloc (.cells (vS s (.slice (some ⟨g1, 0, none⟩) s.cells.length k1) (.slice (some ⟨g2, 0, none⟩) s.tabs.length k2) (.slice A3 s.other.length k3) (.slice A4 n4 k4) (.slice A5 n5 k5) (.slice A6 n6 k6)) 31)).alloc (.cells zQ 31)) (fun q hq => h2.1.cell (HT.out _ hq)))
 have H2 := Lib.hid h2
 obtain ⟨N0, hN0⟩ : ∃ N0, clipN (paramL l 0 1) = N0 := ⟨_, rfl⟩
 obtain ⟨N1, hN1⟩ : ∃ N1, clipN (paramL l 1 1) = N1 := ⟨_, rfl⟩
 rw [hN0] at hb0
 rw [hN1] at hb1
 rw [hN0]
 have HN0 := Lib.hid hN0
 have HN1 := Lib.hid hN1
 clear h2 hN0 hN1
 go_enter Tryz.func143, Tryz.ntmps143
 go_upto_region 2 with (((with_reducible refine (pnumber_0 _ l T _ HLW.out hll N0 HN0.out).mono ?_); rintro e w' ⟨rfl, rfl⟩))
 go_quiet (fail)
 have K0 : Hid (((w.alloc (.cells (vS s (.slice (some ⟨g1, 0, none⟩) s.cells.length k1) (.slice (some ⟨g2, 0, none⟩) s.tabs.length k2) (.slice A3 s.other.length k3) (.slice A4 n4 k4) (.slice A5 n5 k5) (.slice A6 n6 k6)) 31)).alloc (.cells zQ 31)).heap[w.heap.size]? = some (.cells (vS s (.slice (some ⟨g1, 0, none⟩) s.cells.length k1) (.slice (some ⟨g2, 0, none⟩) s.tabs.length k2) (.slice A3 s.other.length k3) (.slice A4 n4 k4) (.slice A5 n5 k5) (.slice A6 n6 k6)) 31)) := heap_a1 w _ _
 have K1 : Hid (((w.alloc (.cells (vS s (.slice (some ⟨g1, 0, none⟩) s.cells.length k1) (.slice (some ⟨g2, 0, none⟩) s.tabs.length k2) (.slice A3 s.other.length k3) (.slice A4 n4 k4) (.slice A5 n5 k5) (.slice A6 n6 k6)) 31)).alloc (.cells zQ 31)).heap[w.heap.size + 1]? = some (.cells zQ 31)) := heap_a2 w _ _
 have HP : Hid (PsL ((w.alloc (.cells (vS s (.slice (some ⟨g1, 0, none⟩) s.cells.length k1) (.slice (some ⟨g2, 0, none⟩) s.tabs.length k2) (.slice A3 s.other.length k3) (.slice A4 n4 k4) (.slice A5 n5 k5) (.slice A6 n6 k6)) 31)).alloc (.cells zQ 31)) base _ _ _ s) := (H.out.alloc _).alloc _
 have HB := Lib.hid H2.out.1
 have HZ := Lib.hid H2.out.2
 generalize hWD : World.drewN _ _ = WD
 have hh : WD.heap = ((w.alloc (.cells (vS s (.slice (some ⟨g1, 0, none⟩) s.cells.length k1) (.slice (some ⟨g2, 0, none⟩) s.tabs.length k2) (.slice A3 s.other.length k3) (.slice A4 n4 k4) (.slice A5 n5 k5) (.slice A6 n6 k6)) 31)).alloc (.cells zQ 31)).heap := by rw [← hWD]; rfl
 have hbd : Below w.heap.size w WD := by rw [← hWD]; exact ⟨HB.out.os, HB.out.tape, HB.out.output, HB.out.size, HB.out.block⟩
 have HS : Hid (PutAt w base _ _ _ r c _ s g1 k1 g2 k2 A3 k3 (.slice A4 n4 k4) (.slice A5 n5 k5) (.slice A6 n6 k6) WD) :=
  ⟨by rw [hh]; exact K0.out, by rw [hh]; exact K1.out, HP.out.keep (fun x _ => by rw [hh]), Fr.of hbd _, by rw [hh]; exact (by rw [HZ.out]; omega), fun x hx => .inl hx, HI.out, sl3⟩
 have HLD : Hid (SL vI WD T (.slice AP l.length kP) l) := HLW.out.keep (fun q _ => World.cell?_of_block (by rw [hh]))
 have HBD := Lib.hid hbd
 clear hWD hh hbd K0 K1 HP HB HZ H2 HLW
 go_upto_region 20 with (((with_reducible refine (pnumber_1 _ l T _ HLD.out hll N1 HN1.out).mono ?_); rintro e w' ⟨rfl, rfl⟩))
 refine wp_region_lit ?_
 refine wpl_loadS rfl (.tmp 3) rfl rfl HS.out.v rfl ?_
 go_wp2_with fail
 ((with_reducible refine (pinside_any s r c _ _ _ A4 A5 A6 n4 n5 n6 k4 k5 k6 base _ (by have := HS.out.n; omega) HS.out.p HS.out.i _ _).mono ?_); rintro e w4 ⟨rfl, b4⟩)
 have hn := HS.out.n
 have e0 := (b4.block _ (by omega)).trans HS.out.v
 have e1 := (b4.block _ hn).trans HS.out.z
 have bf : Below w.heap.size w w4 := HBD.out.trans (b4.mono (by omega))
 obtain ⟨c3, f3⟩ := cellR (v := .int .i64 s.y) e0 3 rfl
 obtain ⟨c4, f4⟩ := cellR (v := .int .i64 s.x) e0 4 rfl
 obtain ⟨c5, f5⟩ := cellR (v := .bool s.wrap) e0 5 rfl
 have E0 := Lib.hid e0
 have E1 := Lib.hid e1
 have BF := Lib.hid bf
 clear e0 e1 bf b4
 rename_i K hK
 refine hK _ _ ?_
 clear hK K
 go_upto_region 22 with fail
 refine wp_region_lit ?_
 refine wpl_loadS rfl (.tmp 3) rfl rfl ((heap_setCell_same _ _ 5 _ _ _ (heap_setCell_same _ _ 4 _ _ _ (heap_setCell_same _ _ 3 _ _ _ E0.out))).trans rfl) rfl ?_
 have z14 := (heap_setCell_other _ ⟨w.heap.size, 5, none⟩ (w.heap.size + 1) (.bool false) (by simp)).trans ((heap_setCell_other _ ⟨w.heap.size, 4, none⟩ (w.heap.size + 1) (.int .i64 (min (max (s.x) 0) (s.cols - 1))) (by simp)).trans ((heap_setCell_other _ ⟨w.heap.size, 3, none⟩ (w.heap.size + 1) (.int .i64 (min (max (s.y + N0) 0) (s.rows - 1))) (by simp)).trans E1.out))
 refine wpl_storeS rfl (.tmp 6) (.tmp 64) rfl rfl rfl z14 rfl rfl (all24 rfl rfl rfl rfl rfl rfl rfl rfl rfl rfl rfl rfl rfl rfl rfl rfl rfl rfl rfl rfl rfl rfl rfl rfl) ?_
 go_wp2
 refine psEnd0 (w.heap.size + 1) 6 Tryz.results143 ?_ ?_ z14 (by omega) (((BF.out.setCell (by simp) _).setCell (by simp) _).setCell (by simp) _) sl3 H.out ?_ ?_ ?_
 all_goals rfl
theorem pmove_67 (s : Sc) (r c : Nat) (vc vt vo : Value) (A4 A5 A6 : Option Addr) (n4 n5 n6 k4 k5 k6 : Nat) (base : Nat) (w : World) (hbase : base ≤ w.heap.size) (h : PsL w base vc vt vo s) (hi : ScIn { s with wrap := false } r c) (vp : Value) (l : List Int) (T : Nat → Prop) (hT : ∀ x, T x → x < w.heap.size) (hl : SL vI w T vp l) (hll : l.length ≤ 1048576)  :
  Calls Tryz.prog 143 #[.agg (vS s vc vt vo (.slice A4 n4 k4) (.slice A5 n5 k5) (.slice A6 n6 k6)), vp, .int .u8 67] w (PsPost base vc vt vo (toS s (s.y) (s.x + paramL l 0 1)) w) := by
 have H0 := Lib.hid (show ∀ x, OwB vc vt vo x → x < w.heap.size from fun x hx => (h.lt x hx).2)
 obtain ⟨g1, k1, g2, k2, A3, k3, rfl, rfl, rfl, ⟨b1, l1, p1, q1⟩, ⟨b2, l2, p2, q2⟩, p3, q3⟩ := h.open_ hi
 have H := Lib.hid h
 have HI := Lib.hid hi
 obtain ⟨hlen, hr1, hr2, hc1, hc2, HR, HCO, hr3, hr4, hc3, hc4, y0, y1, x0, x1, t0, t1, u1⟩ := pIn hi
 clear h hi
 have HT := Lib.hid hT
 obtain ⟨AP, kP, rfl, pP, qP⟩ := hl.form
 have HLI := Lib.hid hl
 clear hT hl
 have hb0 := clip_bd (paramL l 0 1)
 have hb1 := clip_bd (paramL l 1 1)
 have e : toS s (s.y) (s.x + paramL l 0 1) = toS s (s.y) (s.x + clipN (paramL l 0 1)) := by
  unfold toS clipN
  congr 1 <;> omega
 rw [e]
 clear e
 have h2 := two_new w (.cells (vS s (.slice (some ⟨g1, 0, none⟩) s.cells.length k1) (.slice (some ⟨g2, 0, none⟩) s.tabs.length k2) (.slice A3 s.other.length k3) (.slice A4 n4 k4) (.slice A5 n5 k5) (.slice A6 n6 k6)) 31) (.cells zQ 31)
 have HLW := Lib.hid (HLI.out.keep (w' := (w.alloc (.cells (vS s (.slice (some ⟨g1, 0, none⟩) s.cells.length k1) (.slice (some ⟨g2, 0, none⟩) s.tabs.length k2) (.slice A3 s.other.length k3) (.slice A4 n4 k4) (.slice A5 n5 k5) (.slice A6 n6 k6)) 31)).alloc (.cells zQ 31)) (fun q hq => h2.1.cell (HT.out _ hq)))
 have H2 := Lib.hid h2
 obtain ⟨N0, hN0⟩ : ∃ N0, clipN (paramL l 0 1) = N0 := ⟨_, rfl⟩
 obtain ⟨N1, hN1⟩ : ∃ N1, clipN (paramL l 1 1) = N1 := ⟨_, rfl⟩
 rw [hN0] at hb0
 rw [hN1] at hb1
 rw [hN0]
 have HN0 := Lib.hid hN0
 have HN1 := Lib.hid hN1
 clear h2 hN0 hN1
 go_enter Tryz.func143, Tryz.ntmps143
 go_upto_region 2 with (((with_reducible refine (pnumber_0 _ l T _ HLW.out hll N0 HN0.out).mono ?_); rintro e w' ⟨rfl, rfl⟩))
 go_quiet (fail)
 have K0 : Hid (((w.alloc (.cells (vS s (.slice (some ⟨g1, 0, none⟩) s.cells.length k1) (.slice (some ⟨g2, 0, none⟩) s.tabs.length k2) (.slice A3 s.other.length k3) (.slice A4 n4 k4) (.slice A5 n5 k5) (.slice A6 n6 k6)) 31)).alloc (.cells zQ 31)).heap[w.heap.size]? = some (.cells (vS s (.slice (some ⟨g1, 0, none⟩) s.cells.length k1) (.slice (some ⟨g2, 0, none⟩) s.tabs.length k2) (.slice A3 s.other.length k3) (.slice A4 n4 k4) (.slice A5 n5 k5) (.slice A6 n6 k6)) 31)) := heap_a1 w _ _
 have K1 : Hid (((w.alloc (.cells (vS s (.slice (some ⟨g1, 0, none⟩) s.cells.length k1) (.slice (some ⟨g2, 0, none⟩) s.tabs.length k2) (.slice A3 s.other.length k3) (.slice A4 n4 k4) (.slice A5 n5 k5) (.slice A6 n6 k6)) 31)).alloc (.cells zQ 31)).heap[w.heap.size + 1]? = some (.cells zQ 31)) := heap_a2 w _ _
 have HP : Hid (PsL ((w.alloc (.cells (vS s (.slice (some ⟨g1, 0, none⟩) s.cells.length k1) (.slice (some ⟨g2, 0, none⟩) s.tabs.length k2) (.slice A3 s.other.length k3) (.slice A4 n4 k4) (.slice A5 n5 k5) (.slice A6 n6 k6)) 31)).alloc (.cells zQ 31)) base _ _ _ s) := (H.out.alloc _).alloc _
 have HB := Lib.hid H2.out.1
 have HZ := Lib.hid H2.out.2
 generalize hWD : World.drewN _ _ = WD
 have hh : WD.heap = ((w.alloc (.cells (vS s (.slice (some ⟨g1, 0, none⟩) s.cells.length k1) (.slice (some ⟨g2, 0, none⟩) s.tabs.length k2) (.slice A3 s.other.length k3) (.slice A4 n4 k4) (.slice A5 n5 k5) (.slice A6 n6 k6)) 31)).alloc (.cells zQ 31)).heap := by rw [← hWD]; rfl
 have hbd : Below w.heap.size w WD := by rw [← hWD]; exact ⟨HB.out.os, HB.out.tape, HB.out.output, HB.out.size, HB.out.block⟩
 have HS : Hid (PutAt w base _ _ _ r c _ s g1 k1 g2 k2 A3 k3 (.slice A4 n4 k4) (.slice A5 n5 k5) (.slice A6 n6 k6) WD) :=
  ⟨by rw [hh]; exact K0.out, by rw [hh]; exact K1.out, HP.out.keep (fun x _ => by rw [hh]), Fr.of hbd _, by rw [hh]; exact (by rw [HZ.out]; omega), fun x hx => .inl hx, HI.out, sl3⟩
 have HLD : Hid (SL vI WD T (.slice AP l.length kP) l) := HLW.out.keep (fun q _ => World.cell?_of_block (by rw [hh]))
 have HBD := Lib.hid hbd
 clear hWD hh hbd K0 K1 HP HB HZ H2 HLW
 go_upto_region 20 with (((with_reducible refine (pnumber_1 _ l T _ HLD.out hll N1 HN1.out).mono ?_); rintro e w' ⟨rfl, rfl⟩))
 refine wp_region_lit ?_
 refine wpl_loadS rfl (.tmp 3) rfl rfl HS.out.v rfl ?_
 go_wp2_with fail
 ((with_reducible refine (pinside_any s r c _ _ _ A4 A5 A6 n4 n5 n6 k4 k5 k6 base _ (by have := HS.out.n; omega) HS.out.p HS.out.i _ _).mono ?_); rintro e w4 ⟨rfl, b4⟩)
 have hn := HS.out.n
 have e0 := (b4.block _ (by omega)).trans HS.out.v
 have e1 := (b4.block _ hn).trans HS.out.z
 have bf : Below w.heap.size w w4 := HBD.out.trans (b4.mono (by omega))
 obtain ⟨c3, f3⟩ := cellR (v := .int .i64 s.y) e0 3 rfl
 obtain ⟨c4, f4⟩ := cellR (v := .int .i64 s.x) e0 4 rfl
 obtain ⟨c5, f5⟩ := cellR (v := .bool s.wrap) e0 5 rfl
 have E0 := Lib.hid e0
 have E1 := Lib.hid e1
 have BF := Lib.hid bf
 clear e0 e1 bf b4
 rename_i K hK
 refine hK _ _ ?_
 clear hK K
 go_upto_region 22 with fail
 refine wp_region_lit ?_
 refine wpl_loadS rfl (.tmp 3) rfl rfl ((heap_setCell_same _ _ 5 _ _ _ (heap_setCell_same _ _ 4 _ _ _ (heap_setCell_same _ _ 3 _ _ _ E0.out))).trans rfl) rfl ?_
 have z14 := (heap_setCell_other _ ⟨w.heap.size, 5, none⟩ (w.heap.size + 1) (.bool false) (by simp)).trans ((heap_setCell_other _ ⟨w.heap.size, 4, none⟩ (w.heap.size + 1) (.int .i64 (min (max (s.x + N0) 0) (s.cols - 1))) (by simp)).trans ((heap_setCell_other _ ⟨w.heap.size, 3, none⟩ (w.heap.size + 1) (.int .i64 (min (max (s.y) 0) (s.rows - 1))) (by simp)).trans E1.out))
 refine wpl_storeS rfl (.tmp 6) (.tmp 64) rfl rfl rfl z14 rfl rfl (all24 rfl rfl rfl rfl rfl rfl rfl rfl rfl rfl rfl rfl rfl rfl rfl rfl rfl rfl rfl rfl rfl rfl rfl rfl) ?_
 go_wp2
 refine psEnd0 (w.heap.size + 1) 6 Tryz.results143 ?_ ?_ z14 (by omega) (((BF.out.setCell (by simp) _).setCell (by simp) _).setCell (by simp) _) sl3 H.out ?_ ?_ ?_
 all_goals rfl
theorem pmove_68 (s : Sc) (r c : Nat) (vc vt vo : Value) (A4 A5 A6 : Option Addr) (n4 n5 n6 k4 k5 k6 : Nat) (base : Nat) (w : World) (hbase : base ≤ w.heap.size) (h : PsL w base vc vt vo s) (hi : ScIn { s with wrap := false } r c) (vp : Value) (l : List Int) (T : Nat → Prop) (hT : ∀ x, T x → x < w.heap.size) (hl : SL vI w T vp l) (hll : l.length ≤ 1048576)  :
  Calls Tryz.prog 143 #[.agg (vS s vc vt vo (.slice A4 n4 k4) (.slice A5 n5 k5) (.slice A6 n6 k6)), vp, .int .u8 68] w (PsPost base vc vt vo (toS s (s.y) (s.x - paramL l 0 1)) w) := by
 have H0 := Lib.hid (show ∀ x, OwB vc vt vo x → x < w.heap.size from fun x hx => (h.lt x hx).2)
 obtain ⟨g1, k1, g2, k2, A3, k3, rfl, rfl, rfl, ⟨b1, l1, p1, q1⟩, ⟨b2, l2, p2, q2⟩, p3, q3⟩ := h.open_ hi
 have H := Lib.hid h
 have HI := Lib.hid hi
 obtain ⟨hlen, hr1, hr2, hc1, hc2, HR, HCO, hr3, hr4, hc3, hc4, y0, y1, x0, x1, t0, t1, u1⟩ := pIn hi
 clear h hi
 have HT := Lib.hid hT
 obtain ⟨AP, kP, rfl, pP, qP⟩ := hl.form
 have HLI := Lib.hid hl
 clear hT hl
 have hb0 := clip_bd (paramL l 0 1)
 have hb1 := clip_bd (paramL l 1 1)
 have e : toS s (s.y) (s.x - paramL l 0 1) = toS s (s.y) (s.x - clipN (paramL l 0 1)) := by
  unfold toS clipN
  congr 1 <;> omega
 rw [e]
 clear e
 have h2 := two_new w (.cells (vS s (.slice (some ⟨g1, 0, none⟩) s.cells.length k1) (.slice (some ⟨g2, 0, none⟩) s.tabs.length k2) (.slice A3 s.other.length k3) (.slice A4 n4 k4) (.slice A5 n5 k5) (.slice A6 n6 k6)) 31) (.cells zQ 31)
 have HLW := Lib.hid (HLI.out.keep (w' := (w.alloc (.cells (vS s (.slice (some ⟨g1, 0, none⟩) s.cells.length k1) (.slice (some ⟨g2, 0, none⟩) s.tabs.length k2) (.slice A3 s.other.length k3) (.slice A4 n4 k4) (.slice A5 n5 k5) (.slice A6 n6 k6)) 31)).alloc (.cells zQ 31)) (fun q hq => h2.1.cell (HT.out _ hq)))
 have H2 := Lib.hid h2
 obtain ⟨N0, hN0⟩ : ∃ N0, clipN (paramL l 0 1) = N0 := ⟨_, rfl⟩
 obtain ⟨N1, hN1⟩ : ∃ N1, clipN (paramL l 1 1) = N1 := ⟨_, rfl⟩
 rw [hN0] at hb0
 rw [hN1] at hb1
 rw [hN0]
 have HN0 := Lib.hid hN0
 have HN1 := Lib.hid hN1
 clear h2 hN0 hN1
 go_enter Tryz.func143, Tryz.ntmps143
 go_upto_region 2 with (((with_reducible refine (pnumber_0 _ l T _ HLW.out hll N0 HN0.out).mono ?_); rintro e w' ⟨rfl, rfl⟩))
 go_quiet (fail)
 have K0 : Hid (((w.alloc (.cells (vS s (.slice (some ⟨g1, 0, none⟩) s.cells.length k1) (.slice (some ⟨g2, 0, none⟩) s.tabs.length k2) (.slice A3 s.other.length k3) (.slice A4 n4 k4) (.slice A5 n5 k5) (.slice A6 n6 k6)) 31)).alloc (.cells zQ 31)).heap[w.heap.size]? = some (.cells (vS s (.slice (some ⟨g1, 0, none⟩) s.cells.length k1) (.slice (some ⟨g2, 0, none⟩) s.tabs.length k2) (.slice A3 s.other.length k3) (.slice A4 n4 k4) (.slice A5 n5 k5) (.slice A6 n6 k6)) 31)) := heap_a1 w _ _
 have K1 : Hid (((w.alloc (.cells (vS s (.slice (some ⟨g1, 0, none⟩) s.cells.length k1) (.slice (some ⟨g2, 0, none⟩) s.tabs.length k2) (.slice A3 s.other.length k3) (.slice A4 n4 k4) (.slice A5 n5 k5) (.slice A6 n6 k6)) 31)).alloc (.cells zQ 31)).heap[w.heap.size + 1]? = some (.cells zQ 31)) := heap_a2 w _ _
 have HP : Hid (PsL ((w.alloc (.cells (vS s (.slice (some ⟨g1, 0, none⟩) s.cells.length k1) (.slice (some ⟨g2, 0, none⟩) s.tabs.length k2) (.slice A3 s.other.length k3) (.slice A4 n4 k4) (.slice A5 n5 k5) (.slice A6 n6 k6)) 31)).alloc (.cells zQ 31)) base _ _ _ s) := (H.out.alloc _).alloc _
 have HB := Lib.hid H2.out.1
 have HZ := Lib.hid H2.out.2
 generalize hWD : World.drewN _ _ = WD
 have hh : WD.heap = ((w.alloc (.cells (vS s (.slice (some ⟨g1, 0, none⟩) s.cells.length k1) (.slice (some ⟨g2, 0, none⟩) s.tabs.length k2) (.slice A3 s.other.length k3) (.slice A4 n4 k4) (.slice A5 n5 k5) (.slice A6 n6 k6)) 31)).alloc (.cells zQ 31)).heap := by rw [← hWD]; rfl
 have hbd : Below w.heap.size w WD := by rw [← hWD]; exact ⟨HB.out.os, HB.out.tape, HB.out.output, HB.out.size, HB.out.block⟩
 have HS : Hid (PutAt w base _ _ _ r c _ s g1 k1 g2 k2 A3 k3 (.slice A4 n4 k4) (.slice A5 n5 k5) (.slice A6 n6 k6) WD) :=
  ⟨by rw [hh]; exact K0.out, by rw [hh]; exact K1.out, HP.out.keep (fun x _ => by rw [hh]), Fr.of hbd _, by rw [hh]; exact (by rw [HZ.out]; omega), fun x hx => .inl hx, HI.out, sl3⟩
 have HLD : Hid (SL vI WD T (.slice AP l.length kP) l) := HLW.out.keep (fun q _ => World.cell?_of_block (by rw [hh]))
 have HBD := Lib.hid hbd
 clear hWD hh hbd K0 K1 HP HB HZ H2 HLW
 go_upto_region 20 with (((with_reducible refine (pnumber_1 _ l T _ HLD.out hll N1 HN1.out).mono ?_); rintro e w' ⟨rfl, rfl⟩))
 refine wp_region_lit ?_
 refine wpl_loadS rfl (.tmp 3) rfl rfl HS.out.v rfl ?_
 go_wp2_with fail
 ((with_reducible refine (pinside_any s r c _ _ _ A4 A5 A6 n4 n5 n6 k4 k5 k6 base _ (by have := HS.out.n; omega) HS.out.p HS.out.i _ _).mono ?_); rintro e w4 ⟨rfl, b4⟩)
 have hn := HS.out.n
 have e0 := (b4.block _ (by omega)).trans HS.out.v
 have e1 := (b4.block _ hn).trans HS.out.z
 have bf : Below w.heap.size w w4 := HBD.out.trans (b4.mono (by omega))
 obtain ⟨c3, f3⟩ := cellR (v := .int .i64 s.y) e0 3 rfl
 obtain ⟨c4, f4⟩ := cellR (v := .int .i64 s.x) e0 4 rfl
 obtain ⟨c5, f5⟩ := cellR (v := .bool s.wrap) e0 5 rfl
 have E0 := Lib.hid e0
 have E1 := Lib.hid e1
 have BF := Lib.hid bf
 clear e0 e1 bf b4
 rename_i K hK
 refine hK _ _ ?_
 clear hK K
 go_upto_region 22 with fail
 refine wp_region_lit ?_
 refine wpl_loadS rfl (.tmp 3) rfl rfl ((heap_setCell_same _ _ 5 _ _ _ (heap_setCell_same _ _ 4 _ _ _ (heap_setCell_same _ _ 3 _ _ _ E0.out))).trans rfl) rfl ?_
 have z14 := (heap_setCell_other _ ⟨w.heap.size, 5, none⟩ (w.heap.size + 1) (.bool false) (by simp)).trans ((heap_setCell_other _ ⟨w.heap.size, 4, none⟩ (w.heap.size + 1) (.int .i64 (min (max (s.x - N0) 0) (s.cols - 1))) (by simp)).trans ((heap_setCell_other _ ⟨w.heap.size, 3, none⟩ (w.heap.size + 1) (.int .i64 (min (max (s.y) 0) (s.rows - 1))) (by simp)).trans E1.out))
 refine wpl_storeS rfl (.tmp 6) (.tmp 64) rfl rfl rfl z14 rfl rfl (all24 rfl rfl rfl rfl rfl rfl rfl rfl rfl rfl rfl rfl rfl rfl rfl rfl rfl rfl rfl rfl rfl rfl rfl rfl) ?_
 go_wp2
 refine psEnd0 (w.heap.size + 1) 6 Tryz.results143 ?_ ?_ z14 (by omega) (((BF.out.setCell (by simp) _).setCell (by simp) _).setCell (by simp) _) sl3 H.out ?_ ?_ ?_
 all_goals rfl
theorem pmove_71 (s : Sc) (r c : Nat) (vc vt vo : Value) (A4 A5 A6 : Option Addr) (n4 n5 n6 k4 k5 k6 : Nat) (base : Nat) (w : World) (hbase : base ≤ w.heap.size) (h : PsL w base vc vt vo s) (hi : ScIn { s with wrap := false } r c) (vp : Value) (l : List Int) (T : Nat → Prop) (hT : ∀ x, T x → x < w.heap.size) (hl : SL vI w T vp l) (hll : l.length ≤ 1048576)  :
  Calls Tryz.prog 143 #[.agg (vS s vc vt vo (.slice A4 n4 k4) (.slice A5 n5 k5) (.slice A6 n6 k6)), vp, .int .u8 71] w (PsPost base vc vt vo (toS s (s.y) (paramL l 0 1 - 1)) w) := by
 have H0 := Lib.hid (show ∀ x, OwB vc vt vo x → x < w.heap.size from fun x hx => (h.lt x hx).2)
 obtain ⟨g1, k1, g2, k2, A3, k3, rfl, rfl, rfl, ⟨b1, l1, p1, q1⟩, ⟨b2, l2, p2, q2⟩, p3, q3⟩ := h.open_ hi
 have H := Lib.hid h
 have HI := Lib.hid hi
 obtain ⟨hlen, hr1, hr2, hc1, hc2, HR, HCO, hr3, hr4, hc3, hc4, y0, y1, x0, x1, t0, t1, u1⟩ := pIn hi
 clear h hi
 have HT := Lib.hid hT
 obtain ⟨AP, kP, rfl, pP, qP⟩ := hl.form
 have HLI := Lib.hid hl
 clear hT hl
 have hb0 := clip_bd (paramL l 0 1)
 have hb1 := clip_bd (paramL l 1 1)
 have e : toS s (s.y) (paramL l 0 1 - 1) = toS s (s.y) (clipN (paramL l 0 1) - 1) := by
  unfold toS clipN
  congr 1 <;> omega
 rw [e]
 clear e
 have h2 := two_new w (.cells (vS s (.slice (some ⟨g1, 0, none⟩) s.cells.length k1) (.slice (some ⟨g2, 0, none⟩) s.tabs.length k2) (.slice A3 s.other.length k3) (.slice A4 n4 k4) (.slice A5 n5 k5) (.slice A6 n6 k6)) 31) (.cells zQ 31)
 have HLW := Lib.hid (HLI.out.keep (w' := (w.alloc (.cells (vS s (.slice (some ⟨g1, 0, none⟩) s.cells.length k1) (.slice (some ⟨g2, 0, none⟩) s.tabs.length k2) (.slice A3 s.other.length k3) (.slice A4 n4 k4) (.slice A5 n5 k5) (.slice A6 n6 k6)) 31)).alloc (.cells zQ 31)) (fun q hq => h2.1.cell (HT.out _ hq)))
 have H2 := Lib.hid h2
 obtain ⟨N0, hN0⟩ : ∃ N0, clipN (paramL l 0 1) = N0 := ⟨_, rfl⟩
 obtain ⟨N1, hN1⟩ : ∃ N1, clipN (paramL l 1 1) = N1 := ⟨_, rfl⟩
 rw [hN0] at hb0
 rw [hN1] at hb1
 rw [hN0]
 have HN0 := Lib.hid hN0
 have HN1 := Lib.hid hN1
 clear h2 hN0 hN1
 go_enter Tryz.func143, Tryz.ntmps143
 go_upto_region 2 with (((with_reducible refine (pnumber_0 _ l T _ HLW.out hll N0 HN0.out).mono ?_); rintro e w' ⟨rfl, rfl⟩))
 go_quiet (fail)
 have K0 : Hid (((w.alloc (.cells (vS s (.slice (some ⟨g1, 0, none⟩) s.cells.length k1) (.slice (some ⟨g2, 0, none⟩) s.tabs.length k2) (.slice A3 s.other.length k3) (.slice A4 n4 k4) (.slice A5 n5 k5) (.slice A6 n6 k6)) 31)).alloc (.cells zQ 31)).heap[w.heap.size]? = some (.cells (vS s (.slice (some ⟨g1, 0, none⟩) s.cells.length k1) (.slice (some ⟨g2, 0, none⟩) s.tabs.length k2) (.slice A3 s.other.length k3) (.slice A4 n4 k4) (.slice A5 n5 k5) (.slice A6 n6 k6)) 31)) := heap_a1 w _ _
 have K1 : Hid (((w.alloc (.cells (vS s (.slice (some ⟨g1, 0, none⟩) s.cells.length k1) (.slice (some ⟨g2, 0, none⟩) s.tabs.length k2) (.slice A3 s.other.length k3) (.slice A4 n4 k4) (.slice A5 n5 k5) (.slice A6 n6 k6)) 31)).alloc (.cells zQ 31)).heap[w.heap.size + 1]? = some (.cells zQ 31)) := heap_a2 w _ _
 have HP : Hid (PsL ((w.alloc (.cells (vS s (.slice (some ⟨g1, 0, none⟩) s.cells.length k1) (.slice (some ⟨g2, 0, none⟩) s.tabs.length k2) (.slice A3 s.other.length k3) (.slice A4 n4 k4) (.slice A5 n5 k5) (.slice A6 n6 k6)) 31)).alloc (.cells zQ 31)) base _ _ _ s) := (H.out.alloc _).alloc _
 have HB := Lib.hid H2.out.1
 have HZ := Lib.hid H2.out.2
 generalize hWD : World.drewN _ _ = WD
 have hh : WD.heap = ((w.alloc (.cells (vS s (.slice (some ⟨g1, 0, none⟩) s.cells.length k1) (.slice (some ⟨g2, 0, none⟩) s.tabs.length k2) (.slice A3 s.other.length k3) (.slice A4 n4 k4) (.slice A5 n5 k5) (.slice A6 n6 k6)) 31)).alloc (.cells zQ 31)).heap := by rw [← hWD]; rfl
 have hbd : Below w.heap.size w WD := by rw [← hWD]; exact ⟨HB.out.os, HB.out.tape, HB.out.output, HB.out.size, HB.out.block⟩
 have HS : Hid (PutAt w base _ _ _ r c _ s g1 k1 g2 k2 A3 k3 (.slice A4 n4 k4) (.slice A5 n5 k5) (.slice A6 n6 k6) WD) :=
  ⟨by rw [hh]; exact K0.out, by rw [hh]; exact K1.out, HP.out.keep (fun x _ => by rw [hh]), Fr.of hbd _, by rw [hh]; exact (by rw [HZ.out]; omega), fun x hx => .inl hx, HI.out, sl3⟩
 have HLD : Hid (SL vI WD T (.slice AP l.length kP) l) := HLW.out.keep (fun q _ => World.cell?_of_block (by rw [hh]))
 have HBD := Lib.hid hbd
 clear hWD hh hbd K0 K1 HP HB HZ H2 HLW
 go_upto_region 20 with (((with_reducible refine (pnumber_1 _ l T _ HLD.out hll N1 HN1.out).mono ?_); rintro e w' ⟨rfl, rfl⟩))
 refine wp_region_lit ?_
 refine wpl_loadS rfl (.tmp 3) rfl rfl HS.out.v rfl ?_
 go_wp2_with fail
 ((with_reducible refine (pinside_any s r c _ _ _ A4 A5 A6 n4 n5 n6 k4 k5 k6 base _ (by have := HS.out.n; omega) HS.out.p HS.out.i _ _).mono ?_); rintro e w4 ⟨rfl, b4⟩)
 have hn := HS.out.n
 have e0 := (b4.block _ (by omega)).trans HS.out.v
 have e1 := (b4.block _ hn).trans HS.out.z
 have bf : Below w.heap.size w w4 := HBD.out.trans (b4.mono (by omega))
 obtain ⟨c3, f3⟩ := cellR (v := .int .i64 s.y) e0 3 rfl
 obtain ⟨c4, f4⟩ := cellR (v := .int .i64 s.x) e0 4 rfl
 obtain ⟨c5, f5⟩ := cellR (v := .bool s.wrap) e0 5 rfl
 have E0 := Lib.hid e0
 have E1 := Lib.hid e1
 have BF := Lib.hid bf
 clear e0 e1 bf b4
 rename_i K hK
 refine hK _ _ ?_
 clear hK K
 go_upto_region 22 with fail
 refine wp_region_lit ?_
 refine wpl_loadS rfl (.tmp 3) rfl rfl ((heap_setCell_same _ _ 5 _ _ _ (heap_setCell_same _ _ 4 _ _ _ (heap_setCell_same _ _ 3 _ _ _ E0.out))).trans rfl) rfl ?_
 have z14 := (heap_setCell_other _ ⟨w.heap.size, 5, none⟩ (w.heap.size + 1) (.bool false) (by simp)).trans ((heap_setCell_other _ ⟨w.heap.size, 4, none⟩ (w.heap.size + 1) (.int .i64 (min (max (N0 - 1) 0) (s.cols - 1))) (by simp)).trans ((heap_setCell_other _ ⟨w.heap.size, 3, none⟩ (w.heap.size + 1) (.int .i64 (min (max (s.y) 0) (s.rows - 1))) (by simp)).trans E1.out))
 refine wpl_storeS rfl (.tmp 6) (.tmp 64) rfl rfl rfl z14 rfl rfl (all24 rfl rfl rfl rfl rfl rfl rfl rfl rfl rfl rfl rfl rfl rfl rfl rfl rfl rfl rfl rfl rfl rfl rfl rfl) ?_
 go_wp2
 refine psEnd0 (w.heap.size + 1) 6 Tryz.results143 ?_ ?_ z14 (by omega) (((BF.out.setCell (by simp) _).setCell (by simp) _).setCell (by simp) _) sl3 H.out ?_ ?_ ?_
 all_goals rfl
theorem pmove_96 (s : Sc) (r c : Nat) (vc vt vo : Value) (A4 A5 A6 : Option Addr) (n4 n5 n6 k4 k5 k6 : Nat) (base : Nat) (w : World) (hbase : base ≤ w.heap.size) (h : PsL w base vc vt vo s) (hi : ScIn { s with wrap := false } r c) (vp : Value) (l : List Int) (T : Nat → Prop) (hT : ∀ x, T x → x < w.heap.size) (hl : SL vI w T vp l) (hll : l.length ≤ 1048576)  :
  Calls Tryz.prog 143 #[.agg (vS s vc vt vo (.slice A4 n4 k4) (.slice A5 n5 k5) (.slice A6 n6 k6)), vp, .int .u8 96] w (PsPost base vc vt vo (toS s (s.y) (paramL l 0 1 - 1)) w) := by
 have H0 := Lib.hid (show ∀ x, OwB vc vt vo x → x < w.heap.size from fun x hx => (h.lt x hx).2)
 obtain ⟨g1, k1, g2, k2, A3, k3, rfl, rfl, rfl, ⟨b1, l1, p1, q1⟩, ⟨b2, l2, p2, q2⟩, p3, q3⟩ := h.open_ hi
 have H := Lib.hid h
 have HI := Lib.hid hi
 obtain ⟨hlen, hr1, hr2, hc1, hc2, HR, HCO, hr3, hr4, hc3, hc4, y0, y1, x0, x1, t0, t1, u1⟩ := pIn hi
 clear h hi
 have HT := Lib.hid hT
 obtain ⟨AP, kP, rfl, pP, qP⟩ := hl.form
 have HLI := Lib.hid hl
 clear hT hl
 have hb0 := clip_bd (paramL l 0 1)
 have hb1 := clip_bd (paramL l 1 1)
 have e : toS s (s.y) (paramL l 0 1 - 1) = toS s (s.y) (clipN (paramL l 0 1) - 1) := by
  unfold toS clipN
  congr 1 <;> omega
 rw [e]
 clear e
 have h2 := two_new w (.cells (vS s (.slice (some ⟨g1, 0, none⟩) s.cells.length k1) (.slice (some ⟨g2, 0, none⟩) s.tabs.length k2) (.slice A3 s.other.length k3) (.slice A4 n4 k4) (.slice A5 n5 k5) (.slice A6 n6 k6)) 31) (.cells zQ 31)
 have HLW := Lib.hid (HLI.out.keep (w' := (w.alloc (.cells (vS s (.slice (some ⟨g1, 0, none⟩) s.cells.length k1) (.slice (some ⟨g2, 0, none⟩) s.tabs.length k2) (.slice A3 s.other.length k3) (.slice A4 n4 k4) (.slice A5 n5 k5) (.slice A6 n6 k6)) 31)).alloc (.cells zQ 31)) (fun q hq => h2.1.cell (HT.out _ hq)))
 have H2 := Lib.hid h2
 obtain ⟨N0, hN0⟩ : ∃ N0, clipN (paramL l 0 1) = N0 := ⟨_, rfl⟩
 obtain ⟨N1, hN1⟩ : ∃ N1, clipN (paramL l 1 1) = N1 := ⟨_, rfl⟩
 rw [hN0] at hb0
 rw [hN1] at hb1
 rw [hN0]
 have HN0 := Lib.hid hN0
 have HN1 := Lib.hid hN1
 clear h2 hN0 hN1
 go_enter Tryz.func143, Tryz.ntmps143
 go_upto_region 2 with (((with_reducible refine (pnumber_0 _ l T _ HLW.out hll N0 HN0.out).mono ?_); rintro e w' ⟨rfl, rfl⟩))
 go_quiet (fail)
 have K0 : Hid (((w.alloc (.cells (vS s (.slice (some ⟨g1, 0, none⟩) s.cells.length k1) (.slice (some ⟨g2, 0, none⟩) s.tabs.length k2) (.slice A3 s.other.length k3) (.slice A4 n4 k4) (.slice A5 n5 k5) (.slice A6 n6 k6)) 31)).alloc (.cells zQ 31)).heap[w.heap.size]? = some (.cells (vS s (.slice (some ⟨g1, 0, none⟩) s.cells.length k1) (.slice (some ⟨g2, 0, none⟩) s.tabs.length k2) (.slice A3 s.other.length k3) (.slice A4 n4 k4) (.slice A5 n5 k5) (.slice A6 n6 k6)) 31)) := heap_a1 w _ _
 have K1 : Hid (((w.alloc (.cells (vS s (.slice (some ⟨g1, 0, none⟩) s.cells.length k1) (.slice (some ⟨g2, 0, none⟩) s.tabs.length k2) (.slice A3 s.other.length k3) (.slice A4 n4 k4) (.slice A5 n5 k5) (.slice A6 n6 k6)) 31)).alloc (.cells zQ 31)).heap[w.heap.size + 1]? = some (.cells zQ 31)) := heap_a2 w _ _
 have HP : Hid (PsL ((w.alloc (.cells (vS s (.slice (some ⟨g1, 0, none⟩) s.cells.length k1) (.slice (some ⟨g2, 0, none⟩) s.tabs.length k2) (.slice A3 s.other.length k3) (.slice A4 n4 k4) (.slice A5 n5 k5) (.slice A6 n6 k6)) 31)).alloc (.cells zQ 31)) base _ _ _ s) := (H.out.alloc _).alloc _
 have HB := Lib.hid H2.out.1
 have HZ := Lib.hid H2.out.2
 generalize hWD : World.drewN _ _ = WD
 have hh : WD.heap = ((w.alloc (.cells (vS s (.slice (some ⟨g1, 0, none⟩) s.cells.length k1) (.slice (some ⟨g2, 0, none⟩) s.tabs.length k2) (.slice A3 s.other.length k3) (.slice A4 n4 k4) (.slice A5 n5 k5) (.slice A6 n6 k6)) 31)).alloc (.cells zQ 31)).heap := by rw [← hWD]; rfl
 have hbd : Below w.heap.size w WD := by rw [← hWD]; exact ⟨HB.out.os, HB.out.tape, HB.out.output, HB.out.size, HB.out.block⟩
 have HS : Hid (PutAt w base _ _ _ r c _ s g1 k1 g2 k2 A3 k3 (.slice A4 n4 k4) (.slice A5 n5 k5) (.slice A6 n6 k6) WD) :=
  ⟨by rw [hh]; exact K0.out, by rw [hh]; exact K1.out, HP.out.keep (fun x _ => by rw [hh]), Fr.of hbd _, by rw [hh]; exact (by rw [HZ.out]; omega), fun x hx => .inl hx, HI.out, sl3⟩
 have HLD : Hid (SL vI WD T (.slice AP l.length kP) l) := HLW.out.keep (fun q _ => World.cell?_of_block (by rw [hh]))
 have HBD := Lib.hid hbd
 clear hWD hh hbd K0 K1 HP HB HZ H2 HLW
 go_upto_region 20 with (((with_reducible refine (pnumber_1 _ l T _ HLD.out hll N1 HN1.out).mono ?_); rintro e w' ⟨rfl, rfl⟩))
 refine wp_region_lit ?_
 refine wpl_loadS rfl (.tmp 3) rfl rfl HS.out.v rfl ?_
 go_wp2_with fail
 ((with_reducible refine (pinside_any s r c _ _ _ A4 A5 A6 n4 n5 n6 k4 k5 k6 base _ (by have := HS.out.n; omega) HS.out.p HS.out.i _ _).mono ?_); rintro e w4 ⟨rfl, b4⟩)
 have hn := HS.out.n
 have e0 := (b4.block _ (by omega)).trans HS.out.v
 have e1 := (b4.block _ hn).trans HS.out.z
 have bf : Below w.heap.size w w4 := HBD.out.trans (b4.mono (by omega))
 obtain ⟨c3, f3⟩ := cellR (v := .int .i64 s.y) e0 3 rfl
 obtain ⟨c4, f4⟩ := cellR (v := .int .i64 s.x) e0 4 rfl
 obtain ⟨c5, f5⟩ := cellR (v := .bool s.wrap) e0 5 rfl
 have E0 := Lib.hid e0
 have E1 := Lib.hid e1
 have BF := Lib.hid bf
 clear e0 e1 bf b4
 rename_i K hK
 refine hK _ _ ?_
 clear hK K
 go_upto_region 22 with fail
 refine wp_region_lit ?_
 refine wpl_loadS rfl (.tmp 3) rfl rfl ((heap_setCell_same _ _ 5 _ _ _ (heap_setCell_same _ _ 4 _ _ _ (heap_setCell_same _ _ 3 _ _ _ E0.out))).trans rfl) rfl ?_
 have z14 := (heap_setCell_other _ ⟨w.heap.size, 5, none⟩ (w.heap.size + 1) (.bool false) (by simp)).trans ((heap_setCell_other _ ⟨w.heap.size, 4, none⟩ (w.heap.size + 1) (.int .i64 (min (max (N0 - 1) 0) (s.cols - 1))) (by simp)).trans ((heap_setCell_other _ ⟨w.heap.size, 3, none⟩ (w.heap.size + 1) (.int .i64 (min (max (s.y) 0) (s.rows - 1))) (by simp)).trans E1.out))
 refine wpl_storeS rfl (.tmp 6) (.tmp 64) rfl rfl rfl z14 rfl rfl (all24 rfl rfl rfl rfl rfl rfl rfl rfl rfl rfl rfl rfl rfl rfl rfl rfl rfl rfl rfl rfl rfl rfl rfl rfl) ?_
 go_wp2
 refine psEnd0 (w.heap.size + 1) 6 Tryz.results143 ?_ ?_ z14 (by omega) (((BF.out.setCell (by simp) _).setCell (by simp) _).setCell (by simp) _) sl3 H.out ?_ ?_ ?_
 all_goals rfl
theorem pmove_100 (s : Sc) (r c : Nat) (vc vt vo : Value) (A4 A5 A6 : Option Addr) (n4 n5 n6 k4 k5 k6 : Nat) (base : Nat) (w : World) (hbase : base ≤ w.heap.size) (h : PsL w base vc vt vo s) (hi : ScIn { s with wrap := false } r c) (vp : Value) (l : List Int) (T : Nat → Prop) (hT : ∀ x, T x → x < w.heap.size) (hl : SL vI w T vp l) (hll : l.length ≤ 1048576)  :
  Calls Tryz.prog 143 #[.agg (vS s vc vt vo (.slice A4 n4 k4) (.slice A5 n5 k5) (.slice A6 n6 k6)), vp, .int .u8 100] w (PsPost base vc vt vo (toS s (paramL l 0 1 - 1) (s.x)) w) := by
 have H0 := Lib.hid (show ∀ x, OwB vc vt vo x → x < w.heap.size from fun x hx => (h.lt x hx).2)
 obtain ⟨g1, k1, g2, k2, A3, k3, rfl, rfl, rfl, ⟨b1, l1, p1, q1⟩, ⟨b2, l2, p2, q2⟩, p3, q3⟩ := h.open_ hi
 have H := Lib.hid h
 have HI := Lib.hid hi
 obtain ⟨hlen, hr1, hr2, hc1, hc2, HR, HCO, hr3, hr4, hc3, hc4, y0, y1, x0, x1, t0, t1, u1⟩ := pIn hi
 clear h hi
 have HT := Lib.hid hT
 obtain ⟨AP, kP, rfl, pP, qP⟩ := hl.form
 have HLI := Lib.hid hl
 clear hT hl
 have hb0 := clip_bd (paramL l 0 1)
 have hb1 := clip_bd (paramL l 1 1)
 have e : toS s (paramL l 0 1 - 1) (s.x) = toS s (clipN (paramL l 0 1) - 1) (s.x) := by
  unfold toS clipN
  congr 1 <;> omega
 rw [e]
 clear e
 have h2 := two_new w (.cells (vS s (.slice (some ⟨g1, 0, none⟩) s.cells.length k1) (.slice (some ⟨g2, 0, none⟩) s.tabs.length k2) (.slice A3 s.other.length k3) (.slice A4 n4 k4) (.slice A5 n5 k5) (.slice A6 n6 k6)) 31) (.cells zQ 31)
 have HLW := Lib.hid (HLI.out.keep (w' := (w.alloc (.cells (vS s (.slice (some ⟨g1, 0, none⟩) s.cells.length k1) (.slice (some ⟨g2, 0, none⟩) s.tabs.length k2) (.slice A3 s.other.length k3) (.slice A4 n4 k4) (.slice A5 n5 k5) (.slice A6 n6 k6)) 31)).alloc (.cells zQ 31)) (fun q hq => h2.1.cell (HT.out _ hq)))
 have H2 := Lib.hid h2
 obtain ⟨N0, hN0⟩ : ∃ N0, clipN (paramL l 0 1) = N0 := ⟨_, rfl⟩
 obtain ⟨N1, hN1⟩ : ∃ N1, clipN (paramL l 1 1) = N1 := ⟨_, rfl⟩
 rw [hN0] at hb0
 rw [hN1] at hb1
 rw [hN0]
 have HN0 := Lib.hid hN0
 have HN1 := Lib.hid hN1
 clear h2 hN0 hN1
 go_enter Tryz.func143, Tryz.ntmps143
 go_upto_region 2 with (((with_reducible refine (pnumber_0 _ l T _ HLW.out hll N0 HN0.out).mono ?_); rintro e w' ⟨rfl, rfl⟩))
 go_quiet (fail)
 have K0 : Hid (((w.alloc (.cells (vS s (.slice (some ⟨g1, 0, none⟩) s.cells.length k1) (.slice (some ⟨g2, 0, none⟩) s.tabs.length k2) (.slice A3 s.other.length k3) (.slice A4 n4 k4) (.slice A5 n5 k5) (.slice A6 n6 k6)) 31)).alloc (.cells zQ 31)).heap[w.heap.size]? = some (.cells (vS s (.slice (some ⟨g1, 0, none⟩) s.cells.length k1) (.slice (some ⟨g2, 0, none⟩) s.tabs.length k2) (.slice A3 s.other.length k3) (.slice A4 n4 k4) (.slice A5 n5 k5) (.slice A6 n6 k6)) 31)) := heap_a1 w _ _
 have K1 : Hid (((w.alloc (.cells (vS s (.slice (some ⟨g1, 0, none⟩) s.cells.length k1) (.slice (some ⟨g2, 0, none⟩) s.tabs.length k2) (.slice A3 s.other.length k3) (.slice A4 n4 k4) (.slice A5 n5 k5) (.slice A6 n6 k6)) 31)).alloc (.cells zQ 31)).heap[w.heap.size + 1]? = some (.cells zQ 31)) := heap_a2 w _ _
 have HP : Hid (PsL ((w.alloc (.cells (vS s (.slice (some ⟨g1, 0, none⟩) s.cells.length k1) (.slice (some ⟨g2, 0, none⟩) s.tabs.length k2) (.slice A3 s.other.length k3) (.slice A4 n4 k4) (.slice A5 n5 k5) (.slice A6 n6 k6)) 31)).alloc (.cells zQ 31)) base _ _ _ s) := (H.out.alloc _).alloc _
 have HB := Lib.hid H2.out.1
 have HZ := Lib.hid H2.out.2
 generalize hWD : World.drewN _ _ = WD
 have hh : WD.heap = ((w.alloc (.cells (vS s (.slice (some ⟨g1, 0, none⟩) s.cells.length k1) (.slice (some ⟨g2, 0, none⟩) s.tabs.length k2) (.slice A3 s.other.length k3) (.slice A4 n4 k4) (.slice A5 n5 k5) (.slice A6 n6 k6)) 31)).alloc (.cells zQ 31)).heap := by rw [← hWD]; rfl
 have hbd : Below w.heap.size w WD := by rw [← hWD]; exact ⟨HB.out.os, HB.out.tape, HB.out.output, HB.out.size, HB.out.block⟩
 have HS : Hid (PutAt w base _ _ _ r c _ s g1 k1 g2 k2 A3 k3 (.slice A4 n4 k4) (.slice A5 n5 k5) (.slice A6 n6 k6) WD) :=
  ⟨by rw [hh]; exact K0.out, by rw [hh]; exact K1.out, HP.out.keep (fun x _ => by rw [hh]), Fr.of hbd _, by rw [hh]; exact (by rw [HZ.out]; omega), fun x hx => .inl hx, HI.out, sl3⟩
 have HLD : Hid (SL vI WD T (.slice AP l.length kP) l) := HLW.out.keep (fun q _ => World.cell?_of_block (by rw [hh]))
 have HBD := Lib.hid hbd
 clear hWD hh hbd K0 K1 HP HB HZ H2 HLW
 go_upto_region 20 with (((with_reducible refine (pnumber_1 _ l T _ HLD.out hll N1 HN1.out).mono ?_); rintro e w' ⟨rfl, rfl⟩))
 refine wp_region_lit ?_
 refine wpl_loadS rfl (.tmp 3) rfl rfl HS.out.v rfl ?_
 go_wp2_with fail
 ((with_reducible refine (pinside_any s r c _ _ _ A4 A5 A6 n4 n5 n6 k4 k5 k6 base _ (by have := HS.out.n; omega) HS.out.p HS.out.i _ _).mono ?_); rintro e w4 ⟨rfl, b4⟩)
 have hn := HS.out.n
 have e0 := (b4.block _ (by omega)).trans HS.out.v
 have e1 := (b4.block _ hn).trans HS.out.z
 have bf : Below w.heap.size w w4 := HBD.out.trans (b4.mono (by omega))
 obtain ⟨c3, f3⟩ := cellR (v := .int .i64 s.y) e0 3 rfl
 obtain ⟨c4, f4⟩ := cellR (v := .int .i64 s.x) e0 4 rfl
 obtain ⟨c5, f5⟩ := cellR (v := .bool s.wrap) e0 5 rfl
 have E0 := Lib.hid e0
 have E1 := Lib.hid e1
 have BF := Lib.hid bf
 clear e0 e1 bf b4
 rename_i K hK
 refine hK _ _ ?_
 clear hK K
 go_upto_region 22 with fail
 refine wp_region_lit ?_
 refine wpl_loadS rfl (.tmp 3) rfl rfl ((heap_setCell_same _ _ 5 _ _ _ (heap_setCell_same _ _ 4 _ _ _ (heap_setCell_same _ _ 3 _ _ _ E0.out))).trans rfl) rfl ?_
 have z14 := (heap_setCell_other _ ⟨w.heap.size, 5, none⟩ (w.heap.size + 1) (.bool false) (by simp)).trans ((heap_setCell_other _ ⟨w.heap.size, 4, none⟩ (w.heap.size + 1) (.int .i64 (min (max (s.x) 0) (s.cols - 1))) (by simp)).trans ((heap_setCell_other _ ⟨w.heap.size, 3, none⟩ (w.heap.size + 1) (.int .i64 (min (max (N0 - 1) 0) (s.rows - 1))) (by simp)).trans E1.out))
 refine wpl_storeS rfl (.tmp 6) (.tmp 64) rfl rfl rfl z14 rfl rfl (all24 rfl rfl rfl rfl rfl rfl rfl rfl rfl rfl rfl rfl rfl rfl rfl rfl rfl rfl rfl rfl rfl rfl rfl rfl) ?_
 go_wp2
 refine psEnd0 (w.heap.size + 1) 6 Tryz.results143 ?_ ?_ z14 (by omega) (((BF.out.setCell (by simp) _).setCell (by simp) _).setCell (by simp) _) sl3 H.out ?_ ?_ ?_
 all_goals rfl
theorem pmove_72 (s : Sc) (r c : Nat) (vc vt vo : Value) (A4 A5 A6 : Option Addr) (n4 n5 n6 k4 k5 k6 : Nat) (base : Nat) (w : World) (hbase : base ≤ w.heap.size) (h : PsL w base vc vt vo s) (hi : ScIn { s with wrap := false } r c) (vp : Value) (l : List Int) (T : Nat → Prop) (hT : ∀ x, T x → x < w.heap.size) (hl : SL vI w T vp l) (hll : l.length ≤ 1048576)  :
  Calls Tryz.prog 143 #[.agg (vS s vc vt vo (.slice A4 n4 k4) (.slice A5 n5 k5) (.slice A6 n6 k6)), vp, .int .u8 72] w (PsPost base vc vt vo (toS s (paramL l 0 1 - 1) (paramL l 1 1 - 1)) w) := by
 have H0 := Lib.hid (show ∀ x, OwB vc vt vo x → x < w.heap.size from fun x hx => (h.lt x hx).2)
 obtain ⟨g1, k1, g2, k2, A3, k3, rfl, rfl, rfl, ⟨b1, l1, p1, q1⟩, ⟨b2, l2, p2, q2⟩, p3, q3⟩ := h.open_ hi
 have H := Lib.hid h
 have HI := Lib.hid hi
 obtain ⟨hlen, hr1, hr2, hc1, hc2, HR, HCO, hr3, hr4, hc3, hc4, y0, y1, x0, x1, t0, t1, u1⟩ := pIn hi
 clear h hi
 have HT := Lib.hid hT
 obtain ⟨AP, kP, rfl, pP, qP⟩ := hl.form
 have HLI := Lib.hid hl
 clear hT hl
 have hb0 := clip_bd (paramL l 0 1)
 have hb1 := clip_bd (paramL l 1 1)
 have e : toS s (paramL l 0 1 - 1) (paramL l 1 1 - 1) = toS s (clipN (paramL l 0 1) - 1) (clipN (paramL l 1 1) - 1) := by
  unfold toS clipN
  congr 1 <;> omega
 rw [e]
 clear e
 have h2 := two_new w (.cells (vS s (.slice (some ⟨g1, 0, none⟩) s.cells.length k1) (.slice (some ⟨g2, 0, none⟩) s.tabs.length k2) (.slice A3 s.other.length k3) (.slice A4 n4 k4) (.slice A5 n5 k5) (.slice A6 n6 k6)) 31) (.cells zQ 31)
 have HLW := Lib.hid (HLI.out.keep (w' := (w.alloc (.cells (vS s (.slice (some ⟨g1, 0, none⟩) s.cells.length k1) (.slice (some ⟨g2, 0, none⟩) s.tabs.length k2) (.slice A3 s.other.length k3) (.slice A4 n4 k4) (.slice A5 n5 k5) (.slice A6 n6 k6)) 31)).alloc (.cells zQ 31)) (fun q hq => h2.1.cell (HT.out _ hq)))
 have H2 := Lib.hid h2
 obtain ⟨N0, hN0⟩ : ∃ N0, clipN (paramL l 0 1) = N0 := ⟨_, rfl⟩
 obtain ⟨N1, hN1⟩ : ∃ N1, clipN (paramL l 1 1) = N1 := ⟨_, rfl⟩
 rw [hN0] at hb0
 rw [hN1] at hb1
 rw [hN0, hN1]
 have HN0 := Lib.hid hN0
 have HN1 := Lib.hid hN1
 clear h2 hN0 hN1
 go_enter Tryz.func143, Tryz.ntmps143
 go_upto_region 2 with (((with_reducible refine (pnumber_0 _ l T _ HLW.out hll N0 HN0.out).mono ?_); rintro e w' ⟨rfl, rfl⟩))
 go_quiet (fail)
 have K0 : Hid (((w.alloc (.cells (vS s (.slice (some ⟨g1, 0, none⟩) s.cells.length k1) (.slice (some ⟨g2, 0, none⟩) s.tabs.length k2) (.slice A3 s.other.length k3) (.slice A4 n4 k4) (.slice A5 n5 k5) (.slice A6 n6 k6)) 31)).alloc (.cells zQ 31)).heap[w.heap.size]? = some (.cells (vS s (.slice (some ⟨g1, 0, none⟩) s.cells.length k1) (.slice (some ⟨g2, 0, none⟩) s.tabs.length k2) (.slice A3 s.other.length k3) (.slice A4 n4 k4) (.slice A5 n5 k5) (.slice A6 n6 k6)) 31)) := heap_a1 w _ _
 have K1 : Hid (((w.alloc (.cells (vS s (.slice (some ⟨g1, 0, none⟩) s.cells.length k1) (.slice (some ⟨g2, 0, none⟩) s.tabs.length k2) (.slice A3 s.other.length k3) (.slice A4 n4 k4) (.slice A5 n5 k5) (.slice A6 n6 k6)) 31)).alloc (.cells zQ 31)).heap[w.heap.size + 1]? = some (.cells zQ 31)) := heap_a2 w _ _
 have HP : Hid (PsL ((w.alloc (.cells (vS s (.slice (some ⟨g1, 0, none⟩) s.cells.length k1) (.slice (some ⟨g2, 0, none⟩) s.tabs.length k2) (.slice A3 s.other.length k3) (.slice A4 n4 k4) (.slice A5 n5 k5) (.slice A6 n6 k6)) 31)).alloc (.cells zQ 31)) base _ _ _ s) := (H.out.alloc _).alloc _
 have HB := Lib.hid H2.out.1
 have HZ := Lib.hid H2.out.2
 generalize hWD : World.drewN _ _ = WD
 have hh : WD.heap = ((w.alloc (.cells (vS s (.slice (some ⟨g1, 0, none⟩) s.cells.length k1) (.slice (some ⟨g2, 0, none⟩) s.tabs.length k2) (.slice A3 s.other.length k3) (.slice A4 n4 k4) (.slice A5 n5 k5) (.slice A6 n6 k6)) 31)).alloc (.cells zQ 31)).heap := by rw [← hWD]; rfl
 have hbd : Below w.heap.size w WD := by rw [← hWD]; exact ⟨HB.out.os, HB.out.tape, HB.out.output, HB.out.size, HB.out.block⟩
 have HS : Hid (PutAt w base _ _ _ r c _ s g1 k1 g2 k2 A3 k3 (.slice A4 n4 k4) (.slice A5 n5 k5) (.slice A6 n6 k6) WD) :=
  ⟨by rw [hh]; exact K0.out, by rw [hh]; exact K1.out, HP.out.keep (fun x _ => by rw [hh]), Fr.of hbd _, by rw [hh]; exact (by rw [HZ.out]; omega), fun x hx => .inl hx, HI.out, sl3⟩
 have HLD : Hid (SL vI WD T (.slice AP l.length kP) l) := HLW.out.keep (fun q _ => World.cell?_of_block (by rw [hh]))
 have HBD := Lib.hid hbd
 clear hWD hh hbd K0 K1 HP HB HZ H2 HLW
 go_upto_region 20 with (((with_reducible refine (pnumber_1 _ l T _ HLD.out hll N1 HN1.out).mono ?_); rintro e w' ⟨rfl, rfl⟩))
 refine wp_region_lit ?_
 refine wpl_loadS rfl (.tmp 3) rfl rfl HS.out.v rfl ?_
 go_wp2_with fail
 ((with_reducible refine (pinside_any s r c _ _ _ A4 A5 A6 n4 n5 n6 k4 k5 k6 base _ (by have := HS.out.n; omega) HS.out.p HS.out.i _ _).mono ?_); rintro e w4 ⟨rfl, b4⟩)
 have hn := HS.out.n
 have e0 := (b4.block _ (by omega)).trans HS.out.v
 have e1 := (b4.block _ hn).trans HS.out.z
 have bf : Below w.heap.size w w4 := HBD.out.trans (b4.mono (by omega))
 obtain ⟨c3, f3⟩ := cellR (v := .int .i64 s.y) e0 3 rfl
 obtain ⟨c4, f4⟩ := cellR (v := .int .i64 s.x) e0 4 rfl
 obtain ⟨c5, f5⟩ := cellR (v := .bool s.wrap) e0 5 rfl
 have E0 := Lib.hid e0
 have E1 := Lib.hid e1
 have BF := Lib.hid bf
 clear e0 e1 bf b4
 rename_i K hK
 refine hK _ _ ?_
 clear hK K
 go_upto_region 22 with fail
 refine wp_region_lit ?_
 refine wpl_loadS rfl (.tmp 3) rfl rfl ((heap_setCell_same _ _ 5 _ _ _ (heap_setCell_same _ _ 4 _ _ _ (heap_setCell_same _ _ 3 _ _ _ E0.out))).trans rfl) rfl ?_
 have z14 := (heap_setCell_other _ ⟨w.heap.size, 5, none⟩ (w.heap.size + 1) (.bool false) (by simp)).trans ((heap_setCell_other _ ⟨w.heap.size, 4, none⟩ (w.heap.size + 1) (.int .i64 (min (max (N1 - 1) 0) (s.cols - 1))) (by simp)).trans ((heap_setCell_other _ ⟨w.heap.size, 3, none⟩ (w.heap.size + 1) (.int .i64 (min (max (N0 - 1) 0) (s.rows - 1))) (by simp)).trans E1.out))
 refine wpl_storeS rfl (.tmp 6) (.tmp 64) rfl rfl rfl z14 rfl rfl (all24 rfl rfl rfl rfl rfl rfl rfl rfl rfl rfl rfl rfl rfl rfl rfl rfl rfl rfl rfl rfl rfl rfl rfl rfl) ?_
 go_wp2
 refine psEnd0 (w.heap.size + 1) 6 Tryz.results143 ?_ ?_ z14 (by omega) (((BF.out.setCell (by simp) _).setCell (by simp) _).setCell (by simp) _) sl3 H.out ?_ ?_ ?_
 all_goals rfl
theorem pmove_102 (s : Sc) (r c : Nat) (vc vt vo : Value) (A4 A5 A6 : Option Addr) (n4 n5 n6 k4 k5 k6 : Nat) (base : Nat) (w : World) (hbase : base ≤ w.heap.size) (h : PsL w base vc vt vo s) (hi : ScIn { s with wrap := false } r c) (vp : Value) (l : List Int) (T : Nat → Prop) (hT : ∀ x, T x → x < w.heap.size) (hl : SL vI w T vp l) (hll : l.length ≤ 1048576)  :
  Calls Tryz.prog 143 #[.agg (vS s vc vt vo (.slice A4 n4 k4) (.slice A5 n5 k5) (.slice A6 n6 k6)), vp, .int .u8 102] w (PsPost base vc vt vo (toS s (paramL l 0 1 - 1) (paramL l 1 1 - 1)) w) := by
 have H0 := Lib.hid (show ∀ x, OwB vc vt vo x → x < w.heap.size from fun x hx => (h.lt x hx).2)
 obtain ⟨g1, k1, g2, k2, A3, k3, rfl, rfl, rfl, ⟨b1, l1, p1, q1⟩, ⟨b2, l2, p2, q2⟩, p3, q3⟩ := h.open_ hi
 have H := Lib.hid h
 have HI := Lib.hid hi
 obtain ⟨hlen, hr1, hr2, hc1, hc2, HR, HCO, hr3, hr4, hc3, hc4, y0, y1, x0, x1, t0, t1, u1⟩ := pIn hi
 clear h hi
 have HT := Lib.hid hT
 obtain ⟨AP, kP, rfl, pP, qP⟩ := hl.form
 have HLI := Lib.hid hl
 clear hT hl
 have hb0 := clip_bd (paramL l 0 1)
 have hb1 := clip_bd (paramL l 1 1)
 have e : toS s (paramL l 0 1 - 1) (paramL l 1 1 - 1) = toS s (clipN (paramL l 0 1) - 1) (clipN (paramL l 1 1) - 1) := by
  unfold toS clipN
  congr 1 <;> omega
 rw [e]
 clear e
 have h2 := two_new w (.cells (vS s (.slice (some ⟨g1, 0, none⟩) s.cells.length k1) (.slice (some ⟨g2, 0, none⟩) s.tabs.length k2) (.slice A3 s.other.length k3) (.slice A4 n4 k4) (.slice A5 n5 k5) (.slice A6 n6 k6)) 31) (.cells zQ 31)
 have HLW := Lib.hid (HLI.out.keep (w' := (w.alloc (.cells (vS s (.slice (some ⟨g1, 0, none⟩) s.cells.length k1) (.slice (some ⟨g2, 0, none⟩) s.tabs.length k2) (.slice A3 s.other.length k3) (.slice A4 n4 k4) (.slice A5 n5 k5) (.slice A6 n6 k6)) 31)).alloc (.cells zQ 31)) (fun q hq => h2.1.cell (HT.out _ hq)))
 have H2 := Lib.hid h2
 obtain ⟨N0, hN0⟩ : ∃ N0, clipN (paramL l 0 1) = N0 := ⟨_, rfl⟩
 obtain ⟨N1, hN1⟩ : ∃ N1, clipN (paramL l 1 1) = N1 := ⟨_, rfl⟩
 rw [hN0] at hb0
 rw [hN1] at hb1
 rw [hN0, hN1]
 have HN0 := Lib.hid hN0
 have HN1 := Lib.hid hN1
 clear h2 hN0 hN1
 go_enter Tryz.func143, Tryz.ntmps143
 go_upto_region 2 with (((with_reducible refine (pnumber_0 _ l T _ HLW.out hll N0 HN0.out).mono ?_); rintro e w' ⟨rfl, rfl⟩))
 go_quiet (fail)
 have K0 : Hid (((w.alloc (.cells (vS s (.slice (some ⟨g1, 0, none⟩) s.cells.length k1) (.slice (some ⟨g2, 0, none⟩) s.tabs.length k2) (.slice A3 s.other.length k3) (.slice A4 n4 k4) (.slice A5 n5 k5) (.slice A6 n6 k6)) 31)).alloc (.cells zQ 31)).heap[w.heap.size]? = some (.cells (vS s (.slice (some ⟨g1, 0, none⟩) s.cells.length k1) (.slice (some ⟨g2, 0, none⟩) s.tabs.length k2) (.slice A3 s.other.length k3) (.slice A4 n4 k4) (.slice A5 n5 k5) (.slice A6 n6 k6)) 31)) := heap_a1 w _ _
 have K1 : Hid (((w.alloc (.cells (vS s (.slice (some ⟨g1, 0, none⟩) s.cells.length k1) (.slice (some ⟨g2, 0, none⟩) s.tabs.length k2) (.slice A3 s.other.length k3) (.slice A4 n4 k4) (.slice A5 n5 k5) (.slice A6 n6 k6)) 31)).alloc (.cells zQ 31)).heap[w.heap.size + 1]? = some (.cells zQ 31)) := heap_a2 w _ _
 have HP : Hid (PsL ((w.alloc (.cells (vS s (.slice (some ⟨g1, 0, none⟩) s.cells.length k1) (.slice (some ⟨g2, 0, none⟩) s.tabs.length k2) (.slice A3 s.other.length k3) (.slice A4 n4 k4) (.slice A5 n5 k5) (.slice A6 n6 k6)) 31)).alloc (.cells zQ 31)) base _ _ _ s) := (H.out.alloc _).alloc _
 have HB := Lib.hid H2.out.1
 have HZ := Lib.hid H2.out.2
 generalize hWD : World.drewN _ _ = WD
 have hh : WD.heap = ((w.alloc (.cells (vS s (.slice (some ⟨g1, 0, none⟩) s.cells.length k1) (.slice (some ⟨g2, 0, none⟩) s.tabs.length k2) (.slice A3 s.other.length k3) (.slice A4 n4 k4) (.slice A5 n5 k5) (.slice A6 n6 k6)) 31)).alloc (.cells zQ 31)).heap := by rw [← hWD]; rfl
 have hbd : Below w.heap.size w WD := by rw [← hWD]; exact ⟨HB.out.os, HB.out.tape, HB.out.output, HB.out.size, HB.out.block⟩
 have HS : Hid (PutAt w base _ _ _ r c _ s g1 k1 g2 k2 A3 k3 (.slice A4 n4 k4) (.slice A5 n5 k5) (.slice A6 n6 k6) WD) :=
  ⟨by rw [hh]; exact K0.out, by rw [hh]; exact K1.out, HP.out.keep (fun x _ => by rw [hh]), Fr.of hbd _, by rw [hh]; exact (by rw [HZ.out]; omega), fun x hx => .inl hx, HI.out, sl3⟩
 have HLD : Hid (SL vI WD T (.slice AP l.length kP) l) := HLW.out.keep (fun q _ => World.cell?_of_block (by rw [hh]))
 have HBD := Lib.hid hbd
 clear hWD hh hbd K0 K1 HP HB HZ H2 HLW
 go_upto_region 20 with (((with_reducible refine (pnumber_1 _ l T _ HLD.out hll N1 HN1.out).mono ?_); rintro e w' ⟨rfl, rfl⟩))
 refine wp_region_lit ?_
 refine wpl_loadS rfl (.tmp 3) rfl rfl HS.out.v rfl ?_
 go_wp2_with fail
 ((with_reducible refine (pinside_any s r c _ _ _ A4 A5 A6 n4 n5 n6 k4 k5 k6 base _ (by have := HS.out.n; omega) HS.out.p HS.out.i _ _).mono ?_); rintro e w4 ⟨rfl, b4⟩)
 have hn := HS.out.n
 have e0 := (b4.block _ (by omega)).trans HS.out.v
 have e1 := (b4.block _ hn).trans HS.out.z
 have bf : Below w.heap.size w w4 := HBD.out.trans (b4.mono (by omega))
 obtain ⟨c3, f3⟩ := cellR (v := .int .i64 s.y) e0 3 rfl
 obtain ⟨c4, f4⟩ := cellR (v := .int .i64 s.x) e0 4 rfl
 obtain ⟨c5, f5⟩ := cellR (v := .bool s.wrap) e0 5 rfl
 have E0 := Lib.hid e0
 have E1 := Lib.hid e1
 have BF := Lib.hid bf
 clear e0 e1 bf b4
 rename_i K hK
 refine hK _ _ ?_
 clear hK K
 go_upto_region 22 with fail
 refine wp_region_lit ?_
 refine wpl_loadS rfl (.tmp 3) rfl rfl ((heap_setCell_same _ _ 5 _ _ _ (heap_setCell_same _ _ 4 _ _ _ (heap_setCell_same _ _ 3 _ _ _ E0.out))).trans rfl) rfl ?_
 have z14 := (heap_setCell_other _ ⟨w.heap.size, 5, none⟩ (w.heap.size + 1) (.bool false) (by simp)).trans ((heap_setCell_other _ ⟨w.heap.size, 4, none⟩ (w.heap.size + 1) (.int .i64 (min (max (N1 - 1) 0) (s.cols - 1))) (by simp)).trans ((heap_setCell_other _ ⟨w.heap.size, 3, none⟩ (w.heap.size + 1) (.int .i64 (min (max (N0 - 1) 0) (s.rows - 1))) (by simp)).trans E1.out))
 refine wpl_storeS rfl (.tmp 6) (.tmp 64) rfl rfl rfl z14 rfl rfl (all24 rfl rfl rfl rfl rfl rfl rfl rfl rfl rfl rfl rfl rfl rfl rfl rfl rfl rfl rfl rfl rfl rfl rfl rfl) ?_
 go_wp2
 refine psEnd0 (w.heap.size + 1) 6 Tryz.results143 ?_ ?_ z14 (by omega) (((BF.out.setCell (by simp) _).setCell (by simp) _).setCell (by simp) _) sl3 H.out ?_ ?_ ?_
 all_goals rfl
end Go.Proofs.YtlolgfgcgfjdjaaGreatDoor
