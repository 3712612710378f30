/- What is proved here: contracts of the landed screen's usual, way by way; the contract of the landed screen's usual: a control sequence that is not private; contracts of the landed screen's other, private: the other cells, modes that are switched on and off; contracts of the landed screen's sequence, do: an act is done. -/
import Derived.Test.YtlolgfgcgfjdjaaGreatDoorS16
import Derived.Test.YtlolgfgcgfjdjaaGreatDoorS15
namespace Go.Proofs.YtlolgfgcgfjdjaaGreatDoor
open Go.RowKit
set_option linter.unusedVariables false
set_option linter.unusedSimpArgs false
set_option maxHeartbeats 2000000
set_option maxRecDepth 100000
theorem pusual_76 (s : Sc) (r c : Nat) (vc vt vo : Value) (A4 A5 A6 : Option Addr) (n4 n5 n6 k4 k5 k6 : Nat) (base : Nat) (w : World) (hbase : base ≤ w.heap.size) (h : PsL w base vc vt vo s) (hi : ScIn { s with wrap := false } r c) (vp : Value) (l : List Int) (T : Nat → Prop) (hT : ∀ x, T x → x < w.heap.size) (hl : SL vI w T vp l) (hll : l.length ≤ 1048576) (hw : Whole s.cells r c) (h0 : ∀ x ∈ l, 0 ≤ x) :
  Calls Tryz.prog 111 #[.agg (vS s vc vt vo (.slice A4 n4 k4) (.slice A5 n5 k5) (.slice A6 n6 k6)), vp, .int .u8 76] w (PsPost base vc vt vo (if s.top ≤ s.y ∧ s.y ≤ s.bottom then { s with wrap := false, x := 0, cells := downL s.cells s.cols s.y s.bottom (paramL l 0 1) } else { s with wrap := false }) w) := by
 have H0 := Lib.hid (show ∀ x, OwB vc vt vo x → x < w.heap.size from fun x hx => (h.lt x hx).2)
 have HW := Lib.hid hw
 have HL0 := Lib.hid h0
 clear hw h0
 obtain ⟨g1, k1, g2, k2, A3, k3, rfl, rfl, rfl, ⟨b1, l1, p1, q1⟩, ⟨b2, l2, p2, q2⟩, p3, q3⟩ := h.open_ hi
 have H := Lib.hid h
 have HI := Lib.hid hi
 obtain ⟨hlen, hr1, hr2, hc1, hc2, HR, HCO, hr3, hr4, hc3, hc4, y0, y1, x0, x1, t0, t1, u1⟩ := pIn hi
 clear h hi
 have HT := Lib.hid hT
 obtain ⟨AP, kP, rfl, pP, qP⟩ := hl.form
 have HLI := Lib.hid hl
 clear hT hl
 have HTW : Hid (∀ x, T x → x < ((w.alloc (.cells (vS s (.slice (some ⟨g1, 0, none⟩) s.cells.length k1) (.slice (some ⟨g2, 0, none⟩) s.tabs.length k2) (.slice A3 s.other.length k3) (.slice A4 n4 k4) (.slice A5 n5 k5) (.slice A6 n6 k6)) 31)).alloc (.cells zQ 31)).heap.size) := fun x hx => Nat.lt_of_lt_of_le (HT.out x hx) (two_new w _ _).1.size
 have HLW := Lib.hid (HLI.out.keep (w' := (w.alloc (.cells (vS s (.slice (some ⟨g1, 0, none⟩) s.cells.length k1) (.slice (some ⟨g2, 0, none⟩) s.tabs.length k2) (.slice A3 s.other.length k3) (.slice A4 n4 k4) (.slice A5 n5 k5) (.slice A6 n6 k6)) 31)).alloc (.cells zQ 31)) (fun q hq => (two_new w _ _).1.cell (HT.out _ hq)))
 have HC := Lib.hid (pshift_76any s r c (.slice (some ⟨g1, 0, none⟩) s.cells.length k1) (.slice (some ⟨g2, 0, none⟩) s.tabs.length k2) (.slice A3 s.other.length k3) A4 A5 A6 n4 n5 n6 k4 k5 k6 base ((w.alloc (.cells (vS s (.slice (some ⟨g1, 0, none⟩) s.cells.length k1) (.slice (some ⟨g2, 0, none⟩) s.tabs.length k2) (.slice A3 s.other.length k3) (.slice A4 n4 k4) (.slice A5 n5 k5) (.slice A6 n6 k6)) 31)).alloc (.cells zQ 31)) (by simp; omega) (((H.out.alloc _).alloc _).like rfl rfl rfl) HI.out (.slice AP l.length kP) l T HTW.out HLW.out hll )
 obtain ⟨S9, hS9⟩ : ∃ S9, (if s.top ≤ s.y ∧ s.y ≤ s.bottom then { s with wrap := false, x := 0, cells := downL s.cells s.cols s.y s.bottom (paramL l 0 1) } else { s with wrap := false }) = S9 := ⟨_, rfl⟩
 rw [hS9] at HC ⊢
 clear hS9
 go_enter Tryz.func111, Tryz.ntmps111
 go_upto_region 20 with fail
 refine wp_region_lit ?_
 refine wpl_loadS rfl (.tmp 3) rfl rfl (heap_a1 w _ _) rfl ?_
 go_wp2_with fail
 ((with_reducible refine (HC.out).mono ?_); rintro e w4 ⟨uc, ut, uo, up, ui, uu, rfl, hsl, hs4, hf4, hsub4⟩)
 have f1 := hf4.var (heap_a2 w _ _) (H.out.far (by omega))
 rename_i K hK
 refine hK _ _ ?_
 refine wpl_storeS rfl (.tmp 6) (.tmp 38) rfl rfl rfl f1 rfl rfl (hs4.one hsl) ?_
 go_wp2
 refine psEndV (w.heap.size + 1) 6 Tryz.results111 rfl rfl f1 (by omega) (by simp) (H.out.far (by omega)) (Fr.of (two_new w _ _).1 _) (fun x hx => .inl hx) hsl hs4 hf4 hsub4
theorem pusual_77 (s : Sc) (r c : Nat) (vc vt vo : Value) (A4 A5 A6 : Option Addr) (n4 n5 n6 k4 k5 k6 : Nat) (base : Nat) (w : World) (hbase : base ≤ w.heap.size) (h : PsL w base vc vt vo s) (hi : ScIn { s with wrap := false } r c) (vp : Value) (l : List Int) (T : Nat → Prop) (hT : ∀ x, T x → x < w.heap.size) (hl : SL vI w T vp l) (hll : l.length ≤ 1048576) (hw : Whole s.cells r c) (h0 : ∀ x ∈ l, 0 ≤ x) :
  Calls Tryz.prog 111 #[.agg (vS s vc vt vo (.slice A4 n4 k4) (.slice A5 n5 k5) (.slice A6 n6 k6)), vp, .int .u8 77] w (PsPost base vc vt vo (if s.top ≤ s.y ∧ s.y ≤ s.bottom then { s with wrap := false, x := 0, cells := upL s.cells s.cols s.y s.bottom (paramL l 0 1) } else { s with wrap := false }) w) := by
 have H0 := Lib.hid (show ∀ x, OwB vc vt vo x → x < w.heap.size from fun x hx => (h.lt x hx).2)
 have HW := Lib.hid hw
 have HL0 := Lib.hid h0
 clear hw h0
 obtain ⟨g1, k1, g2, k2, A3, k3, rfl, rfl, rfl, ⟨b1, l1, p1, q1⟩, ⟨b2, l2, p2, q2⟩, p3, q3⟩ := h.open_ hi
 have H := Lib.hid h
 have HI := Lib.hid hi
 obtain ⟨hlen, hr1, hr2, hc1, hc2, HR, HCO, hr3, hr4, hc3, hc4, y0, y1, x0, x1, t0, t1, u1⟩ := pIn hi
 clear h hi
 have HT := Lib.hid hT
 obtain ⟨AP, kP, rfl, pP, qP⟩ := hl.form
 have HLI := Lib.hid hl
 clear hT hl
 have HTW : Hid (∀ x, T x → x < ((w.alloc (.cells (vS s (.slice (some ⟨g1, 0, none⟩) s.cells.length k1) (.slice (some ⟨g2, 0, none⟩) s.tabs.length k2) (.slice A3 s.other.length k3) (.slice A4 n4 k4) (.slice A5 n5 k5) (.slice A6 n6 k6)) 31)).alloc (.cells zQ 31)).heap.size) := fun x hx => Nat.lt_of_lt_of_le (HT.out x hx) (two_new w _ _).1.size
 have HLW := Lib.hid (HLI.out.keep (w' := (w.alloc (.cells (vS s (.slice (some ⟨g1, 0, none⟩) s.cells.length k1) (.slice (some ⟨g2, 0, none⟩) s.tabs.length k2) (.slice A3 s.other.length k3) (.slice A4 n4 k4) (.slice A5 n5 k5) (.slice A6 n6 k6)) 31)).alloc (.cells zQ 31)) (fun q hq => (two_new w _ _).1.cell (HT.out _ hq)))
 have HC := Lib.hid (pshift_77any s r c (.slice (some ⟨g1, 0, none⟩) s.cells.length k1) (.slice (some ⟨g2, 0, none⟩) s.tabs.length k2) (.slice A3 s.other.length k3) A4 A5 A6 n4 n5 n6 k4 k5 k6 base ((w.alloc (.cells (vS s (.slice (some ⟨g1, 0, none⟩) s.cells.length k1) (.slice (some ⟨g2, 0, none⟩) s.tabs.length k2) (.slice A3 s.other.length k3) (.slice A4 n4 k4) (.slice A5 n5 k5) (.slice A6 n6 k6)) 31)).alloc (.cells zQ 31)) (by simp; omega) (((H.out.alloc _).alloc _).like rfl rfl rfl) HI.out (.slice AP l.length kP) l T HTW.out HLW.out hll )
 obtain ⟨S9, hS9⟩ : ∃ S9, (if s.top ≤ s.y ∧ s.y ≤ s.bottom then { s with wrap := false, x := 0, cells := upL s.cells s.cols s.y s.bottom (paramL l 0 1) } else { s with wrap := false }) = S9 := ⟨_, rfl⟩
 rw [hS9] at HC ⊢
 clear hS9
 go_enter Tryz.func111, Tryz.ntmps111
 go_upto_region 20 with fail
 refine wp_region_lit ?_
 refine wpl_loadS rfl (.tmp 3) rfl rfl (heap_a1 w _ _) rfl ?_
 go_wp2_with fail
 ((with_reducible refine (HC.out).mono ?_); rintro e w4 ⟨uc, ut, uo, up, ui, uu, rfl, hsl, hs4, hf4, hsub4⟩)
 have f1 := hf4.var (heap_a2 w _ _) (H.out.far (by omega))
 rename_i K hK
 refine hK _ _ ?_
 refine wpl_storeS rfl (.tmp 6) (.tmp 38) rfl rfl rfl f1 rfl rfl (hs4.one hsl) ?_
 go_wp2
 refine psEndV (w.heap.size + 1) 6 Tryz.results111 rfl rfl f1 (by omega) (by simp) (H.out.far (by omega)) (Fr.of (two_new w _ _).1 _) (fun x hx => .inl hx) hsl hs4 hf4 hsub4
theorem pusual_83 (s : Sc) (r c : Nat) (vc vt vo : Value) (A4 A5 A6 : Option Addr) (n4 n5 n6 k4 k5 k6 : Nat) (base : Nat) (w : World) (hbase : base ≤ w.heap.size) (h : PsL w base vc vt vo s) (hi : ScIn { s with wrap := false } r c) (vp : Value) (l : List Int) (T : Nat → Prop) (hT : ∀ x, T x → x < w.heap.size) (hl : SL vI w T vp l) (hll : l.length ≤ 1048576) (hw : Whole s.cells r c) (h0 : ∀ x ∈ l, 0 ≤ x) :
  Calls Tryz.prog 111 #[.agg (vS s vc vt vo (.slice A4 n4 k4) (.slice A5 n5 k5) (.slice A6 n6 k6)), vp, .int .u8 83] w (PsPost base vc vt vo ({ s with cells := upL s.cells s.cols s.top s.bottom (paramL l 0 1), wrap := false }) w) := by
 have H0 := Lib.hid (show ∀ x, OwB vc vt vo x → x < w.heap.size from fun x hx => (h.lt x hx).2)
 have HW := Lib.hid hw
 have HL0 := Lib.hid h0
 clear hw h0
 obtain ⟨g1, k1, g2, k2, A3, k3, rfl, rfl, rfl, ⟨b1, l1, p1, q1⟩, ⟨b2, l2, p2, q2⟩, p3, q3⟩ := h.open_ hi
 have H := Lib.hid h
 have HI := Lib.hid hi
 obtain ⟨hlen, hr1, hr2, hc1, hc2, HR, HCO, hr3, hr4, hc3, hc4, y0, y1, x0, x1, t0, t1, u1⟩ := pIn hi
 clear h hi
 have HT := Lib.hid hT
 obtain ⟨AP, kP, rfl, pP, qP⟩ := hl.form
 have HLI := Lib.hid hl
 clear hT hl
 have HTW : Hid (∀ x, T x → x < ((w.alloc (.cells (vS s (.slice (some ⟨g1, 0, none⟩) s.cells.length k1) (.slice (some ⟨g2, 0, none⟩) s.tabs.length k2) (.slice A3 s.other.length k3) (.slice A4 n4 k4) (.slice A5 n5 k5) (.slice A6 n6 k6)) 31)).alloc (.cells zQ 31)).heap.size) := fun x hx => Nat.lt_of_lt_of_le (HT.out x hx) (two_new w _ _).1.size
 have HLW := Lib.hid (HLI.out.keep (w' := (w.alloc (.cells (vS s (.slice (some ⟨g1, 0, none⟩) s.cells.length k1) (.slice (some ⟨g2, 0, none⟩) s.tabs.length k2) (.slice A3 s.other.length k3) (.slice A4 n4 k4) (.slice A5 n5 k5) (.slice A6 n6 k6)) 31)).alloc (.cells zQ 31)) (fun q hq => (two_new w _ _).1.cell (HT.out _ hq)))
 go_enter Tryz.func111, Tryz.ntmps111
 go_upto_region 20 with fail
 refine wp_region_lit ?_
 refine wpl_loadS rfl (.tmp 3) rfl rfl (heap_a1 w _ _) rfl ?_
 go_wp2_with fail
 ((with_reducible refine (pshift_83 s r c _ _ _ A4 A5 A6 n4 n5 n6 k4 k5 k6 base _ (by simp; omega) (((H.out.alloc _).alloc _).like rfl rfl rfl) HI.out _ l T HTW.out HLW.out hll ).mono ?_); rintro e w4 ⟨uc, ut, uo, up, ui, uu, rfl, hsl, hs4, hf4, hsub4⟩)
 have f1 := hf4.var (heap_a2 w _ _) (H.out.far (by omega))
 rename_i K hK
 refine hK _ _ ?_
 refine wpl_storeS rfl (.tmp 6) (.tmp 38) rfl rfl rfl f1 rfl rfl (hs4.one hsl) ?_
 go_wp2
 refine psEndV (w.heap.size + 1) 6 Tryz.results111 rfl rfl f1 (by omega) (by simp) (H.out.far (by omega)) (Fr.of (two_new w _ _).1 _) (fun x hx => .inl hx) hsl hs4 hf4 hsub4
theorem pusual_84 (s : Sc) (r c : Nat) (vc vt vo : Value) (A4 A5 A6 : Option Addr) (n4 n5 n6 k4 k5 k6 : Nat) (base : Nat) (w : World) (hbase : base ≤ w.heap.size) (h : PsL w base vc vt vo s) (hi : ScIn { s with wrap := false } r c) (vp : Value) (l : List Int) (T : Nat → Prop) (hT : ∀ x, T x → x < w.heap.size) (hl : SL vI w T vp l) (hll : l.length ≤ 1048576) (hw : Whole s.cells r c) (h0 : ∀ x ∈ l, 0 ≤ x) :
  Calls Tryz.prog 111 #[.agg (vS s vc vt vo (.slice A4 n4 k4) (.slice A5 n5 k5) (.slice A6 n6 k6)), vp, .int .u8 84] w (PsPost base vc vt vo ({ s with cells := downL s.cells s.cols s.top s.bottom (paramL l 0 1), wrap := false }) w) := by
 have H0 := Lib.hid (show ∀ x, OwB vc vt vo x → x < w.heap.size from fun x hx => (h.lt x hx).2)
 have HW := Lib.hid hw
 have HL0 := Lib.hid h0
 clear hw h0
 obtain ⟨g1, k1, g2, k2, A3, k3, rfl, rfl, rfl, ⟨b1, l1, p1, q1⟩, ⟨b2, l2, p2, q2⟩, p3, q3⟩ := h.open_ hi
 have H := Lib.hid h
 have HI := Lib.hid hi
 obtain ⟨hlen, hr1, hr2, hc1, hc2, HR, HCO, hr3, hr4, hc3, hc4, y0, y1, x0, x1, t0, t1, u1⟩ := pIn hi
 clear h hi
 have HT := Lib.hid hT
 obtain ⟨AP, kP, rfl, pP, qP⟩ := hl.form
 have HLI := Lib.hid hl
 clear hT hl
 have HTW : Hid (∀ x, T x → x < ((w.alloc (.cells (vS s (.slice (some ⟨g1, 0, none⟩) s.cells.length k1) (.slice (some ⟨g2, 0, none⟩) s.tabs.length k2) (.slice A3 s.other.length k3) (.slice A4 n4 k4) (.slice A5 n5 k5) (.slice A6 n6 k6)) 31)).alloc (.cells zQ 31)).heap.size) := fun x hx => Nat.lt_of_lt_of_le (HT.out x hx) (two_new w _ _).1.size
 have HLW := Lib.hid (HLI.out.keep (w' := (w.alloc (.cells (vS s (.slice (some ⟨g1, 0, none⟩) s.cells.length k1) (.slice (some ⟨g2, 0, none⟩) s.tabs.length k2) (.slice A3 s.other.length k3) (.slice A4 n4 k4) (.slice A5 n5 k5) (.slice A6 n6 k6)) 31)).alloc (.cells zQ 31)) (fun q hq => (two_new w _ _).1.cell (HT.out _ hq)))
 go_enter Tryz.func111, Tryz.ntmps111
 go_upto_region 20 with fail
 refine wp_region_lit ?_
 refine wpl_loadS rfl (.tmp 3) rfl rfl (heap_a1 w _ _) rfl ?_
 go_wp2_with fail
 ((with_reducible refine (pshift_84 s r c _ _ _ A4 A5 A6 n4 n5 n6 k4 k5 k6 base _ (by simp; omega) (((H.out.alloc _).alloc _).like rfl rfl rfl) HI.out _ l T HTW.out HLW.out hll ).mono ?_); rintro e w4 ⟨uc, ut, uo, up, ui, uu, rfl, hsl, hs4, hf4, hsub4⟩)
 have f1 := hf4.var (heap_a2 w _ _) (H.out.far (by omega))
 rename_i K hK
 refine hK _ _ ?_
 refine wpl_storeS rfl (.tmp 6) (.tmp 38) rfl rfl rfl f1 rfl rfl (hs4.one hsl) ?_
 go_wp2
 refine psEndV (w.heap.size + 1) 6 Tryz.results111 rfl rfl f1 (by omega) (by simp) (H.out.far (by omega)) (Fr.of (two_new w _ _).1 _) (fun x hx => .inl hx) hsl hs4 hf4 hsub4
theorem pusual_64 (s : Sc) (r c : Nat) (vc vt vo : Value) (A4 A5 A6 : Option Addr) (n4 n5 n6 k4 k5 k6 : Nat) (base : Nat) (w : World) (hbase : base ≤ w.heap.size) (h : PsL w base vc vt vo s) (hi : ScIn { s with wrap := false } r c) (vp : Value) (l : List Int) (T : Nat → Prop) (hT : ∀ x, T x → x < w.heap.size) (hl : SL vI w T vp l) (hll : l.length ≤ 1048576) (hw : Whole s.cells r c) (h0 : ∀ x ∈ l, 0 ≤ x) :
  Calls Tryz.prog 111 #[.agg (vS s vc vt vo (.slice A4 n4 k4) (.slice A5 n5 k5) (.slice A6 n6 k6)), vp, .int .u8 64] w (PsPost base vc vt vo ({ s with cells := insertL s.cells s.cols s.y s.x (paramL l 0 1), wrap := false }) w) := by
 have H0 := Lib.hid (show ∀ x, OwB vc vt vo x → x < w.heap.size from fun x hx => (h.lt x hx).2)
 have HW := Lib.hid hw
 have HL0 := Lib.hid h0
 clear hw h0
 obtain ⟨g1, k1, g2, k2, A3, k3, rfl, rfl, rfl, ⟨b1, l1, p1, q1⟩, ⟨b2, l2, p2, q2⟩, p3, q3⟩ := h.open_ hi
 have H := Lib.hid h
 have HI := Lib.hid hi
 obtain ⟨hlen, hr1, hr2, hc1, hc2, HR, HCO, hr3, hr4, hc3, hc4, y0, y1, x0, x1, t0, t1, u1⟩ := pIn hi
 clear h hi
 have HT := Lib.hid hT
 obtain ⟨AP, kP, rfl, pP, qP⟩ := hl.form
 have HLI := Lib.hid hl
 clear hT hl
 have HTW : Hid (∀ x, T x → x < ((w.alloc (.cells (vS s (.slice (some ⟨g1, 0, none⟩) s.cells.length k1) (.slice (some ⟨g2, 0, none⟩) s.tabs.length k2) (.slice A3 s.other.length k3) (.slice A4 n4 k4) (.slice A5 n5 k5) (.slice A6 n6 k6)) 31)).alloc (.cells zQ 31)).heap.size) := fun x hx => Nat.lt_of_lt_of_le (HT.out x hx) (two_new w _ _).1.size
 have HLW := Lib.hid (HLI.out.keep (w' := (w.alloc (.cells (vS s (.slice (some ⟨g1, 0, none⟩) s.cells.length k1) (.slice (some ⟨g2, 0, none⟩) s.tabs.length k2) (.slice A3 s.other.length k3) (.slice A4 n4 k4) (.slice A5 n5 k5) (.slice A6 n6 k6)) 31)).alloc (.cells zQ 31)) (fun q hq => (two_new w _ _).1.cell (HT.out _ hq)))
 go_enter Tryz.func111, Tryz.ntmps111
 go_upto_region 23 with fail
 refine wp_region_lit ?_
 refine wpl_loadS rfl (.tmp 3) rfl rfl (heap_a1 w _ _) rfl ?_
 go_wp2_with fail
 ((with_reducible refine (pshiftC_64 s r c _ _ _ A4 A5 A6 n4 n5 n6 k4 k5 k6 base _ (by simp; omega) (((H.out.alloc _).alloc _).like rfl rfl rfl) HI.out _ l T HTW.out HLW.out hll ).mono ?_); rintro e w4 ⟨uc, ut, uo, up, ui, uu, rfl, hsl, hs4, hf4, hsub4⟩)
 have f1 := hf4.var (heap_a2 w _ _) (H.out.far (by omega))
 rename_i K hK
 refine hK _ _ ?_
 refine wpl_storeS rfl (.tmp 6) (.tmp 45) rfl rfl rfl f1 rfl rfl (hs4.one hsl) ?_
 go_wp2
 refine psEndV (w.heap.size + 1) 6 Tryz.results111 rfl rfl f1 (by omega) (by simp) (H.out.far (by omega)) (Fr.of (two_new w _ _).1 _) (fun x hx => .inl hx) hsl hs4 hf4 hsub4
theorem pusual_80 (s : Sc) (r c : Nat) (vc vt vo : Value) (A4 A5 A6 : Option Addr) (n4 n5 n6 k4 k5 k6 : Nat) (base : Nat) (w : World) (hbase : base ≤ w.heap.size) (h : PsL w base vc vt vo s) (hi : ScIn { s with wrap := false } r c) (vp : Value) (l : List Int) (T : Nat → Prop) (hT : ∀ x, T x → x < w.heap.size) (hl : SL vI w T vp l) (hll : l.length ≤ 1048576) (hw : Whole s.cells r c) (h0 : ∀ x ∈ l, 0 ≤ x) :
  Calls Tryz.prog 111 #[.agg (vS s vc vt vo (.slice A4 n4 k4) (.slice A5 n5 k5) (.slice A6 n6 k6)), vp, .int .u8 80] w (PsPost base vc vt vo ({ s with cells := deleteL s.cells s.cols s.y s.x (paramL l 0 1), wrap := false }) w) := by
 have H0 := Lib.hid (show ∀ x, OwB vc vt vo x → x < w.heap.size from fun x hx => (h.lt x hx).2)
 have HW := Lib.hid hw
 have HL0 := Lib.hid h0
 clear hw h0
 obtain ⟨g1, k1, g2, k2, A3, k3, rfl, rfl, rfl, ⟨b1, l1, p1, q1⟩, ⟨b2, l2, p2, q2⟩, p3, q3⟩ := h.open_ hi
 have H := Lib.hid h
 have HI := Lib.hid hi
 obtain ⟨hlen, hr1, hr2, hc1, hc2, HR, HCO, hr3, hr4, hc3, hc4, y0, y1, x0, x1, t0, t1, u1⟩ := pIn hi
 clear h hi
 have HT := Lib.hid hT
 obtain ⟨AP, kP, rfl, pP, qP⟩ := hl.form
 have HLI := Lib.hid hl
 clear hT hl
 have HTW : Hid (∀ x, T x → x < ((w.alloc (.cells (vS s (.slice (some ⟨g1, 0, none⟩) s.cells.length k1) (.slice (some ⟨g2, 0, none⟩) s.tabs.length k2) (.slice A3 s.other.length k3) (.slice A4 n4 k4) (.slice A5 n5 k5) (.slice A6 n6 k6)) 31)).alloc (.cells zQ 31)).heap.size) := fun x hx => Nat.lt_of_lt_of_le (HT.out x hx) (two_new w _ _).1.size
 have HLW := Lib.hid (HLI.out.keep (w' := (w.alloc (.cells (vS s (.slice (some ⟨g1, 0, none⟩) s.cells.length k1) (.slice (some ⟨g2, 0, none⟩) s.tabs.length k2) (.slice A3 s.other.length k3) (.slice A4 n4 k4) (.slice A5 n5 k5) (.slice A6 n6 k6)) 31)).alloc (.cells zQ 31)) (fun q hq => (two_new w _ _).1.cell (HT.out _ hq)))
 go_enter Tryz.func111, Tryz.ntmps111
 go_upto_region 23 with fail
 refine wp_region_lit ?_
 refine wpl_loadS rfl (.tmp 3) rfl rfl (heap_a1 w _ _) rfl ?_
 go_wp2_with fail
 ((with_reducible refine (pshiftC_80 s r c _ _ _ A4 A5 A6 n4 n5 n6 k4 k5 k6 base _ (by simp; omega) (((H.out.alloc _).alloc _).like rfl rfl rfl) HI.out _ l T HTW.out HLW.out hll ).mono ?_); rintro e w4 ⟨uc, ut, uo, up, ui, uu, rfl, hsl, hs4, hf4, hsub4⟩)
 have f1 := hf4.var (heap_a2 w _ _) (H.out.far (by omega))
 rename_i K hK
 refine hK _ _ ?_
 refine wpl_storeS rfl (.tmp 6) (.tmp 45) rfl rfl rfl f1 rfl rfl (hs4.one hsl) ?_
 go_wp2
 refine psEndV (w.heap.size + 1) 6 Tryz.results111 rfl rfl f1 (by omega) (by simp) (H.out.far (by omega)) (Fr.of (two_new w _ _).1 _) (fun x hx => .inl hx) hsl hs4 hf4 hsub4
theorem pusual_114 (s : Sc) (r c : Nat) (vc vt vo : Value) (A4 A5 A6 : Option Addr) (n4 n5 n6 k4 k5 k6 : Nat) (base : Nat) (w : World) (hbase : base ≤ w.heap.size) (h : PsL w base vc vt vo s) (hi : ScIn { s with wrap := false } r c) (vp : Value) (l : List Int) (T : Nat → Prop) (hT : ∀ x, T x → x < w.heap.size) (hl : SL vI w T vp l) (hll : l.length ≤ 1048576) (hw : Whole s.cells r c) (h0 : ∀ x ∈ l, 0 ≤ x) :
  Calls Tryz.prog 111 #[.agg (vS s vc vt vo (.slice A4 n4 k4) (.slice A5 n5 k5) (.slice A6 n6 k6)), vp, .int .u8 114] w (PsPost base vc vt vo (if paramL l 0 1 - 1 < min (paramL l 1 s.rows) s.rows - 1 then { toS s 0 0 with top := paramL l 0 1 - 1, bottom := min (paramL l 1 s.rows) s.rows - 1 } else s) w) := by
 have H0 := Lib.hid (show ∀ x, OwB vc vt vo x → x < w.heap.size from fun x hx => (h.lt x hx).2)
 have HW := Lib.hid hw
 have HL0 := Lib.hid h0
 clear hw h0
 obtain ⟨g1, k1, g2, k2, A3, k3, rfl, rfl, rfl, ⟨b1, l1, p1, q1⟩, ⟨b2, l2, p2, q2⟩, p3, q3⟩ := h.open_ hi
 have H := Lib.hid h
 have HI := Lib.hid hi
 obtain ⟨hlen, hr1, hr2, hc1, hc2, HR, HCO, hr3, hr4, hc3, hc4, y0, y1, x0, x1, t0, t1, u1⟩ := pIn hi
 clear h hi
 have HT := Lib.hid hT
 obtain ⟨AP, kP, rfl, pP, qP⟩ := hl.form
 have HLI := Lib.hid hl
 clear hT hl
 have HTW : Hid (∀ x, T x → x < ((w.alloc (.cells (vS s (.slice (some ⟨g1, 0, none⟩) s.cells.length k1) (.slice (some ⟨g2, 0, none⟩) s.tabs.length k2) (.slice A3 s.other.length k3) (.slice A4 n4 k4) (.slice A5 n5 k5) (.slice A6 n6 k6)) 31)).alloc (.cells zQ 31)).heap.size) := fun x hx => Nat.lt_of_lt_of_le (HT.out x hx) (two_new w _ _).1.size
 have HLW := Lib.hid (HLI.out.keep (w' := (w.alloc (.cells (vS s (.slice (some ⟨g1, 0, none⟩) s.cells.length k1) (.slice (some ⟨g2, 0, none⟩) s.tabs.length k2) (.slice A3 s.other.length k3) (.slice A4 n4 k4) (.slice A5 n5 k5) (.slice A6 n6 k6)) 31)).alloc (.cells zQ 31)) (fun q hq => (two_new w _ _).1.cell (HT.out _ hq)))
 have HC := Lib.hid (pregion_any s r c (.slice (some ⟨g1, 0, none⟩) s.cells.length k1) (.slice (some ⟨g2, 0, none⟩) s.tabs.length k2) (.slice A3 s.other.length k3) A4 A5 A6 n4 n5 n6 k4 k5 k6 base ((w.alloc (.cells (vS s (.slice (some ⟨g1, 0, none⟩) s.cells.length k1) (.slice (some ⟨g2, 0, none⟩) s.tabs.length k2) (.slice A3 s.other.length k3) (.slice A4 n4 k4) (.slice A5 n5 k5) (.slice A6 n6 k6)) 31)).alloc (.cells zQ 31)) (by simp; omega) (((H.out.alloc _).alloc _).like rfl rfl rfl) HI.out (.slice AP l.length kP) l T HTW.out HLW.out hll HL0.out)
 obtain ⟨S9, hS9⟩ : ∃ S9, (if paramL l 0 1 - 1 < min (paramL l 1 s.rows) s.rows - 1 then { toS s 0 0 with top := paramL l 0 1 - 1, bottom := min (paramL l 1 s.rows) s.rows - 1 } else s) = S9 := ⟨_, rfl⟩
 rw [hS9] at HC ⊢
 clear hS9
 go_enter Tryz.func111, Tryz.ntmps111
 go_upto_region 25 with fail
 refine wp_region_lit ?_
 refine wpl_loadS rfl (.tmp 3) rfl rfl (heap_a1 w _ _) rfl ?_
 go_wp2_with fail
 ((with_reducible refine (HC.out).mono ?_); rintro e w4 ⟨uc, ut, uo, up, ui, uu, rfl, hsl, hs4, hf4, hsub4⟩)
 have f1 := hf4.var (heap_a2 w _ _) (H.out.far (by omega))
 rename_i K hK
 refine hK _ _ ?_
 refine wpl_storeS rfl (.tmp 6) (.tmp 50) rfl rfl rfl f1 rfl rfl (hs4.one hsl) ?_
 go_wp2
 refine psEndV (w.heap.size + 1) 6 Tryz.results111 rfl rfl f1 (by omega) (by simp) (H.out.far (by omega)) (Fr.of (two_new w _ _).1 _) (fun x hx => .inl hx) hsl hs4 hf4 hsub4
theorem pusual_103 (s : Sc) (r c : Nat) (vc vt vo : Value) (A4 A5 A6 : Option Addr) (n4 n5 n6 k4 k5 k6 : Nat) (base : Nat) (w : World) (hbase : base ≤ w.heap.size) (h : PsL w base vc vt vo s) (hi : ScIn { s with wrap := false } r c) (vp : Value) (l : List Int) (T : Nat → Prop) (hT : ∀ x, T x → x < w.heap.size) (hl : SL vI w T vp l) (hll : l.length ≤ 1048576) (hw : Whole s.cells r c) (h0 : ∀ x ∈ l, 0 ≤ x) :
  Calls Tryz.prog 111 #[.agg (vS s vc vt vo (.slice A4 n4 k4) (.slice A5 n5 k5) (.slice A6 n6 k6)), vp, .int .u8 103] w (PsPost base vc vt vo (if paramL l 0 0 = 0 then { s with tabs := s.tabs.set s.x.toNat false } else if paramL l 0 0 = 3 then { s with tabs := List.replicate s.cols.toNat false } else s) w) := by
 have H0 := Lib.hid (show ∀ x, OwB vc vt vo x → x < w.heap.size from fun x hx => (h.lt x hx).2)
 have HW := Lib.hid hw
 have HL0 := Lib.hid h0
 clear hw h0
 obtain ⟨g1, k1, g2, k2, A3, k3, rfl, rfl, rfl, ⟨b1, l1, p1, q1⟩, ⟨b2, l2, p2, q2⟩, p3, q3⟩ := h.open_ hi
 have H := Lib.hid h
 have HI := Lib.hid hi
 obtain ⟨hlen, hr1, hr2, hc1, hc2, HR, HCO, hr3, hr4, hc3, hc4, y0, y1, x0, x1, t0, t1, u1⟩ := pIn hi
 clear h hi
 have HT := Lib.hid hT
 obtain ⟨AP, kP, rfl, pP, qP⟩ := hl.form
 have HLI := Lib.hid hl
 clear hT hl
 have HTW : Hid (∀ x, T x → x < ((w.alloc (.cells (vS s (.slice (some ⟨g1, 0, none⟩) s.cells.length k1) (.slice (some ⟨g2, 0, none⟩) s.tabs.length k2) (.slice A3 s.other.length k3) (.slice A4 n4 k4) (.slice A5 n5 k5) (.slice A6 n6 k6)) 31)).alloc (.cells zQ 31)).heap.size) := fun x hx => Nat.lt_of_lt_of_le (HT.out x hx) (two_new w _ _).1.size
 have HLW := Lib.hid (HLI.out.keep (w' := (w.alloc (.cells (vS s (.slice (some ⟨g1, 0, none⟩) s.cells.length k1) (.slice (some ⟨g2, 0, none⟩) s.tabs.length k2) (.slice A3 s.other.length k3) (.slice A4 n4 k4) (.slice A5 n5 k5) (.slice A6 n6 k6)) 31)).alloc (.cells zQ 31)) (fun q hq => (two_new w _ _).1.cell (HT.out _ hq)))
 have HC := Lib.hid (pdrop_any s r c (.slice (some ⟨g1, 0, none⟩) s.cells.length k1) (.slice (some ⟨g2, 0, none⟩) s.tabs.length k2) (.slice A3 s.other.length k3) A4 A5 A6 n4 n5 n6 k4 k5 k6 base ((w.alloc (.cells (vS s (.slice (some ⟨g1, 0, none⟩) s.cells.length k1) (.slice (some ⟨g2, 0, none⟩) s.tabs.length k2) (.slice A3 s.other.length k3) (.slice A4 n4 k4) (.slice A5 n5 k5) (.slice A6 n6 k6)) 31)).alloc (.cells zQ 31)) (by simp; omega) (((H.out.alloc _).alloc _).like rfl rfl rfl) HI.out (.slice AP l.length kP) l T HTW.out HLW.out hll )
 obtain ⟨S9, hS9⟩ : ∃ S9, (if paramL l 0 0 = 0 then { s with tabs := s.tabs.set s.x.toNat false } else if paramL l 0 0 = 3 then { s with tabs := List.replicate s.cols.toNat false } else s) = S9 := ⟨_, rfl⟩
 rw [hS9] at HC ⊢
 clear hS9
 go_enter Tryz.func111, Tryz.ntmps111
 go_upto_region 27 with fail
 refine wp_region_lit ?_
 refine wpl_loadS rfl (.tmp 3) rfl rfl (heap_a1 w _ _) rfl ?_
 go_wp2_with fail
 ((with_reducible refine (HC.out).mono ?_); rintro e w4 ⟨uc, ut, uo, up, ui, uu, rfl, hsl, hs4, hf4, hsub4⟩)
 have f1 := hf4.var (heap_a2 w _ _) (H.out.far (by omega))
 rename_i K hK
 refine hK _ _ ?_
 refine wpl_storeS rfl (.tmp 6) (.tmp 55) rfl rfl rfl f1 rfl rfl (hs4.one hsl) ?_
 go_wp2
 refine psEndV (w.heap.size + 1) 6 Tryz.results111 rfl rfl f1 (by omega) (by simp) (H.out.far (by omega)) (Fr.of (two_new w _ _).1 _) (fun x hx => .inl hx) hsl hs4 hf4 hsub4
end Go.Proofs.YtlolgfgcgfjdjaaGreatDoor

namespace Go.Proofs.YtlolgfgcgfjdjaaGreatDoor
open Go.RowKit
set_option linter.unusedVariables false
set_option linter.unusedSimpArgs false
set_option maxHeartbeats 2000000
set_option maxRecDepth 100000
theorem pusual_109 (s : Sc) (r c : Nat) (vc vt vo : Value) (A4 A5 A6 : Option Addr) (n4 n5 n6 k4 k5 k6 : Nat) (base : Nat) (w : World) (hbase : base ≤ w.heap.size) (h : PsL w base vc vt vo s) (hi : ScIn { s with wrap := false } r c) (vp : Value) (l : List Int) (T : Nat → Prop) (hT : ∀ x, T x → x < w.heap.size) (hl : SL vI w T vp l) (hll : l.length ≤ 1048576) (hw : Whole s.cells r c) (h0 : ∀ x ∈ l, 0 ≤ x) :
  Calls Tryz.prog 111 #[.agg (vS s vc vt vo (.slice A4 n4 k4) (.slice A5 n5 k5) (.slice A6 n6 k6)), vp, .int .u8 109] w (PsPost base vc vt vo ({ s with attr := if l.length = 0 then 0 else l.foldl lookN s.attr }) w) := by
 have H0 := Lib.hid (show ∀ x, OwB vc vt vo x → x < w.heap.size from fun x hx => (h.lt x hx).2)
 have HW := Lib.hid hw
 have HL0 := Lib.hid h0
 clear hw h0
 obtain ⟨g1, k1, g2, k2, A3, k3, rfl, rfl, rfl, ⟨b1, l1, p1, q1⟩, ⟨b2, l2, p2, q2⟩, p3, q3⟩ := h.open_ hi
 have H := Lib.hid h
 have HI := Lib.hid hi
 obtain ⟨hlen, hr1, hr2, hc1, hc2, HR, HCO, hr3, hr4, hc3, hc4, y0, y1, x0, x1, t0, t1, u1⟩ := pIn hi
 clear h hi
 have HT := Lib.hid hT
 obtain ⟨AP, kP, rfl, pP, qP⟩ := hl.form
 have HLI := Lib.hid hl
 clear hT hl
 have HTW : Hid (∀ x, T x → x < ((w.alloc (.cells (vS s (.slice (some ⟨g1, 0, none⟩) s.cells.length k1) (.slice (some ⟨g2, 0, none⟩) s.tabs.length k2) (.slice A3 s.other.length k3) (.slice A4 n4 k4) (.slice A5 n5 k5) (.slice A6 n6 k6)) 31)).alloc (.cells zQ 31)).heap.size) := fun x hx => Nat.lt_of_lt_of_le (HT.out x hx) (two_new w _ _).1.size
 have HLW := Lib.hid (HLI.out.keep (w' := (w.alloc (.cells (vS s (.slice (some ⟨g1, 0, none⟩) s.cells.length k1) (.slice (some ⟨g2, 0, none⟩) s.tabs.length k2) (.slice A3 s.other.length k3) (.slice A4 n4 k4) (.slice A5 n5 k5) (.slice A6 n6 k6)) 31)).alloc (.cells zQ 31)) (fun q hq => (two_new w _ _).1.cell (HT.out _ hq)))
 have HAT : Hid (attrB s.attr = true) := HI.out.attr
 have HK := Lib.hid (plook_any s.attr (.slice AP l.length kP) l T ((w.alloc (.cells (vS s (.slice (some ⟨g1, 0, none⟩) s.cells.length k1) (.slice (some ⟨g2, 0, none⟩) s.tabs.length k2) (.slice A3 s.other.length k3) (.slice A4 n4 k4) (.slice A5 n5 k5) (.slice A6 n6 k6)) 31)).alloc (.cells zQ 31)) HTW.out HLW.out hll HAT.out)
 obtain ⟨N9, hN9⟩ : ∃ N9 : Nat, (if l.length = 0 then 0 else l.foldl lookN s.attr) = N9 := ⟨_, rfl⟩
 rw [hN9] at HK ⊢
 clear hN9
 go_enter Tryz.func111, Tryz.ntmps111
 go_upto_region 30 with fail
 refine HK.out.mono ?_
 rintro e w4 ⟨rfl, b4⟩
 have e0 := (b4.block _ (by rw [(two_new w _ _).2]; omega)).trans (heap_a1 w (.cells (vS s (.slice (some ⟨g1, 0, none⟩) s.cells.length k1) (.slice (some ⟨g2, 0, none⟩) s.tabs.length k2) (.slice A3 s.other.length k3) (.slice A4 n4 k4) (.slice A5 n5 k5) (.slice A6 n6 k6)) 31) (.cells zQ 31))
 have e1 := (b4.block _ (by rw [(two_new w _ _).2]; omega)).trans (heap_a2 w (.cells (vS s (.slice (some ⟨g1, 0, none⟩) s.cells.length k1) (.slice (some ⟨g2, 0, none⟩) s.tabs.length k2) (.slice A3 s.other.length k3) (.slice A4 n4 k4) (.slice A5 n5 k5) (.slice A6 n6 k6)) 31) (.cells zQ 31))
 obtain ⟨c6, f6⟩ := cellR e0 6 rfl
 have E0 := Lib.hid e0
 have E1 := Lib.hid e1
 have B4 := Lib.hid ((two_new w (.cells (vS s (.slice (some ⟨g1, 0, none⟩) s.cells.length k1) (.slice (some ⟨g2, 0, none⟩) s.tabs.length k2) (.slice A3 s.other.length k3) (.slice A4 n4 k4) (.slice A5 n5 k5) (.slice A6 n6 k6)) 31) (.cells zQ 31)).1.trans (b4.mono (two_new w (.cells (vS s (.slice (some ⟨g1, 0, none⟩) s.cells.length k1) (.slice (some ⟨g2, 0, none⟩) s.tabs.length k2) (.slice A3 s.other.length k3) (.slice A4 n4 k4) (.slice A5 n5 k5) (.slice A6 n6 k6)) 31) (.cells zQ 31)).1.size))
 clear e0 e1 b4
 rename_i K hK
 refine hK _ _ ?_
 clear hK K
 go_upto_region 30 with fail
 refine wp_region_lit ?_
 refine wpl_loadS rfl (.tmp 3) rfl rfl ((heap_setCell_same _ _ 6 _ _ _ E0.out).trans rfl) rfl ?_
 refine wpl_storeS rfl (.tmp 6) (.tmp 63) rfl rfl rfl ((heap_setCell_other _ _ _ _ (by simp)).trans E1.out) rfl rfl (all24 rfl rfl rfl rfl rfl rfl rfl rfl rfl rfl rfl rfl rfl rfl rfl rfl rfl rfl rfl rfl rfl rfl rfl rfl) ?_
 go_wp2
 refine psEnd0 (w.heap.size + 1) 6 Tryz.results111 ?_ ?_ ((heap_setCell_other _ _ _ _ (by simp)).trans E1.out) (by omega) (B4.out.setCell (by simp) _) sl3 H.out ?_ ?_ ?_
 all_goals rfl
theorem pusual_no (s : Sc) (r c : Nat) (vc vt vo : Value) (A4 A5 A6 : Option Addr) (n4 n5 n6 k4 k5 k6 : Nat) (base : Nat) (w : World) (hbase : base ≤ w.heap.size) (h : PsL w base vc vt vo s) (hi : ScIn { s with wrap := false } r c) (vp : Value) (l : List Int) (T : Nat → Prop) (hT : ∀ x, T x → x < w.heap.size) (hl : SL vI w T vp l) (hll : l.length ≤ 1048576) (b : Nat) (q64 : b ≠ 64) (q65 : b ≠ 65) (q66 : b ≠ 66) (q67 : b ≠ 67) (q68 : b ≠ 68) (q71 : b ≠ 71) (q72 : b ≠ 72) (q74 : b ≠ 74) (q75 : b ≠ 75) (q76 : b ≠ 76) (q77 : b ≠ 77) (q80 : b ≠ 80) (q83 : b ≠ 83) (q84 : b ≠ 84) (q88 : b ≠ 88) (q96 : b ≠ 96) (q100 : b ≠ 100) (q102 : b ≠ 102) (q103 : b ≠ 103) (q109 : b ≠ 109) (q114 : b ≠ 114) :
  Calls Tryz.prog 111 #[.agg (vS s vc vt vo (.slice A4 n4 k4) (.slice A5 n5 k5) (.slice A6 n6 k6)), vp, .int .u8 (b : Int)] w (PsPost base vc vt vo (s) w) := by
 have H0 := Lib.hid (show ∀ x, OwB vc vt vo x → x < w.heap.size from fun x hx => (h.lt x hx).2)
 obtain ⟨g1, k1, g2, k2, A3, k3, rfl, rfl, rfl, ⟨b1, l1, p1, q1⟩, ⟨b2, l2, p2, q2⟩, p3, q3⟩ := h.open_ hi
 have H := Lib.hid h
 have HI := Lib.hid hi
 obtain ⟨hlen, hr1, hr2, hc1, hc2, HR, HCO, hr3, hr4, hc3, hc4, y0, y1, x0, x1, t0, t1, u1⟩ := pIn hi
 clear h hi
 have HT := Lib.hid hT
 obtain ⟨AP, kP, rfl, pP, qP⟩ := hl.form
 have HLI := Lib.hid hl
 clear hT hl
 have g64 : ((b : Int) == 64) = false := by simp; omega
 have g65 : ((b : Int) == 65) = false := by simp; omega
 have g66 : ((b : Int) == 66) = false := by simp; omega
 have g67 : ((b : Int) == 67) = false := by simp; omega
 have g68 : ((b : Int) == 68) = false := by simp; omega
 have g71 : ((b : Int) == 71) = false := by simp; omega
 have g72 : ((b : Int) == 72) = false := by simp; omega
 have g74 : ((b : Int) == 74) = false := by simp; omega
 have g75 : ((b : Int) == 75) = false := by simp; omega
 have g76 : ((b : Int) == 76) = false := by simp; omega
 have g77 : ((b : Int) == 77) = false := by simp; omega
 have g80 : ((b : Int) == 80) = false := by simp; omega
 have g83 : ((b : Int) == 83) = false := by simp; omega
 have g84 : ((b : Int) == 84) = false := by simp; omega
 have g88 : ((b : Int) == 88) = false := by simp; omega
 have g96 : ((b : Int) == 96) = false := by simp; omega
 have g100 : ((b : Int) == 100) = false := by simp; omega
 have g102 : ((b : Int) == 102) = false := by simp; omega
 have g103 : ((b : Int) == 103) = false := by simp; omega
 have g109 : ((b : Int) == 109) = false := by simp; omega
 have g114 : ((b : Int) == 114) = false := by simp; omega
 clear q64 q65 q66 q67 q68 q71 q72 q74 q75 q76 q77 q80 q83 q84 q88 q96 q100 q102 q103 q109 q114
 go_enter Tryz.func111, Tryz.ntmps111
 go_upto_region 30 with fail
 refine wp_region_lit ?_
 refine wpl_loadS rfl (.tmp 3) rfl rfl (heap_a1 w _ _) rfl ?_
 refine wpl_storeS rfl (.tmp 6) (.tmp 63) rfl rfl rfl (heap_a2 w _ _) rfl rfl (all24 rfl rfl rfl rfl rfl rfl rfl rfl rfl rfl rfl rfl rfl rfl rfl rfl rfl rfl rfl rfl rfl rfl rfl rfl) ?_
 go_wp2
 refine psEnd0 (w.heap.size + 1) 6 Tryz.results111 ?_ ?_ (heap_a2 w _ _) (by omega) (two_new w _ _).1 sl3 H.out ?_ ?_ ?_
 all_goals rfl
theorem pusual_any (s : Sc) (r c : Nat) (vc vt vo : Value) (A4 A5 A6 : Option Addr) (n4 n5 n6 k4 k5 k6 : Nat) (base : Nat) (w : World) (hbase : base ≤ w.heap.size) (h : PsL w base vc vt vo s) (hi : ScIn { s with wrap := false } r c) (vp : Value) (l : List Int) (T : Nat → Prop) (hT : ∀ x, T x → x < w.heap.size) (hl : SL vI w T vp l) (hll : l.length ≤ 1048576) (hw : Whole s.cells r c) (h0 : ∀ x ∈ l, 0 ≤ x) (b : Nat) :
  Calls Tryz.prog 111 #[.agg (vS s vc vt vo (.slice A4 n4 k4) (.slice A5 n5 k5) (.slice A6 n6 k6)), vp, .int .u8 (b : Int)] w (PsPost base vc vt vo (seqS s b l) w) := by
 by_cases q65 : b = 65
 ·subst q65
  rw [show seqS s 65 l = (toS s (s.y - paramL l 0 1) (s.x)) from rfl]
  exact pusual_65 s r c vc vt vo A4 A5 A6 n4 n5 n6 k4 k5 k6 base w hbase h hi vp l T hT hl hll hw h0
 by_cases q66 : b = 66
 ·subst q66
  rw [show seqS s 66 l = (toS s (s.y + paramL l 0 1) (s.x)) from rfl]
  exact pusual_66 s r c vc vt vo A4 A5 A6 n4 n5 n6 k4 k5 k6 base w hbase h hi vp l T hT hl hll hw h0
 by_cases q67 : b = 67
 ·subst q67
  rw [show seqS s 67 l = (toS s (s.y) (s.x + paramL l 0 1)) from rfl]
  exact pusual_67 s r c vc vt vo A4 A5 A6 n4 n5 n6 k4 k5 k6 base w hbase h hi vp l T hT hl hll hw h0
 by_cases q68 : b = 68
 ·subst q68
  rw [show seqS s 68 l = (toS s (s.y) (s.x - paramL l 0 1)) from rfl]
  exact pusual_68 s r c vc vt vo A4 A5 A6 n4 n5 n6 k4 k5 k6 base w hbase h hi vp l T hT hl hll hw h0
 by_cases q71 : b = 71
 ·subst q71
  rw [show seqS s 71 l = (toS s (s.y) (paramL l 0 1 - 1)) from rfl]
  exact pusual_71 s r c vc vt vo A4 A5 A6 n4 n5 n6 k4 k5 k6 base w hbase h hi vp l T hT hl hll hw h0
 by_cases q96 : b = 96
 ·subst q96
  rw [show seqS s 96 l = (toS s (s.y) (paramL l 0 1 - 1)) from rfl]
  exact pusual_96 s r c vc vt vo A4 A5 A6 n4 n5 n6 k4 k5 k6 base w hbase h hi vp l T hT hl hll hw h0
 by_cases q100 : b = 100
 ·subst q100
  rw [show seqS s 100 l = (toS s (paramL l 0 1 - 1) (s.x)) from rfl]
  exact pusual_100 s r c vc vt vo A4 A5 A6 n4 n5 n6 k4 k5 k6 base w hbase h hi vp l T hT hl hll hw h0
 by_cases q72 : b = 72
 ·subst q72
  rw [show seqS s 72 l = (toS s (paramL l 0 1 - 1) (paramL l 1 1 - 1)) from rfl]
  exact pusual_72 s r c vc vt vo A4 A5 A6 n4 n5 n6 k4 k5 k6 base w hbase h hi vp l T hT hl hll hw h0
 by_cases q102 : b = 102
 ·subst q102
  rw [show seqS s 102 l = (toS s (paramL l 0 1 - 1) (paramL l 1 1 - 1)) from rfl]
  exact pusual_102 s r c vc vt vo A4 A5 A6 n4 n5 n6 k4 k5 k6 base w hbase h hi vp l T hT hl hll hw h0
 by_cases q74 : b = 74
 ·subst q74
  rw [show seqS s 74 l = (eraseS s false (paramL l 0 0)) from rfl]
  exact pusual_74 s r c vc vt vo A4 A5 A6 n4 n5 n6 k4 k5 k6 base w hbase h hi vp l T hT hl hll hw h0
 by_cases q75 : b = 75
 ·subst q75
  rw [show seqS s 75 l = (eraseS s true (paramL l 0 0)) from rfl]
  exact pusual_75 s r c vc vt vo A4 A5 A6 n4 n5 n6 k4 k5 k6 base w hbase h hi vp l T hT hl hll hw h0
 by_cases q88 : b = 88
 ·subst q88
  rw [show seqS s 88 l = ({ s with cells := eraseL s.cells s.cols s.y s.x (s.x + paramL l 0 1), wrap := false }) from rfl]
  exact pusual_88 s r c vc vt vo A4 A5 A6 n4 n5 n6 k4 k5 k6 base w hbase h hi vp l T hT hl hll hw h0
 by_cases q76 : b = 76
 ·subst q76
  rw [show seqS s 76 l = (if s.top ≤ s.y ∧ s.y ≤ s.bottom then { s with wrap := false, x := 0, cells := downL s.cells s.cols s.y s.bottom (paramL l 0 1) } else { s with wrap := false }) from rfl]
  exact pusual_76 s r c vc vt vo A4 A5 A6 n4 n5 n6 k4 k5 k6 base w hbase h hi vp l T hT hl hll hw h0
 by_cases q77 : b = 77
 ·subst q77
  rw [show seqS s 77 l = (if s.top ≤ s.y ∧ s.y ≤ s.bottom then { s with wrap := false, x := 0, cells := upL s.cells s.cols s.y s.bottom (paramL l 0 1) } else { s with wrap := false }) from rfl]
  exact pusual_77 s r c vc vt vo A4 A5 A6 n4 n5 n6 k4 k5 k6 base w hbase h hi vp l T hT hl hll hw h0
 by_cases q83 : b = 83
 ·subst q83
  rw [show seqS s 83 l = ({ s with cells := upL s.cells s.cols s.top s.bottom (paramL l 0 1), wrap := false }) from rfl]
  exact pusual_83 s r c vc vt vo A4 A5 A6 n4 n5 n6 k4 k5 k6 base w hbase h hi vp l T hT hl hll hw h0
 by_cases q84 : b = 84
 ·subst q84
  rw [show seqS s 84 l = ({ s with cells := downL s.cells s.cols s.top s.bottom (paramL l 0 1), wrap := false }) from rfl]
  exact pusual_84 s r c vc vt vo A4 A5 A6 n4 n5 n6 k4 k5 k6 base w hbase h hi vp l T hT hl hll hw h0
 by_cases q64 : b = 64
 ·subst q64
  rw [show seqS s 64 l = ({ s with cells := insertL s.cells s.cols s.y s.x (paramL l 0 1), wrap := false }) from rfl]
  exact pusual_64 s r c vc vt vo A4 A5 A6 n4 n5 n6 k4 k5 k6 base w hbase h hi vp l T hT hl hll hw h0
 by_cases q80 : b = 80
 ·subst q80
  rw [show seqS s 80 l = ({ s with cells := deleteL s.cells s.cols s.y s.x (paramL l 0 1), wrap := false }) from rfl]
  exact pusual_80 s r c vc vt vo A4 A5 A6 n4 n5 n6 k4 k5 k6 base w hbase h hi vp l T hT hl hll hw h0
 by_cases q114 : b = 114
 ·subst q114
  rw [show seqS s 114 l = (if paramL l 0 1 - 1 < min (paramL l 1 s.rows) s.rows - 1 then { toS s 0 0 with top := paramL l 0 1 - 1, bottom := min (paramL l 1 s.rows) s.rows - 1 } else s) from rfl]
  exact pusual_114 s r c vc vt vo A4 A5 A6 n4 n5 n6 k4 k5 k6 base w hbase h hi vp l T hT hl hll hw h0
 by_cases q103 : b = 103
 ·subst q103
  rw [show seqS s 103 l = (if paramL l 0 0 = 0 then { s with tabs := s.tabs.set s.x.toNat false } else if paramL l 0 0 = 3 then { s with tabs := List.replicate s.cols.toNat false } else s) from rfl]
  exact pusual_103 s r c vc vt vo A4 A5 A6 n4 n5 n6 k4 k5 k6 base w hbase h hi vp l T hT hl hll hw h0
 by_cases q109 : b = 109
 ·subst q109
  rw [show seqS s 109 l = ({ s with attr := if l.length = 0 then 0 else l.foldl lookN s.attr }) from rfl]
  exact pusual_109 s r c vc vt vo A4 A5 A6 n4 n5 n6 k4 k5 k6 base w hbase h hi vp l T hT hl hll hw h0
 rw [show seqS s b l = s by
  unfold seqS
  simp only []
  rw [if_neg q65, if_neg q66, if_neg q67, if_neg q68, if_neg (fun h => h.elim q71 q96), if_neg q100, if_neg (fun h => h.elim q72 q102), if_neg q74, if_neg q75, if_neg q76, if_neg q77, if_neg q64, if_neg q80, if_neg q88, if_neg q83, if_neg q84, if_neg q114, if_neg q103, if_neg q109]]
 exact pusual_no s r c vc vt vo A4 A5 A6 n4 n5 n6 k4 k5 k6 base w hbase h hi vp l T hT hl hll b q64 q65 q66 q67 q68 q71 q72 q74 q75 q76 q77 q80 q83 q84 q88 q96 q100 q102 q103 q109 q114
end Go.Proofs.YtlolgfgcgfjdjaaGreatDoor

namespace Go.Proofs.YtlolgfgcgfjdjaaGreatDoor
open Go.RowKit
set_option linter.unusedVariables false
set_option linter.unusedSimpArgs false
set_option maxHeartbeats 2000000
set_option maxRecDepth 100000
theorem pother_same (s : Sc) (r c : Nat) (vc vt vo : Value) (A4 A5 A6 : Option Addr) (n4 n5 n6 k4 k5 k6 : Nat) (base : Nat) (w : World) (hbase : base ≤ w.heap.size) (h : PsL w base vc vt vo s) (hi : ScIn { s with wrap := false } r c) (on : Bool) (hb : on = s.alt) :
  Calls Tryz.prog 150 #[.agg (vS s vc vt vo (.slice A4 n4 k4) (.slice A5 n5 k5) (.slice A6 n6 k6)), .bool on] w (PsPost base vc vt vo (s) w) := by
 obtain ⟨g1, k1, g2, k2, A3, k3, rfl, rfl, rfl, ⟨b1, l1, p1, q1⟩, ⟨b2, l2, p2, q2⟩, p3, q3⟩ := h.open_ hi
 have H := Lib.hid h
 have HI := Lib.hid hi
 obtain ⟨hlen, hr1, hr2, hc1, hc2, HR, HCO, hr3, hr4, hc3, hc4, y0, y1, x0, x1, t0, t1, u1⟩ := pIn hi
 clear h hi
 subst hb
 have e1 : (s.alt == s.alt) = true := by simp
 go_enter Tryz.func150, Tryz.ntmps150
 go_upto_region 2 with fail
 refine wp_region_lit ?_
 refine wpl_loadS rfl (.tmp 2) rfl rfl (heap_a1 w _ _) rfl ?_
 refine wpl_storeS rfl (.tmp 4) (.tmp 9) rfl rfl rfl (heap_a2 w _ _) rfl rfl (all24 rfl rfl rfl rfl rfl rfl rfl rfl rfl rfl rfl rfl rfl rfl rfl rfl rfl rfl rfl rfl rfl rfl rfl rfl) ?_
 go_wp2
 refine psEnd0 (w.heap.size + 1) 4 Tryz.results150 ?_ ?_ (heap_a2 w _ _) (by omega) (two_new w _ _).1 sl3 H.out ?_ ?_ ?_
 all_goals rfl
theorem pother_on (s : Sc) (r c : Nat) (vc vt vo : Value) (A4 A5 A6 : Option Addr) (n4 n5 n6 k4 k5 k6 : Nat) (base : Nat) (w : World) (hbase : base ≤ w.heap.size) (h : PsL w base vc vt vo s) (hi : ScIn { s with wrap := false } r c) (ha : s.alt = false) :
  Calls Tryz.prog 150 #[.agg (vS s vc vt vo (.slice A4 n4 k4) (.slice A5 n5 k5) (.slice A6 n6 k6)), .bool true] w (PsPost base vc vt vo ({ s with other := s.cells, oy := s.y, ox := s.x, alt := true, wrap := false, cells := blankL s.rows s.cols }) w) := by
 obtain ⟨g1, k1, g2, k2, A3, k3, rfl, rfl, rfl, ⟨b1, l1, p1, q1⟩, ⟨b2, l2, p2, q2⟩, p3, q3⟩ := h.open_ hi
 have H := Lib.hid h
 have HI := Lib.hid hi
 obtain ⟨hlen, hr1, hr2, hc1, hc2, HR, HCO, hr3, hr4, hc3, hc4, y0, y1, x0, x1, t0, t1, u1⟩ := pIn hi
 clear h hi
 have hq : (true == s.alt) = false := by rw [ha]; rfl
 have HA := Lib.hid ha
 clear ha
 go_enter Tryz.func150, Tryz.ntmps150
 go_upto_region 6 with fail
 have K0 : Hid (((w.alloc (.cells #[.int .i64 s.rows, .int .i64 s.cols, .slice (some ⟨g1, 0, none⟩) s.cells.length k1, .int .i64 s.y, .int .i64 s.x, .bool false, .int .u16 (s.attr : Int), .int .i64 s.top, .int .i64 s.bottom, .slice (some ⟨g2, 0, none⟩) s.tabs.length k2, .int .i64 s.sy, .int .i64 s.sx, .int .u16 (s.sattr : Int), .bool s.auto, .bool s.shown, .bool true, .slice (some ⟨g1, 0, none⟩) s.cells.length k1, .int .i64 s.y, .int .i64 s.x, .int .i64 (s.p.mode : Int), .int .u8 (s.p.priv : Int), .slice A4 n4 k4, .slice A5 n5 k5, .slice A6 n6 k6] 31)).alloc (.cells zQ 31)).heap[w.heap.size]? = some (.cells (vS { s with other := s.cells, oy := s.y, ox := s.x, alt := true, wrap := false } (.slice (some ⟨g1, 0, none⟩) s.cells.length k1) (.slice (some ⟨g2, 0, none⟩) s.tabs.length k2) (.slice (some ⟨g1, 0, none⟩) s.cells.length k1) (.slice A4 n4 k4) (.slice A5 n5 k5) (.slice A6 n6 k6)) 31)) := heap_a1 w _ _
 have K1 : Hid (((w.alloc (.cells #[.int .i64 s.rows, .int .i64 s.cols, .slice (some ⟨g1, 0, none⟩) s.cells.length k1, .int .i64 s.y, .int .i64 s.x, .bool false, .int .u16 (s.attr : Int), .int .i64 s.top, .int .i64 s.bottom, .slice (some ⟨g2, 0, none⟩) s.tabs.length k2, .int .i64 s.sy, .int .i64 s.sx, .int .u16 (s.sattr : Int), .bool s.auto, .bool s.shown, .bool true, .slice (some ⟨g1, 0, none⟩) s.cells.length k1, .int .i64 s.y, .int .i64 s.x, .int .i64 (s.p.mode : Int), .int .u8 (s.p.priv : Int), .slice A4 n4 k4, .slice A5 n5 k5, .slice A6 n6 k6] 31)).alloc (.cells zQ 31)).heap[w.heap.size + 1]? = some (.cells zQ 31)) := heap_a2 w _ _
 have B5 : Hid (Below w.heap.size w ((w.alloc (.cells #[.int .i64 s.rows, .int .i64 s.cols, .slice (some ⟨g1, 0, none⟩) s.cells.length k1, .int .i64 s.y, .int .i64 s.x, .bool false, .int .u16 (s.attr : Int), .int .i64 s.top, .int .i64 s.bottom, .slice (some ⟨g2, 0, none⟩) s.tabs.length k2, .int .i64 s.sy, .int .i64 s.sx, .int .u16 (s.sattr : Int), .bool s.auto, .bool s.shown, .bool true, .slice (some ⟨g1, 0, none⟩) s.cells.length k1, .int .i64 s.y, .int .i64 s.x, .int .i64 (s.p.mode : Int), .int .u8 (s.p.priv : Int), .slice A4 n4 k4, .slice A5 n5 k5, .slice A6 n6 k6] 31)).alloc (.cells zQ 31))) := (two_new w _ _).1
 have Z5 : Hid (((w.alloc (.cells #[.int .i64 s.rows, .int .i64 s.cols, .slice (some ⟨g1, 0, none⟩) s.cells.length k1, .int .i64 s.y, .int .i64 s.x, .bool false, .int .u16 (s.attr : Int), .int .i64 s.top, .int .i64 s.bottom, .slice (some ⟨g2, 0, none⟩) s.tabs.length k2, .int .i64 s.sy, .int .i64 s.sx, .int .u16 (s.sattr : Int), .bool s.auto, .bool s.shown, .bool true, .slice (some ⟨g1, 0, none⟩) s.cells.length k1, .int .i64 s.y, .int .i64 s.x, .int .i64 (s.p.mode : Int), .int .u8 (s.p.priv : Int), .slice A4 n4 k4, .slice A5 n5 k5, .slice A6 n6 k6] 31)).alloc (.cells zQ 31)).heap.size = w.heap.size + 1 + 1) := (two_new w _ _).2
 generalize World.alloc (World.alloc _ _) _ = W5 at K0 K1 B5 Z5 ⊢
 obtain ⟨d0, -⟩ := cellR (v := .int .i64 s.rows) K0.out 0 rfl
 obtain ⟨d1, -⟩ := cellR (v := .int .i64 s.cols) K0.out 1 rfl
 go_upto_region 7 with fail
 ((with_reducible refine (gblank_any _ _ _).mono ?_); rintro e w4 ⟨v4, rfl, o4, b4⟩)
 rw [Z5.out] at b4 o4
 have e0 := (b4.block _ (by omega)).trans K0.out
 have e1 := (b4.block _ (by omega)).trans K1.out
 obtain ⟨c2, f2⟩ := cellR (v := .slice (some ⟨g1, 0, none⟩) s.cells.length k1) e0 2 rfl
 obtain ⟨A7, k7, rfl, p7, q7⟩ := o4.cs.form
 have E0 := Lib.hid e0
 have E1 := Lib.hid e1
 have O4 := Lib.hid o4
 have B4 := Lib.hid (B5.out.trans (b4.mono (by omega)))
 clear e0 e1 o4 b4 d0 d1
 rename_i K hK
 refine hK _ _ ?_
 clear hK K
 go_upto_region 7 with fail
 refine wp_region_lit ?_
 refine wpl_loadS rfl (.tmp 2) rfl rfl ((heap_setCell_same _ _ 2 _ _ _ E0.out).trans rfl) rfl ?_
 refine wpl_storeS rfl (.tmp 4) (.tmp 29) rfl rfl rfl ((heap_setCell_other _ _ _ _ (by simp)).trans E1.out) rfl rfl (all24 rfl rfl rfl rfl rfl rfl rfl rfl rfl rfl rfl rfl rfl rfl rfl rfl rfl rfl rfl rfl rfl rfl rfl rfl) ?_
 go_wp2
 have hP4 := H.out.below B4.out
 have hP5 := hP4.set (p := ⟨w.heap.size, 2, none⟩) (H.out.far (Nat.le_refl _)) (.slice A7 (blankL s.rows s.cols).length k7)
 have hlt4 := World.ownsRow.lt O4.out
 refine psEnd (w.heap.size + 1) 4 Tryz.results150 ?_ ?_ ((heap_setCell_other _ _ _ _ (by simp)).trans E1.out) (by omega) (Fr.of (B4.out.setCell (by simp) _) _) sl3 ⟨OC.lower (own_keep O4.out (fun k e => heap_setCell_other _ _ _ _ (by have := (hlt4 k e).1; simp; omega))) (by omega), hP5.t, hP5.c, OC.ap_new H.out.c O4.out (by omega)⟩ ?_ ?_
 ·rfl
 ·rfl
 ·rintro (e | e | e)
  ·have := (hlt4 _ e).1; omega
  ·exact H.out.far (by omega) (.inr (.inl e))
  ·exact H.out.far (by omega) (.inl e)
 ·rintro x (e | e | e)
  ·exact .inr (by have := (hlt4 _ e).1; omega)
  ·exact .inl (.inr (.inl e))
  ·exact .inl (.inl e)
theorem pother_off (s : Sc) (r c : Nat) (vc vt vo : Value) (A4 A5 A6 : Option Addr) (n4 n5 n6 k4 k5 k6 : Nat) (base : Nat) (w : World) (hbase : base ≤ w.heap.size) (h : PsL w base vc vt vo s) (hi : ScIn { s with wrap := false } r c) (ha : s.alt = true) :
  Calls Tryz.prog 150 #[.agg (vS s vc vt vo (.slice A4 n4 k4) (.slice A5 n5 k5) (.slice A6 n6 k6)), .bool false] w (PsPost base vc vt vo ({ s with cells := s.other, y := s.oy, x := s.ox, alt := false, wrap := false, other := [], oy := 0, ox := 0 }) w) := by
 obtain ⟨g1, k1, g2, k2, A3, k3, rfl, rfl, rfl, ⟨b1, l1, p1, q1⟩, ⟨b2, l2, p2, q2⟩, p3, q3⟩ := h.open_ hi
 have H := Lib.hid h
 have HI := Lib.hid hi
 obtain ⟨hlen, hr1, hr2, hc1, hc2, HR, HCO, hr3, hr4, hc3, hc4, y0, y1, x0, x1, t0, t1, u1⟩ := pIn hi
 clear h hi
 have hq : (false == s.alt) = false := by rw [ha]; rfl
 have HA := Lib.hid ha
 clear ha
 go_enter Tryz.func150, Tryz.ntmps150
 go_upto_region 10 with fail
 have K0 : Hid (((w.alloc (.cells #[.int .i64 s.rows, .int .i64 s.cols, .slice A3 s.other.length k3, .int .i64 s.oy, .int .i64 s.ox, .bool false, .int .u16 (s.attr : Int), .int .i64 s.top, .int .i64 s.bottom, .slice (some ⟨g2, 0, none⟩) s.tabs.length k2, .int .i64 s.sy, .int .i64 s.sx, .int .u16 (s.sattr : Int), .bool s.auto, .bool s.shown, .bool false, .slice none 0 0, .int .i64 0, .int .i64 0, .int .i64 (s.p.mode : Int), .int .u8 (s.p.priv : Int), .slice A4 n4 k4, .slice A5 n5 k5, .slice A6 n6 k6] 31)).alloc (.cells zQ 31)).heap[w.heap.size]? = some (.cells (vS { s with y := s.oy, x := s.ox, alt := false, wrap := false, oy := 0, ox := 0 } (.slice A3 s.other.length k3) (.slice (some ⟨g2, 0, none⟩) s.tabs.length k2) (.slice none 0 0) (.slice A4 n4 k4) (.slice A5 n5 k5) (.slice A6 n6 k6)) 31)) := heap_a1 w _ _
 have K1 : Hid (((w.alloc (.cells #[.int .i64 s.rows, .int .i64 s.cols, .slice A3 s.other.length k3, .int .i64 s.oy, .int .i64 s.ox, .bool false, .int .u16 (s.attr : Int), .int .i64 s.top, .int .i64 s.bottom, .slice (some ⟨g2, 0, none⟩) s.tabs.length k2, .int .i64 s.sy, .int .i64 s.sx, .int .u16 (s.sattr : Int), .bool s.auto, .bool s.shown, .bool false, .slice none 0 0, .int .i64 0, .int .i64 0, .int .i64 (s.p.mode : Int), .int .u8 (s.p.priv : Int), .slice A4 n4 k4, .slice A5 n5 k5, .slice A6 n6 k6] 31)).alloc (.cells zQ 31)).heap[w.heap.size + 1]? = some (.cells zQ 31)) := heap_a2 w _ _
 have B5 : Hid (Below w.heap.size w ((w.alloc (.cells #[.int .i64 s.rows, .int .i64 s.cols, .slice A3 s.other.length k3, .int .i64 s.oy, .int .i64 s.ox, .bool false, .int .u16 (s.attr : Int), .int .i64 s.top, .int .i64 s.bottom, .slice (some ⟨g2, 0, none⟩) s.tabs.length k2, .int .i64 s.sy, .int .i64 s.sx, .int .u16 (s.sattr : Int), .bool s.auto, .bool s.shown, .bool false, .slice none 0 0, .int .i64 0, .int .i64 0, .int .i64 (s.p.mode : Int), .int .u8 (s.p.priv : Int), .slice A4 n4 k4, .slice A5 n5 k5, .slice A6 n6 k6] 31)).alloc (.cells zQ 31))) := (two_new w _ _).1
 generalize World.alloc (World.alloc _ _) _ = W5 at K0 K1 B5 ⊢
 refine wp_region_lit ?_
 refine wpl_loadS rfl (.tmp 2) rfl rfl K0.out rfl ?_
 refine wpl_storeS rfl (.tmp 4) (.tmp 42) rfl rfl rfl K1.out rfl rfl (all24 rfl rfl rfl rfl rfl rfl rfl rfl rfl rfl rfl rfl rfl rfl rfl rfl rfl rfl rfl rfl rfl rfl rfl rfl) ?_
 go_wp2
 have hP4 := H.out.below B5.out
 refine psEnd (w.heap.size + 1) 4 Tryz.results150 ?_ ?_ K1.out (by omega) (Fr.of B5.out _) sl3 ⟨hP4.o, hP4.t, OC.nil _ _, fun g _ e => by cases e⟩ ?_ ?_
 ·rfl
 ·rfl
 ·rintro (e | e | e)
  ·exact H.out.far (by omega) (.inr (.inr e))
  ·exact H.out.far (by omega) (.inr (.inl e))
  ·cases e
 ·rintro x (e | e | e)
  ·exact .inl (.inr (.inr e))
  ·exact .inl (.inr (.inl e))
  ·cases e
theorem pother_any (s : Sc) (r c : Nat) (vc vt vo : Value) (A4 A5 A6 : Option Addr) (n4 n5 n6 k4 k5 k6 : Nat) (base : Nat) (w : World) (hbase : base ≤ w.heap.size) (h : PsL w base vc vt vo s) (hi : ScIn { s with wrap := false } r c) (on : Bool) : Calls Tryz.prog 150 #[.agg (vS s vc vt vo (.slice A4 n4 k4) (.slice A5 n5 k5) (.slice A6 n6 k6)), .bool on] w (PsPost base vc vt vo (modeS s 1049 on) w) := by
 have ARG := pother_same s r c vc vt vo A4 A5 A6 n4 n5 n6 k4 k5 k6 base w hbase h hi on
 cases on with
 | true =>
  cases ha : s.alt with
  | true =>
   rw [show modeS s 1049 true = s by unfold modeS; rw [if_neg (by decide), if_neg (by decide), if_neg (by rw [ha]; simp), if_neg (by simp)]]
   exact ARG ha.symm
  | false =>
   rw [show modeS s 1049 true = { s with other := s.cells, oy := s.y, ox := s.x, alt := true, wrap := false, cells := blankL s.rows s.cols } by unfold modeS; rw [if_neg (by decide), if_neg (by decide), if_pos ⟨rfl, rfl, ha⟩]]
   exact pother_on s r c vc vt vo A4 A5 A6 n4 n5 n6 k4 k5 k6 base w hbase h hi ha
 | false =>
  cases ha : s.alt with
  | false =>
   rw [show modeS s 1049 false = s by unfold modeS; rw [if_neg (by decide), if_neg (by decide), if_neg (by simp), if_neg (by rw [ha]; simp)]]
   exact ARG ha.symm
  | true =>
   rw [show modeS s 1049 false = { s with cells := s.other, y := s.oy, x := s.ox, alt := false, wrap := false, other := [], oy := 0, ox := 0 } by unfold modeS; rw [if_neg (by decide), if_neg (by decide), if_neg (by simp), if_pos ⟨rfl, rfl, ha⟩]]
   exact pother_off s r c vc vt vo A4 A5 A6 n4 n5 n6 k4 k5 k6 base w hbase h hi ha
theorem modeS_i {s : Sc} {r c : Nat} (h : ScIn { s with wrap := false } r c) (k : Int) (on : Bool) : ScIn { modeS s k on with wrap := false } r c := by
 have h1 := (modeS_in h k on).noWrap
 have e : { modeS { s with wrap := false } k on with wrap := false } = { modeS s k on with wrap := false } := by
  unfold modeS
  split
  ·rfl
  ·split
   ·rfl
   ·split
    ·rfl
    ·split <;> rfl
 rw [e] at h1
 exact h1
theorem foldl_mode_i {r c : Nat} (l : List Int) (on : Bool) : ∀ s : Sc, ScIn { s with wrap := false } r c → ScIn { l.foldl (fun s k => modeS s k on) s with wrap := false } r c := by
 induction l with
 | nil => exact fun s h => h
 | cons k l ih => exact fun s h => ih _ (modeS_i h k on)
theorem PutAt.fld {w W : World} {base : Nat} {vc vt vo : Value} {r c : Nat} {Z : Obj} {s s' : Sc} {g1 k1 g2 k2 : Nat} {A3 : Option Addr} {k3 : Nat} {up ui uu : Value} (h : PutAt w base vc vt vo r c Z s g1 k1 g2 k2 A3 k3 up ui uu W) (h0 : ∀ x, OwB vc vt vo x → x < w.heap.size) (k : Nat) (v : Value)
  (hv : (vS s (.slice (some ⟨g1, 0, none⟩) s.cells.length k1) (.slice (some ⟨g2, 0, none⟩) s.tabs.length k2) (.slice A3 s.other.length k3) up ui uu).setIfInBounds k v = vS s' (.slice (some ⟨g1, 0, none⟩) s.cells.length k1) (.slice (some ⟨g2, 0, none⟩) s.tabs.length k2) (.slice A3 s.other.length k3) up ui uu)
  (e1 : s'.cells = s.cells) (e2 : s'.tabs = s.tabs) (e3 : s'.other = s.other) (hi : ScIn { s' with wrap := false } r c) : PutAt w base vc vt vo r c Z s' g1 k1 g2 k2 A3 k3 up ui uu (W.setCell ⟨w.heap.size, k, none⟩ v) := by
 refine ⟨?_, (heap_setCell_other _ _ _ _ (by simp)).trans h.z, ?_, h.f.setCell (.inr (Nat.le_refl _)) _, by simp; exact h.n, by rw [e1, e2, e3]; exact h.sub, hi, h.sl⟩
 ·rw [heap_setCell_same _ _ k _ _ _ h.v, hv, e1, e2, e3]
 ·rw [e1, e2, e3]
  exact (h.p.set (h.far h0).1 _).like e1 e2 e3
def PvRel (s : Sc) (l : List Int) (on : Bool) (r c : Nat) (vc vt vo : Value) (Z : Obj) (base : Nat) (w : World) (i : Value) (wr : World) : Prop :=
 ∃ j : Nat, j ≤ l.length ∧ i = .int .i64 (j : Int) ∧ ∃ g1 k1 g2 k2 A3 k3 A4 n4 k4 A5 n5 k5 A6 n6 k6, PutAt w base vc vt vo r c Z ((l.take j).foldl (fun s k => modeS s k on) s) g1 k1 g2 k2 A3 k3 (.slice A4 n4 k4) (.slice A5 n5 k5) (.slice A6 n6 k6) wr
theorem pprivate_104 (s : Sc) (r c : Nat) (vc vt vo : Value) (A4 A5 A6 : Option Addr) (n4 n5 n6 k4 k5 k6 : Nat) (base : Nat) (w : World) (hbase : base ≤ w.heap.size) (h : PsL w base vc vt vo s) (hi : ScIn { s with wrap := false } r c) (vp : Value) (l : List Int) (T : Nat → Prop) (hT : ∀ x, T x → x < w.heap.size) (hl : SL vI w T vp l) (hll : l.length ≤ 1048576) (hTn : ∀ x, T x → ¬ OwB vc vt vo x) :
  Calls Tryz.prog 112 #[.agg (vS s vc vt vo (.slice A4 n4 k4) (.slice A5 n5 k5) (.slice A6 n6 k6)), vp, .int .u8 104] w (PsPost base vc vt vo (l.foldl (fun s k => modeS s k true) s) w) := by
 have H0 := Lib.hid (show ∀ x, OwB vc vt vo x → x < w.heap.size from fun x hx => (h.lt x hx).2)
 have HTN := Lib.hid hTn
 clear hTn
 obtain ⟨g1, k1, g2, k2, A3, k3, rfl, rfl, rfl, ⟨b1, l1, p1, q1⟩, ⟨b2, l2, p2, q2⟩, p3, q3⟩ := h.open_ hi
 have H := Lib.hid h
 have HI := Lib.hid hi
 obtain ⟨hlen, hr1, hr2, hc1, hc2, HR, HCO, hr3, hr4, hc3, hc4, y0, y1, x0, x1, t0, t1, u1⟩ := pIn hi
 clear h hi
 have HT := Lib.hid hT
 obtain ⟨AP, kP, rfl, pP, qP⟩ := hl.form
 have HLI := Lib.hid hl
 clear hT hl
 have h2w := two_new w (.cells (vS s (.slice (some ⟨g1, 0, none⟩) s.cells.length k1) (.slice (some ⟨g2, 0, none⟩) s.tabs.length k2) (.slice A3 s.other.length k3) (.slice A4 n4 k4) (.slice A5 n5 k5) (.slice A6 n6 k6)) 31) (.cells zQ 31)
 have HS : Hid (PutAt w base _ _ _ r c (.cells zQ 31) s g1 k1 g2 k2 A3 k3 (.slice A4 n4 k4) (.slice A5 n5 k5) (.slice A6 n6 k6) ((w.alloc (.cells (vS s (.slice (some ⟨g1, 0, none⟩) s.cells.length k1) (.slice (some ⟨g2, 0, none⟩) s.tabs.length k2) (.slice A3 s.other.length k3) (.slice A4 n4 k4) (.slice A5 n5 k5) (.slice A6 n6 k6)) 31)).alloc (.cells zQ 31))) :=
  ⟨heap_a1 w _ _, heap_a2 w _ _, (H.out.alloc _).alloc _, Fr.of h2w.1 _, by simp, fun x hx => .inl hx, HI.out, sl3⟩
 clear h2w
 go_enter Tryz.func112, Tryz.ntmps112
 go_wp2
 go_loopw [21] (fun i wr => PvRel s l true r c _ _ _ (.cells zQ 31) base w i wr) (fun i _ => l.length - (intOf i).toNat)
 case atStart => exact ⟨0, Nat.zero_le _, rfl, _, _, _, _, _, _, _, _, _, _, _, _, _, _, _, HS.out⟩
 case round =>
  clear HS
  obtain ⟨j, hj, rfl, ga, ka, gb, kb, Aa, kc, B4, m4, j4, B5, m5, j5, B6, m6, j6, hs⟩ := hrel
  have HS := Lib.hid hs
  have hn := hs.n
  clear hs
  have hii := foldl_mode_i (l.take j) true s HI.out
  by_cases hlt : j < l.length
  ·obtain ⟨x, hx⟩ : ∃ x, l[j]? = some x := ⟨_, List.getElem?_eq_getElem hlt⟩
   have hlw : SL vI wr T (.slice AP l.length kP) l := HLI.out.keep (fun q hq => World.cell?_of_block (HS.out.f.block _ (HT.out _ hq) (HTN.out _ hq)))
   obtain ⟨ad, hA, -, e1⟩ := hlw.getI j x hx
   subst hA
   have hnx : (l.take (j + 1)).foldl (fun s k => modeS s k true) s = modeS ((l.take j).foldl (fun s k => modeS s k true) s) x true := by
    rw [List.take_add_one, hx, List.foldl_append]
    rfl
   have hji : (j : Int) < (l.length : Int) := by omega
   generalize (l.take j).foldl (fun s k => modeS s k true) s = sj at *
   have HN := Lib.hid hnx
   have HII := Lib.hid hii
   have HJ := Lib.hid hlt
   clear hlw hx hnx hii
   by_cases h7 : x = 7
   ·subst h7
    obtain ⟨d13, f13⟩ := cellR (v := .bool sj.auto) HS.out.v 13 rfl
    have HS2 := Lib.hid (HS.out.fld (s' := { sj with auto := true }) H0.out 13 (.bool true) rfl rfl rfl rfl (modeS_i HII.out 7 true))
    go_wp2_with fail
    go_roundw
    case rel => exact ⟨j + 1, HJ.out, by go_num, _, _, _, _, _, _, _, _, _, _, _, _, _, _, _, by rw [HN.out]; exact HS2.out⟩
    case measure => simp [intOf]; omega
   have n7 : (x == 7) = false := by simpa using h7
   by_cases h25 : x = 25
   ·subst h25
    obtain ⟨d14, f14⟩ := cellR (v := .bool sj.shown) HS.out.v 14 rfl
    have HS2 := Lib.hid (HS.out.fld (s' := { sj with shown := true }) H0.out 14 (.bool true) rfl rfl rfl rfl (modeS_i HII.out 25 true))
    clear h7
    go_wp2_with fail
    go_roundw
    case rel => exact ⟨j + 1, HJ.out, by go_num, _, _, _, _, _, _, _, _, _, _, _, _, _, _, _, by rw [HN.out]; exact HS2.out⟩
    case measure => simp [intOf]; omega
   have n25 : (x == 25) = false := by simpa using h25
   by_cases h49 : x = 1049
   ·subst h49
    clear h7 h25
    go_upto_region 13 with fail
    refine wp_region_lit ?_
    refine wpl_loadS rfl (.tmp 3) rfl rfl HS.out.v rfl ?_
    go_wp2_with fail
    ((with_reducible refine (pother_any sj r c _ _ _ B4 B5 B6 m4 m5 m6 j4 j5 j6 base _ (by omega) HS.out.p HS.out.i true).mono ?_); rintro e w4 ⟨uc, ut, uo, up, ui, uu, rfl, hsl, hs4, hf4, hsub4⟩)
    have f1 := hf4.var HS.out.v (HS.out.far H0.out).1
    rename_i K hK
    refine hK _ _ ?_
    clear hK K
    refine wpl_storeS rfl (.tmp 3) (.tmp 38) rfl rfl rfl f1 rfl rfl (hs4.one hsl) ?_
    obtain ⟨ga', ka', gb', kb', Aa', kc', rfl, rfl, rfl, hS2⟩ := HS.out.next H0.out (modeS_i HII.out 1049 true) hsl hs4 hf4 hsub4
    obtain ⟨⟨A4', n4', k4', rfl⟩, ⟨A5', n5', k5', rfl⟩, ⟨A6', n6', k6', rfl⟩⟩ := hsl
    generalize World.setRow w4 w.heap.size _ = W2 at hS2 ⊢
    have HS2 := Lib.hid hS2
    clear hs4 hf4 hsub4 f1 hS2
    go_wp2_with fail
    go_roundw
    case rel => exact ⟨j + 1, HJ.out, by go_num, _, _, _, _, _, _, _, _, _, _, _, _, _, _, _, by rw [HN.out]; exact HS2.out⟩
    case measure => simp [intOf]; omega
   have n49 : (x == 1049) = false := by simpa using h49
   have HM : Hid (modeS sj x true = sj) := (by unfold modeS; rw [if_neg h7, if_neg h25, if_neg (fun h => h49 h.1), if_neg (fun h => h49 h.1)] : modeS sj x true = sj)
   clear h7 h25 h49
   go_wp2_with fail
   go_roundw
   case rel => exact ⟨j + 1, HJ.out, by go_num, _, _, _, _, _, _, _, _, _, _, _, _, _, _, _, by rw [HN.out, HM.out]; exact HS.out⟩
   case measure => simp [intOf]; omega
  ·obtain rfl : j = l.length := by omega
   rw [List.take_of_length_le (Nat.le_refl _)] at HS
   clear hii
   go_upto_region 15 with fail
   refine wp_region_lit ?_
   refine wpl_loadS rfl (.tmp 3) rfl rfl HS.out.v rfl ?_
   refine wpl_storeS rfl (.tmp 6) (.tmp 40) rfl rfl rfl HS.out.z rfl rfl (HS.out.p.one HS.out.sl) ?_
   go_wp2
   refine psEnd (w.heap.size + 1) 6 Tryz.results112 rfl rfl HS.out.z (by omega) HS.out.f HS.out.sl HS.out.p (HS.out.far H0.out).2 (fun x hx => (HS.out.sub x hx).imp id (fun h => by omega))
theorem pprivate_108 (s : Sc) (r c : Nat) (vc vt vo : Value) (A4 A5 A6 : Option Addr) (n4 n5 n6 k4 k5 k6 : Nat) (base : Nat) (w : World) (hbase : base ≤ w.heap.size) (h : PsL w base vc vt vo s) (hi : ScIn { s with wrap := false } r c) (vp : Value) (l : List Int) (T : Nat → Prop) (hT : ∀ x, T x → x < w.heap.size) (hl : SL vI w T vp l) (hll : l.length ≤ 1048576) (hTn : ∀ x, T x → ¬ OwB vc vt vo x) :
  Calls Tryz.prog 112 #[.agg (vS s vc vt vo (.slice A4 n4 k4) (.slice A5 n5 k5) (.slice A6 n6 k6)), vp, .int .u8 108] w (PsPost base vc vt vo (l.foldl (fun s k => modeS s k false) s) w) := by
 have H0 := Lib.hid (show ∀ x, OwB vc vt vo x → x < w.heap.size from fun x hx => (h.lt x hx).2)
 have HTN := Lib.hid hTn
 clear hTn
 obtain ⟨g1, k1, g2, k2, A3, k3, rfl, rfl, rfl, ⟨b1, l1, p1, q1⟩, ⟨b2, l2, p2, q2⟩, p3, q3⟩ := h.open_ hi
 have H := Lib.hid h
 have HI := Lib.hid hi
 obtain ⟨hlen, hr1, hr2, hc1, hc2, HR, HCO, hr3, hr4, hc3, hc4, y0, y1, x0, x1, t0, t1, u1⟩ := pIn hi
 clear h hi
 have HT := Lib.hid hT
 obtain ⟨AP, kP, rfl, pP, qP⟩ := hl.form
 have HLI := Lib.hid hl
 clear hT hl
 have h2w := two_new w (.cells (vS s (.slice (some ⟨g1, 0, none⟩) s.cells.length k1) (.slice (some ⟨g2, 0, none⟩) s.tabs.length k2) (.slice A3 s.other.length k3) (.slice A4 n4 k4) (.slice A5 n5 k5) (.slice A6 n6 k6)) 31) (.cells zQ 31)
 have HS : Hid (PutAt w base _ _ _ r c (.cells zQ 31) s g1 k1 g2 k2 A3 k3 (.slice A4 n4 k4) (.slice A5 n5 k5) (.slice A6 n6 k6) ((w.alloc (.cells (vS s (.slice (some ⟨g1, 0, none⟩) s.cells.length k1) (.slice (some ⟨g2, 0, none⟩) s.tabs.length k2) (.slice A3 s.other.length k3) (.slice A4 n4 k4) (.slice A5 n5 k5) (.slice A6 n6 k6)) 31)).alloc (.cells zQ 31))) :=
  ⟨heap_a1 w _ _, heap_a2 w _ _, (H.out.alloc _).alloc _, Fr.of h2w.1 _, by simp, fun x hx => .inl hx, HI.out, sl3⟩
 clear h2w
 go_enter Tryz.func112, Tryz.ntmps112
 go_wp2
 go_loopw [21] (fun i wr => PvRel s l false r c _ _ _ (.cells zQ 31) base w i wr) (fun i _ => l.length - (intOf i).toNat)
 case atStart => exact ⟨0, Nat.zero_le _, rfl, _, _, _, _, _, _, _, _, _, _, _, _, _, _, _, HS.out⟩
 case round =>
  clear HS
  obtain ⟨j, hj, rfl, ga, ka, gb, kb, Aa, kc, B4, m4, j4, B5, m5, j5, B6, m6, j6, hs⟩ := hrel
  have HS := Lib.hid hs
  have hn := hs.n
  clear hs
  have hii := foldl_mode_i (l.take j) false s HI.out
  by_cases hlt : j < l.length
  ·obtain ⟨x, hx⟩ : ∃ x, l[j]? = some x := ⟨_, List.getElem?_eq_getElem hlt⟩
   have hlw : SL vI wr T (.slice AP l.length kP) l := HLI.out.keep (fun q hq => World.cell?_of_block (HS.out.f.block _ (HT.out _ hq) (HTN.out _ hq)))
   obtain ⟨ad, hA, -, e1⟩ := hlw.getI j x hx
   subst hA
   have hnx : (l.take (j + 1)).foldl (fun s k => modeS s k false) s = modeS ((l.take j).foldl (fun s k => modeS s k false) s) x false := by
    rw [List.take_add_one, hx, List.foldl_append]
    rfl
   have hji : (j : Int) < (l.length : Int) := by omega
   generalize (l.take j).foldl (fun s k => modeS s k false) s = sj at *
   have HN := Lib.hid hnx
   have HII := Lib.hid hii
   have HJ := Lib.hid hlt
   clear hlw hx hnx hii
   by_cases h7 : x = 7
   ·subst h7
    obtain ⟨d13, f13⟩ := cellR (v := .bool sj.auto) HS.out.v 13 rfl
    have HS2 := Lib.hid (HS.out.fld (s' := { sj with auto := false }) H0.out 13 (.bool false) rfl rfl rfl rfl (modeS_i HII.out 7 false))
    go_wp2_with fail
    go_roundw
    case rel => exact ⟨j + 1, HJ.out, by go_num, _, _, _, _, _, _, _, _, _, _, _, _, _, _, _, by rw [HN.out]; exact HS2.out⟩
    case measure => simp [intOf]; omega
   have n7 : (x == 7) = false := by simpa using h7
   by_cases h25 : x = 25
   ·subst h25
    obtain ⟨d14, f14⟩ := cellR (v := .bool sj.shown) HS.out.v 14 rfl
    have HS2 := Lib.hid (HS.out.fld (s' := { sj with shown := false }) H0.out 14 (.bool false) rfl rfl rfl rfl (modeS_i HII.out 25 false))
    clear h7
    go_wp2_with fail
    go_roundw
    case rel => exact ⟨j + 1, HJ.out, by go_num, _, _, _, _, _, _, _, _, _, _, _, _, _, _, _, by rw [HN.out]; exact HS2.out⟩
    case measure => simp [intOf]; omega
   have n25 : (x == 25) = false := by simpa using h25
   by_cases h49 : x = 1049
   ·subst h49
    clear h7 h25
    go_upto_region 13 with fail
    refine wp_region_lit ?_
    refine wpl_loadS rfl (.tmp 3) rfl rfl HS.out.v rfl ?_
    go_wp2_with fail
    ((with_reducible refine (pother_any sj r c _ _ _ B4 B5 B6 m4 m5 m6 j4 j5 j6 base _ (by omega) HS.out.p HS.out.i false).mono ?_); rintro e w4 ⟨uc, ut, uo, up, ui, uu, rfl, hsl, hs4, hf4, hsub4⟩)
    have f1 := hf4.var HS.out.v (HS.out.far H0.out).1
    rename_i K hK
    refine hK _ _ ?_
    clear hK K
    refine wpl_storeS rfl (.tmp 3) (.tmp 38) rfl rfl rfl f1 rfl rfl (hs4.one hsl) ?_
    obtain ⟨ga', ka', gb', kb', Aa', kc', rfl, rfl, rfl, hS2⟩ := HS.out.next H0.out (modeS_i HII.out 1049 false) hsl hs4 hf4 hsub4
    obtain ⟨⟨A4', n4', k4', rfl⟩, ⟨A5', n5', k5', rfl⟩, ⟨A6', n6', k6', rfl⟩⟩ := hsl
    generalize World.setRow w4 w.heap.size _ = W2 at hS2 ⊢
    have HS2 := Lib.hid hS2
    clear hs4 hf4 hsub4 f1 hS2
    go_wp2_with fail
    go_roundw
    case rel => exact ⟨j + 1, HJ.out, by go_num, _, _, _, _, _, _, _, _, _, _, _, _, _, _, _, by rw [HN.out]; exact HS2.out⟩
    case measure => simp [intOf]; omega
   have n49 : (x == 1049) = false := by simpa using h49
   have HM : Hid (modeS sj x false = sj) := (by unfold modeS; rw [if_neg h7, if_neg h25, if_neg (fun h => h49 h.1), if_neg (fun h => h49 h.1)] : modeS sj x false = sj)
   clear h7 h25 h49
   go_wp2_with fail
   go_roundw
   case rel => exact ⟨j + 1, HJ.out, by go_num, _, _, _, _, _, _, _, _, _, _, _, _, _, _, _, by rw [HN.out, HM.out]; exact HS.out⟩
   case measure => simp [intOf]; omega
  ·obtain rfl : j = l.length := by omega
   rw [List.take_of_length_le (Nat.le_refl _)] at HS
   clear hii
   go_upto_region 15 with fail
   refine wp_region_lit ?_
   refine wpl_loadS rfl (.tmp 3) rfl rfl HS.out.v rfl ?_
   refine wpl_storeS rfl (.tmp 6) (.tmp 40) rfl rfl rfl HS.out.z rfl rfl (HS.out.p.one HS.out.sl) ?_
   go_wp2
   refine psEnd (w.heap.size + 1) 6 Tryz.results112 rfl rfl HS.out.z (by omega) HS.out.f HS.out.sl HS.out.p (HS.out.far H0.out).2 (fun x hx => (HS.out.sub x hx).imp id (fun h => by omega))
theorem pprivate_no (s : Sc) (r c : Nat) (vc vt vo : Value) (A4 A5 A6 : Option Addr) (n4 n5 n6 k4 k5 k6 : Nat) (base : Nat) (w : World) (hbase : base ≤ w.heap.size) (h : PsL w base vc vt vo s) (hi : ScIn { s with wrap := false } r c) (vp : Value) (l : List Int) (T : Nat → Prop) (hT : ∀ x, T x → x < w.heap.size) (hl : SL vI w T vp l) (hll : l.length ≤ 1048576) (b : Nat) (hb : b ≠ 104) (hb2 : b ≠ 108) :
  Calls Tryz.prog 112 #[.agg (vS s vc vt vo (.slice A4 n4 k4) (.slice A5 n5 k5) (.slice A6 n6 k6)), vp, .int .u8 (b : Int)] w (PsPost base vc vt vo (s) w) := by
 have H0 := Lib.hid (show ∀ x, OwB vc vt vo x → x < w.heap.size from fun x hx => (h.lt x hx).2)
 obtain ⟨g1, k1, g2, k2, A3, k3, rfl, rfl, rfl, ⟨b1, l1, p1, q1⟩, ⟨b2, l2, p2, q2⟩, p3, q3⟩ := h.open_ hi
 have H := Lib.hid h
 have HI := Lib.hid hi
 obtain ⟨hlen, hr1, hr2, hc1, hc2, HR, HCO, hr3, hr4, hc3, hc4, y0, y1, x0, x1, t0, t1, u1⟩ := pIn hi
 clear h hi
 have HT := Lib.hid hT
 obtain ⟨AP, kP, rfl, pP, qP⟩ := hl.form
 have HLI := Lib.hid hl
 clear hT hl
 have e1 : ((b : Int) != 104) = true := by simp; omega
 have e2 : ((b : Int) != 108) = true := by simp; omega
 clear hb hb2
 go_enter Tryz.func112, Tryz.ntmps112
 go_upto_region 2 with fail
 refine wp_region_lit ?_
 refine wpl_loadS rfl (.tmp 3) rfl rfl (heap_a1 w _ _) rfl ?_
 refine wpl_storeS rfl (.tmp 6) (.tmp 16) rfl rfl rfl (heap_a2 w _ _) rfl rfl (all24 rfl rfl rfl rfl rfl rfl rfl rfl rfl rfl rfl rfl rfl rfl rfl rfl rfl rfl rfl rfl rfl rfl rfl rfl) ?_
 go_wp2
 refine psEnd0 (w.heap.size + 1) 6 Tryz.results112 ?_ ?_ (heap_a2 w _ _) (by omega) (two_new w _ _).1 sl3 H.out ?_ ?_ ?_
 all_goals rfl
end Go.Proofs.YtlolgfgcgfjdjaaGreatDoor

namespace Go.Proofs.YtlolgfgcgfjdjaaGreatDoor
open Go.RowKit
set_option linter.unusedVariables false
set_option linter.unusedSimpArgs false
set_option maxHeartbeats 2000000
set_option maxRecDepth 100000
theorem three_n3 (w : World) (x y z : Obj) : Below w.heap.size w (((w.alloc x).alloc y).alloc z) ∧ (((w.alloc x).alloc y).alloc z).heap.size = w.heap.size + 1 + 1 + 1 ∧ (((w.alloc x).alloc y).alloc z).heap[w.heap.size]? = some x ∧ (((w.alloc x).alloc y).alloc z).heap[w.heap.size + 1]? = some y ∧ (((w.alloc x).alloc y).alloc z).heap[w.heap.size + 1 + 1]? = some z := by
 have h := two_new w x y
 refine ⟨h.1.alloc (by omega) _, by simp, ?_, ?_, ?_⟩
 ·exact (Below.heap_alloc _ _ _ (by simp; omega)).trans (heap_a1 w x y)
 ·exact (Below.heap_alloc _ _ _ (by simp)).trans (heap_a2 w x y)
 ·have e := heap_alloc_new ((w.alloc x).alloc y) z
  rw [h.2] at e
  exact e
theorem pprivate_104b (s : Sc) (r c : Nat) (vc vt vo : Value) (A4 A5 A6 : Option Addr) (n4 n5 n6 k4 k5 k6 : Nat) (base : Nat) (w : World) (hbase : base ≤ w.heap.size) (h : PsL w base vc vt vo s) (hi : ScIn { s with wrap := false } r c) (vp : Value) (l : List Int) (T : Nat → Prop) (hT : ∀ x, T x → x < w.heap.size) (hl : SL vI w T vp l) (hll : l.length ≤ 1048576) (hTn : ∀ x, T x → ¬ OwB vc vt vo x) (b : Nat) (hb : b = 104) :
  Calls Tryz.prog 112 #[.agg (vS s vc vt vo (.slice A4 n4 k4) (.slice A5 n5 k5) (.slice A6 n6 k6)), vp, .int .u8 (b : Int)] w (PsPost base vc vt vo (l.foldl (fun s k => modeS s k true) s) w) := by
 subst hb
 exact pprivate_104 s r c vc vt vo A4 A5 A6 n4 n5 n6 k4 k5 k6 base w hbase h hi vp l T hT hl hll hTn
theorem pprivate_108b (s : Sc) (r c : Nat) (vc vt vo : Value) (A4 A5 A6 : Option Addr) (n4 n5 n6 k4 k5 k6 : Nat) (base : Nat) (w : World) (hbase : base ≤ w.heap.size) (h : PsL w base vc vt vo s) (hi : ScIn { s with wrap := false } r c) (vp : Value) (l : List Int) (T : Nat → Prop) (hT : ∀ x, T x → x < w.heap.size) (hl : SL vI w T vp l) (hll : l.length ≤ 1048576) (hTn : ∀ x, T x → ¬ OwB vc vt vo x) (b : Nat) (hb : b = 108) :
  Calls Tryz.prog 112 #[.agg (vS s vc vt vo (.slice A4 n4 k4) (.slice A5 n5 k5) (.slice A6 n6 k6)), vp, .int .u8 (b : Int)] w (PsPost base vc vt vo (l.foldl (fun s k => modeS s k false) s) w) := by
 subst hb
 exact pprivate_108 s r c vc vt vo A4 A5 A6 n4 n5 n6 k4 k5 k6 base w hbase h hi vp l T hT hl hll hTn
theorem psequence_0 (s : Sc) (r c : Nat) (vc vt vo : Value) (A4 A5 A6 : Option Addr) (n4 n5 n6 k4 k5 k6 : Nat) (base : Nat) (w : World) (hbase : base ≤ w.heap.size) (h : PsL w base vc vt vo s) (hi : ScIn { s with wrap := false } r c) (a : Ac) (AP AI : Option Addr) (kP kI : Nat) (hpP : a.params.length ≤ kP) (hqP : kP ≤ 9223372036854775807) (hpI : a.inter.length ≤ kI) (hqI : kI ≤ 9223372036854775807) (T : Nat → Prop) (hT : ∀ x, T x → x < w.heap.size) (hTn : ∀ x, T x → ¬ OwB vc vt vo x) (hl : SL vI w T (.slice AP a.params.length kP) a.params) (ha : ActOk a) (hw : Whole s.cells r c) (hp : a.priv = 0) :
  Calls Tryz.prog 73 #[.agg (vS s vc vt vo (.slice A4 n4 k4) (.slice A5 n5 k5) (.slice A6 n6 k6)), .agg #[.int .i64 (a.kind : Int), .int .i32 a.r, .int .u8 (a.b : Int), .int .u8 (a.priv : Int), .slice AP a.params.length kP, .slice AI a.inter.length kI]] w (PsPost base vc vt vo (seqS s a.b a.params) w) := by
 have HW := Lib.hid hw
 clear hw
 have H0 := Lib.hid (show ∀ x, OwB vc vt vo x → x < w.heap.size from fun x hx => (h.lt x hx).2)
 have HT := Lib.hid hT
 have HTN := Lib.hid hTn
 have HLI := Lib.hid hl
 have HAO := Lib.hid ha
 clear hT hTn hl ha
 obtain ⟨g1, k1, g2, k2, A3, k3, rfl, rfl, rfl, ⟨b1, l1, p1, q1⟩, ⟨b2, l2, p2, q2⟩, p3, q3⟩ := h.open_ hi
 have H := Lib.hid h
 have HI := Lib.hid hi
 obtain ⟨hlen, hr1, hr2, hc1, hc2, HR, HCO, hr3, hr4, hc3, hc4, y0, y1, x0, x1, t0, t1, u1⟩ := pIn hi
 clear h hi
 have hll : a.params.length ≤ 1048576 := by have := HAO.out.params; omega
 obtain ⟨hb3, hz3, hx3, hy3, hr3'⟩ := three_n3 w (.cells (vS s (.slice (some ⟨g1, 0, none⟩) s.cells.length k1) (.slice (some ⟨g2, 0, none⟩) s.tabs.length k2) (.slice A3 s.other.length k3) (.slice A4 n4 k4) (.slice A5 n5 k5) (.slice A6 n6 k6)) 31) (.cells #[.int .i64 (a.kind : Int), .int .i32 a.r, .int .u8 (a.b : Int), .int .u8 (a.priv : Int), .slice AP a.params.length kP, .slice AI a.inter.length kI] 72) (.cells zQ 31)
 have B3 := Lib.hid hb3
 have Z3 := Lib.hid hz3
 have X3 := Lib.hid hx3
 have Y3 := Lib.hid hy3
 have R3 := Lib.hid hr3'
 have HTW : Hid (∀ x, T x → x < (((w.alloc (.cells (vS s (.slice (some ⟨g1, 0, none⟩) s.cells.length k1) (.slice (some ⟨g2, 0, none⟩) s.tabs.length k2) (.slice A3 s.other.length k3) (.slice A4 n4 k4) (.slice A5 n5 k5) (.slice A6 n6 k6)) 31)).alloc (.cells #[.int .i64 (a.kind : Int), .int .i32 a.r, .int .u8 (a.b : Int), .int .u8 (a.priv : Int), .slice AP a.params.length kP, .slice AI a.inter.length kI] 72)).alloc (.cells zQ 31)).heap.size) := fun x hx => Nat.lt_of_lt_of_le (HT.out x hx) hb3.size
 have HLW := Lib.hid (HLI.out.keep (w' := ((w.alloc (.cells (vS s (.slice (some ⟨g1, 0, none⟩) s.cells.length k1) (.slice (some ⟨g2, 0, none⟩) s.tabs.length k2) (.slice A3 s.other.length k3) (.slice A4 n4 k4) (.slice A5 n5 k5) (.slice A6 n6 k6)) 31)).alloc (.cells #[.int .i64 (a.kind : Int), .int .i32 a.r, .int .u8 (a.b : Int), .int .u8 (a.priv : Int), .slice AP a.params.length kP, .slice AI a.inter.length kI] 72)).alloc (.cells zQ 31)) (fun q hq => hb3.cell (HT.out _ hq)))
 clear hb3 hz3 hx3 hy3 hr3'
 have gp : ((a.priv : Int) == 0) = true := by rw [hp]; rfl
 clear hp
 go_enter Tryz.func73, Tryz.ntmps73
 go_upto_region 3 with fail
 refine wp_region_lit ?_
 refine wpl_loadS rfl (.tmp 2) rfl rfl X3.out rfl ?_
 go_wp2_with fail
 ((with_reducible refine (pusual_any s r c _ _ _ A4 A5 A6 n4 n5 n6 k4 k5 k6 base _ (by rw [Z3.out]; omega) (H.out.below B3.out) HI.out _ a.params T HTW.out HLW.out hll HW.out (fun x hx => (HAO.out.each x hx).1) a.b).mono ?_); rintro e w4 ⟨uc, ut, uo, up, ui, uu, rfl, hsl, hs4, hf4, hsub4⟩)
 have f1 := hf4.var R3.out (H.out.far (by omega))
 rename_i K hK
 refine hK _ _ ?_
 refine wpl_storeS rfl (.tmp 4) (.tmp 14) rfl rfl rfl f1 rfl rfl (hs4.one hsl) ?_
 go_wp2
 refine psEndV (w.heap.size + 1 + 1) 4 Tryz.results73 rfl rfl f1 (by omega) (by rw [Z3.out]; omega) (H.out.far (by omega)) (Fr.of B3.out _) (fun x hx => .inl hx) hsl hs4 hf4 hsub4
theorem psequence_104 (s : Sc) (r c : Nat) (vc vt vo : Value) (A4 A5 A6 : Option Addr) (n4 n5 n6 k4 k5 k6 : Nat) (base : Nat) (w : World) (hbase : base ≤ w.heap.size) (h : PsL w base vc vt vo s) (hi : ScIn { s with wrap := false } r c) (a : Ac) (AP AI : Option Addr) (kP kI : Nat) (hpP : a.params.length ≤ kP) (hqP : kP ≤ 9223372036854775807) (hpI : a.inter.length ≤ kI) (hqI : kI ≤ 9223372036854775807) (T : Nat → Prop) (hT : ∀ x, T x → x < w.heap.size) (hTn : ∀ x, T x → ¬ OwB vc vt vo x) (hl : SL vI w T (.slice AP a.params.length kP) a.params) (ha : ActOk a) (hp : a.priv = 63) (hb : a.b = 104) :
  Calls Tryz.prog 73 #[.agg (vS s vc vt vo (.slice A4 n4 k4) (.slice A5 n5 k5) (.slice A6 n6 k6)), .agg #[.int .i64 (a.kind : Int), .int .i32 a.r, .int .u8 (a.b : Int), .int .u8 (a.priv : Int), .slice AP a.params.length kP, .slice AI a.inter.length kI]] w (PsPost base vc vt vo (a.params.foldl (fun s k => modeS s k true) s) w) := by
 have H0 := Lib.hid (show ∀ x, OwB vc vt vo x → x < w.heap.size from fun x hx => (h.lt x hx).2)
 have HT := Lib.hid hT
 have HTN := Lib.hid hTn
 have HLI := Lib.hid hl
 have HAO := Lib.hid ha
 clear hT hTn hl ha
 obtain ⟨g1, k1, g2, k2, A3, k3, rfl, rfl, rfl, ⟨b1, l1, p1, q1⟩, ⟨b2, l2, p2, q2⟩, p3, q3⟩ := h.open_ hi
 have H := Lib.hid h
 have HI := Lib.hid hi
 obtain ⟨hlen, hr1, hr2, hc1, hc2, HR, HCO, hr3, hr4, hc3, hc4, y0, y1, x0, x1, t0, t1, u1⟩ := pIn hi
 clear h hi
 have hll : a.params.length ≤ 1048576 := by have := HAO.out.params; omega
 have HTNW := Lib.hid HTN.out
 obtain ⟨hb3, hz3, hx3, hy3, hr3'⟩ := three_n3 w (.cells (vS s (.slice (some ⟨g1, 0, none⟩) s.cells.length k1) (.slice (some ⟨g2, 0, none⟩) s.tabs.length k2) (.slice A3 s.other.length k3) (.slice A4 n4 k4) (.slice A5 n5 k5) (.slice A6 n6 k6)) 31) (.cells #[.int .i64 (a.kind : Int), .int .i32 a.r, .int .u8 (a.b : Int), .int .u8 (a.priv : Int), .slice AP a.params.length kP, .slice AI a.inter.length kI] 72) (.cells zQ 31)
 have B3 := Lib.hid hb3
 have Z3 := Lib.hid hz3
 have X3 := Lib.hid hx3
 have Y3 := Lib.hid hy3
 have R3 := Lib.hid hr3'
 have HTW : Hid (∀ x, T x → x < (((w.alloc (.cells (vS s (.slice (some ⟨g1, 0, none⟩) s.cells.length k1) (.slice (some ⟨g2, 0, none⟩) s.tabs.length k2) (.slice A3 s.other.length k3) (.slice A4 n4 k4) (.slice A5 n5 k5) (.slice A6 n6 k6)) 31)).alloc (.cells #[.int .i64 (a.kind : Int), .int .i32 a.r, .int .u8 (a.b : Int), .int .u8 (a.priv : Int), .slice AP a.params.length kP, .slice AI a.inter.length kI] 72)).alloc (.cells zQ 31)).heap.size) := fun x hx => Nat.lt_of_lt_of_le (HT.out x hx) hb3.size
 have HLW := Lib.hid (HLI.out.keep (w' := ((w.alloc (.cells (vS s (.slice (some ⟨g1, 0, none⟩) s.cells.length k1) (.slice (some ⟨g2, 0, none⟩) s.tabs.length k2) (.slice A3 s.other.length k3) (.slice A4 n4 k4) (.slice A5 n5 k5) (.slice A6 n6 k6)) 31)).alloc (.cells #[.int .i64 (a.kind : Int), .int .i32 a.r, .int .u8 (a.b : Int), .int .u8 (a.priv : Int), .slice AP a.params.length kP, .slice AI a.inter.length kI] 72)).alloc (.cells zQ 31)) (fun q hq => hb3.cell (HT.out _ hq)))
 clear hb3 hz3 hx3 hy3 hr3'
 have gp : ((a.priv : Int) == 0) = false := by rw [hp]; rfl
 have gp2 : ((a.priv : Int) == 63) = true := by rw [hp]; rfl
 clear hp
 have HB := Lib.hid hb
 clear hb
 go_enter Tryz.func73, Tryz.ntmps73
 go_upto_region 5 with fail
 refine wp_region_lit ?_
 refine wpl_loadS rfl (.tmp 2) rfl rfl X3.out rfl ?_
 go_wp2_with fail
 ((with_reducible refine (pprivate_104b s r c _ _ _ A4 A5 A6 n4 n5 n6 k4 k5 k6 base _ (by rw [Z3.out]; omega) (H.out.below B3.out) HI.out _ a.params T HTW.out HLW.out hll HTN.out a.b HB.out).mono ?_); rintro e w4 ⟨uc, ut, uo, up, ui, uu, rfl, hsl, hs4, hf4, hsub4⟩)
 have f1 := hf4.var R3.out (H.out.far (by omega))
 rename_i K hK
 refine hK _ _ ?_
 refine wpl_storeS rfl (.tmp 4) (.tmp 22) rfl rfl rfl f1 rfl rfl (hs4.one hsl) ?_
 go_wp2
 refine psEndV (w.heap.size + 1 + 1) 4 Tryz.results73 rfl rfl f1 (by omega) (by rw [Z3.out]; omega) (H.out.far (by omega)) (Fr.of B3.out _) (fun x hx => .inl hx) hsl hs4 hf4 hsub4
theorem psequence_108 (s : Sc) (r c : Nat) (vc vt vo : Value) (A4 A5 A6 : Option Addr) (n4 n5 n6 k4 k5 k6 : Nat) (base : Nat) (w : World) (hbase : base ≤ w.heap.size) (h : PsL w base vc vt vo s) (hi : ScIn { s with wrap := false } r c) (a : Ac) (AP AI : Option Addr) (kP kI : Nat) (hpP : a.params.length ≤ kP) (hqP : kP ≤ 9223372036854775807) (hpI : a.inter.length ≤ kI) (hqI : kI ≤ 9223372036854775807) (T : Nat → Prop) (hT : ∀ x, T x → x < w.heap.size) (hTn : ∀ x, T x → ¬ OwB vc vt vo x) (hl : SL vI w T (.slice AP a.params.length kP) a.params) (ha : ActOk a) (hp : a.priv = 63) (hb : a.b = 108) :
  Calls Tryz.prog 73 #[.agg (vS s vc vt vo (.slice A4 n4 k4) (.slice A5 n5 k5) (.slice A6 n6 k6)), .agg #[.int .i64 (a.kind : Int), .int .i32 a.r, .int .u8 (a.b : Int), .int .u8 (a.priv : Int), .slice AP a.params.length kP, .slice AI a.inter.length kI]] w (PsPost base vc vt vo (a.params.foldl (fun s k => modeS s k false) s) w) := by
 have H0 := Lib.hid (show ∀ x, OwB vc vt vo x → x < w.heap.size from fun x hx => (h.lt x hx).2)
 have HT := Lib.hid hT
 have HTN := Lib.hid hTn
 have HLI := Lib.hid hl
 have HAO := Lib.hid ha
 clear hT hTn hl ha
 obtain ⟨g1, k1, g2, k2, A3, k3, rfl, rfl, rfl, ⟨b1, l1, p1, q1⟩, ⟨b2, l2, p2, q2⟩, p3, q3⟩ := h.open_ hi
 have H := Lib.hid h
 have HI := Lib.hid hi
 obtain ⟨hlen, hr1, hr2, hc1, hc2, HR, HCO, hr3, hr4, hc3, hc4, y0, y1, x0, x1, t0, t1, u1⟩ := pIn hi
 clear h hi
 have hll : a.params.length ≤ 1048576 := by have := HAO.out.params; omega
 have HTNW := Lib.hid HTN.out
 obtain ⟨hb3, hz3, hx3, hy3, hr3'⟩ := three_n3 w (.cells (vS s (.slice (some ⟨g1, 0, none⟩) s.cells.length k1) (.slice (some ⟨g2, 0, none⟩) s.tabs.length k2) (.slice A3 s.other.length k3) (.slice A4 n4 k4) (.slice A5 n5 k5) (.slice A6 n6 k6)) 31) (.cells #[.int .i64 (a.kind : Int), .int .i32 a.r, .int .u8 (a.b : Int), .int .u8 (a.priv : Int), .slice AP a.params.length kP, .slice AI a.inter.length kI] 72) (.cells zQ 31)
 have B3 := Lib.hid hb3
 have Z3 := Lib.hid hz3
 have X3 := Lib.hid hx3
 have Y3 := Lib.hid hy3
 have R3 := Lib.hid hr3'
 have HTW : Hid (∀ x, T x → x < (((w.alloc (.cells (vS s (.slice (some ⟨g1, 0, none⟩) s.cells.length k1) (.slice (some ⟨g2, 0, none⟩) s.tabs.length k2) (.slice A3 s.other.length k3) (.slice A4 n4 k4) (.slice A5 n5 k5) (.slice A6 n6 k6)) 31)).alloc (.cells #[.int .i64 (a.kind : Int), .int .i32 a.r, .int .u8 (a.b : Int), .int .u8 (a.priv : Int), .slice AP a.params.length kP, .slice AI a.inter.length kI] 72)).alloc (.cells zQ 31)).heap.size) := fun x hx => Nat.lt_of_lt_of_le (HT.out x hx) hb3.size
 have HLW := Lib.hid (HLI.out.keep (w' := ((w.alloc (.cells (vS s (.slice (some ⟨g1, 0, none⟩) s.cells.length k1) (.slice (some ⟨g2, 0, none⟩) s.tabs.length k2) (.slice A3 s.other.length k3) (.slice A4 n4 k4) (.slice A5 n5 k5) (.slice A6 n6 k6)) 31)).alloc (.cells #[.int .i64 (a.kind : Int), .int .i32 a.r, .int .u8 (a.b : Int), .int .u8 (a.priv : Int), .slice AP a.params.length kP, .slice AI a.inter.length kI] 72)).alloc (.cells zQ 31)) (fun q hq => hb3.cell (HT.out _ hq)))
 clear hb3 hz3 hx3 hy3 hr3'
 have gp : ((a.priv : Int) == 0) = false := by rw [hp]; rfl
 have gp2 : ((a.priv : Int) == 63) = true := by rw [hp]; rfl
 clear hp
 have HB := Lib.hid hb
 clear hb
 go_enter Tryz.func73, Tryz.ntmps73
 go_upto_region 5 with fail
 refine wp_region_lit ?_
 refine wpl_loadS rfl (.tmp 2) rfl rfl X3.out rfl ?_
 go_wp2_with fail
 ((with_reducible refine (pprivate_108b s r c _ _ _ A4 A5 A6 n4 n5 n6 k4 k5 k6 base _ (by rw [Z3.out]; omega) (H.out.below B3.out) HI.out _ a.params T HTW.out HLW.out hll HTN.out a.b HB.out).mono ?_); rintro e w4 ⟨uc, ut, uo, up, ui, uu, rfl, hsl, hs4, hf4, hsub4⟩)
 have f1 := hf4.var R3.out (H.out.far (by omega))
 rename_i K hK
 refine hK _ _ ?_
 refine wpl_storeS rfl (.tmp 4) (.tmp 22) rfl rfl rfl f1 rfl rfl (hs4.one hsl) ?_
 go_wp2
 refine psEndV (w.heap.size + 1 + 1) 4 Tryz.results73 rfl rfl f1 (by omega) (by rw [Z3.out]; omega) (H.out.far (by omega)) (Fr.of B3.out _) (fun x hx => .inl hx) hsl hs4 hf4 hsub4
theorem psequence_63 (s : Sc) (r c : Nat) (vc vt vo : Value) (A4 A5 A6 : Option Addr) (n4 n5 n6 k4 k5 k6 : Nat) (base : Nat) (w : World) (hbase : base ≤ w.heap.size) (h : PsL w base vc vt vo s) (hi : ScIn { s with wrap := false } r c) (a : Ac) (AP AI : Option Addr) (kP kI : Nat) (hpP : a.params.length ≤ kP) (hqP : kP ≤ 9223372036854775807) (hpI : a.inter.length ≤ kI) (hqI : kI ≤ 9223372036854775807) (T : Nat → Prop) (hT : ∀ x, T x → x < w.heap.size) (hTn : ∀ x, T x → ¬ OwB vc vt vo x) (hl : SL vI w T (.slice AP a.params.length kP) a.params) (ha : ActOk a) (hp : a.priv = 63) (hb : a.b ≠ 104) (hb2 : a.b ≠ 108) :
  Calls Tryz.prog 73 #[.agg (vS s vc vt vo (.slice A4 n4 k4) (.slice A5 n5 k5) (.slice A6 n6 k6)), .agg #[.int .i64 (a.kind : Int), .int .i32 a.r, .int .u8 (a.b : Int), .int .u8 (a.priv : Int), .slice AP a.params.length kP, .slice AI a.inter.length kI]] w (PsPost base vc vt vo (s) w) := by
 have H0 := Lib.hid (show ∀ x, OwB vc vt vo x → x < w.heap.size from fun x hx => (h.lt x hx).2)
 have HT := Lib.hid hT
 have HTN := Lib.hid hTn
 have HLI := Lib.hid hl
 have HAO := Lib.hid ha
 clear hT hTn hl ha
 obtain ⟨g1, k1, g2, k2, A3, k3, rfl, rfl, rfl, ⟨b1, l1, p1, q1⟩, ⟨b2, l2, p2, q2⟩, p3, q3⟩ := h.open_ hi
 have H := Lib.hid h
 have HI := Lib.hid hi
 obtain ⟨hlen, hr1, hr2, hc1, hc2, HR, HCO, hr3, hr4, hc3, hc4, y0, y1, x0, x1, t0, t1, u1⟩ := pIn hi
 clear h hi
 have hll : a.params.length ≤ 1048576 := by have := HAO.out.params; omega
 obtain ⟨hb3, hz3, hx3, hy3, hr3'⟩ := three_n3 w (.cells (vS s (.slice (some ⟨g1, 0, none⟩) s.cells.length k1) (.slice (some ⟨g2, 0, none⟩) s.tabs.length k2) (.slice A3 s.other.length k3) (.slice A4 n4 k4) (.slice A5 n5 k5) (.slice A6 n6 k6)) 31) (.cells #[.int .i64 (a.kind : Int), .int .i32 a.r, .int .u8 (a.b : Int), .int .u8 (a.priv : Int), .slice AP a.params.length kP, .slice AI a.inter.length kI] 72) (.cells zQ 31)
 have B3 := Lib.hid hb3
 have Z3 := Lib.hid hz3
 have X3 := Lib.hid hx3
 have Y3 := Lib.hid hy3
 have R3 := Lib.hid hr3'
 have HTW : Hid (∀ x, T x → x < (((w.alloc (.cells (vS s (.slice (some ⟨g1, 0, none⟩) s.cells.length k1) (.slice (some ⟨g2, 0, none⟩) s.tabs.length k2) (.slice A3 s.other.length k3) (.slice A4 n4 k4) (.slice A5 n5 k5) (.slice A6 n6 k6)) 31)).alloc (.cells #[.int .i64 (a.kind : Int), .int .i32 a.r, .int .u8 (a.b : Int), .int .u8 (a.priv : Int), .slice AP a.params.length kP, .slice AI a.inter.length kI] 72)).alloc (.cells zQ 31)).heap.size) := fun x hx => Nat.lt_of_lt_of_le (HT.out x hx) hb3.size
 have HLW := Lib.hid (HLI.out.keep (w' := ((w.alloc (.cells (vS s (.slice (some ⟨g1, 0, none⟩) s.cells.length k1) (.slice (some ⟨g2, 0, none⟩) s.tabs.length k2) (.slice A3 s.other.length k3) (.slice A4 n4 k4) (.slice A5 n5 k5) (.slice A6 n6 k6)) 31)).alloc (.cells #[.int .i64 (a.kind : Int), .int .i32 a.r, .int .u8 (a.b : Int), .int .u8 (a.priv : Int), .slice AP a.params.length kP, .slice AI a.inter.length kI] 72)).alloc (.cells zQ 31)) (fun q hq => hb3.cell (HT.out _ hq)))
 clear hb3 hz3 hx3 hy3 hr3'
 have gp : ((a.priv : Int) == 0) = false := by rw [hp]; rfl
 have gp2 : ((a.priv : Int) == 63) = true := by rw [hp]; rfl
 clear hp
 go_enter Tryz.func73, Tryz.ntmps73
 go_upto_region 5 with fail
 refine wp_region_lit ?_
 refine wpl_loadS rfl (.tmp 2) rfl rfl X3.out rfl ?_
 go_wp2_with fail
 ((with_reducible refine (pprivate_no s r c _ _ _ A4 A5 A6 n4 n5 n6 k4 k5 k6 base _ (by rw [Z3.out]; omega) (H.out.below B3.out) HI.out _ a.params T HTW.out HLW.out hll a.b hb hb2).mono ?_); rintro e w4 ⟨uc, ut, uo, up, ui, uu, rfl, hsl, hs4, hf4, hsub4⟩)
 have f1 := hf4.var R3.out (H.out.far (by omega))
 rename_i K hK
 refine hK _ _ ?_
 refine wpl_storeS rfl (.tmp 4) (.tmp 22) rfl rfl rfl f1 rfl rfl (hs4.one hsl) ?_
 go_wp2
 refine psEndV (w.heap.size + 1 + 1) 4 Tryz.results73 rfl rfl f1 (by omega) (by rw [Z3.out]; omega) (H.out.far (by omega)) (Fr.of B3.out _) (fun x hx => .inl hx) hsl hs4 hf4 hsub4
theorem psequence_no (s : Sc) (r c : Nat) (vc vt vo : Value) (A4 A5 A6 : Option Addr) (n4 n5 n6 k4 k5 k6 : Nat) (base : Nat) (w : World) (hbase : base ≤ w.heap.size) (h : PsL w base vc vt vo s) (hi : ScIn { s with wrap := false } r c) (a : Ac) (AP AI : Option Addr) (kP kI : Nat) (hpP : a.params.length ≤ kP) (hqP : kP ≤ 9223372036854775807) (hpI : a.inter.length ≤ kI) (hqI : kI ≤ 9223372036854775807) (T : Nat → Prop) (hT : ∀ x, T x → x < w.heap.size) (hTn : ∀ x, T x → ¬ OwB vc vt vo x) (hl : SL vI w T (.slice AP a.params.length kP) a.params) (ha : ActOk a) (hp : a.priv ≠ 0) (hp2 : a.priv ≠ 63) :
  Calls Tryz.prog 73 #[.agg (vS s vc vt vo (.slice A4 n4 k4) (.slice A5 n5 k5) (.slice A6 n6 k6)), .agg #[.int .i64 (a.kind : Int), .int .i32 a.r, .int .u8 (a.b : Int), .int .u8 (a.priv : Int), .slice AP a.params.length kP, .slice AI a.inter.length kI]] w (PsPost base vc vt vo (s) w) := by
 have H0 := Lib.hid (show ∀ x, OwB vc vt vo x → x < w.heap.size from fun x hx => (h.lt x hx).2)
 have HT := Lib.hid hT
 have HTN := Lib.hid hTn
 have HLI := Lib.hid hl
 have HAO := Lib.hid ha
 clear hT hTn hl ha
 obtain ⟨g1, k1, g2, k2, A3, k3, rfl, rfl, rfl, ⟨b1, l1, p1, q1⟩, ⟨b2, l2, p2, q2⟩, p3, q3⟩ := h.open_ hi
 have H := Lib.hid h
 have HI := Lib.hid hi
 obtain ⟨hlen, hr1, hr2, hc1, hc2, HR, HCO, hr3, hr4, hc3, hc4, y0, y1, x0, x1, t0, t1, u1⟩ := pIn hi
 clear h hi
 obtain ⟨hb3, hz3, hx3, hy3, hr3'⟩ := three_n3 w (.cells (vS s (.slice (some ⟨g1, 0, none⟩) s.cells.length k1) (.slice (some ⟨g2, 0, none⟩) s.tabs.length k2) (.slice A3 s.other.length k3) (.slice A4 n4 k4) (.slice A5 n5 k5) (.slice A6 n6 k6)) 31) (.cells #[.int .i64 (a.kind : Int), .int .i32 a.r, .int .u8 (a.b : Int), .int .u8 (a.priv : Int), .slice AP a.params.length kP, .slice AI a.inter.length kI] 72) (.cells zQ 31)
 have B3 := Lib.hid hb3
 have Z3 := Lib.hid hz3
 have X3 := Lib.hid hx3
 have Y3 := Lib.hid hy3
 have R3 := Lib.hid hr3'
 have HTW : Hid (∀ x, T x → x < (((w.alloc (.cells (vS s (.slice (some ⟨g1, 0, none⟩) s.cells.length k1) (.slice (some ⟨g2, 0, none⟩) s.tabs.length k2) (.slice A3 s.other.length k3) (.slice A4 n4 k4) (.slice A5 n5 k5) (.slice A6 n6 k6)) 31)).alloc (.cells #[.int .i64 (a.kind : Int), .int .i32 a.r, .int .u8 (a.b : Int), .int .u8 (a.priv : Int), .slice AP a.params.length kP, .slice AI a.inter.length kI] 72)).alloc (.cells zQ 31)).heap.size) := fun x hx => Nat.lt_of_lt_of_le (HT.out x hx) hb3.size
 have HLW := Lib.hid (HLI.out.keep (w' := ((w.alloc (.cells (vS s (.slice (some ⟨g1, 0, none⟩) s.cells.length k1) (.slice (some ⟨g2, 0, none⟩) s.tabs.length k2) (.slice A3 s.other.length k3) (.slice A4 n4 k4) (.slice A5 n5 k5) (.slice A6 n6 k6)) 31)).alloc (.cells #[.int .i64 (a.kind : Int), .int .i32 a.r, .int .u8 (a.b : Int), .int .u8 (a.priv : Int), .slice AP a.params.length kP, .slice AI a.inter.length kI] 72)).alloc (.cells zQ 31)) (fun q hq => hb3.cell (HT.out _ hq)))
 clear hb3 hz3 hx3 hy3 hr3'
 have gp : ((a.priv : Int) == 0) = false := by simp; omega
 have gp2 : ((a.priv : Int) == 63) = false := by simp; omega
 clear hp hp2
 go_enter Tryz.func73, Tryz.ntmps73
 go_upto_region 6 with fail
 refine wp_region_lit ?_
 refine wpl_loadS rfl (.tmp 2) rfl rfl X3.out rfl ?_
 refine wpl_storeS rfl (.tmp 4) (.tmp 23) rfl rfl rfl R3.out rfl rfl (all24 rfl rfl rfl rfl rfl rfl rfl rfl rfl rfl rfl rfl rfl rfl rfl rfl rfl rfl rfl rfl rfl rfl rfl rfl) ?_
 go_wp2
 refine psEnd0 (w.heap.size + 1 + 1) 4 Tryz.results73 ?_ ?_ R3.out (by omega) B3.out sl3 H.out ?_ ?_ ?_
 all_goals rfl
theorem psequence_any (s : Sc) (r c : Nat) (vc vt vo : Value) (A4 A5 A6 : Option Addr) (n4 n5 n6 k4 k5 k6 : Nat) (base : Nat) (w : World) (hbase : base ≤ w.heap.size) (h : PsL w base vc vt vo s) (hi : ScIn { s with wrap := false } r c) (a : Ac) (AP AI : Option Addr) (kP kI : Nat) (hpP : a.params.length ≤ kP) (hqP : kP ≤ 9223372036854775807) (hpI : a.inter.length ≤ kI) (hqI : kI ≤ 9223372036854775807) (T : Nat → Prop) (hT : ∀ x, T x → x < w.heap.size) (hTn : ∀ x, T x → ¬ OwB vc vt vo x) (hl : SL vI w T (.slice AP a.params.length kP) a.params) (ha : ActOk a) (hw : Whole s.cells r c) :
  Calls Tryz.prog 73 #[.agg (vS s vc vt vo (.slice A4 n4 k4) (.slice A5 n5 k5) (.slice A6 n6 k6)), .agg #[.int .i64 (a.kind : Int), .int .i32 a.r, .int .u8 (a.b : Int), .int .u8 (a.priv : Int), .slice AP a.params.length kP, .slice AI a.inter.length kI]] w (PsPost base vc vt vo (if a.priv = 63 ∧ (a.b = 104 ∨ a.b = 108) then a.params.foldl (fun s k => modeS s k (decide (a.b = 104))) s else if a.priv = 0 then seqS s a.b a.params else s) w) := by
 by_cases h63 : a.priv = 63
 ·by_cases b1 : a.b = 104
  ·rw [if_pos ⟨h63, .inl b1⟩, show decide (a.b = 104) = true from decide_eq_true b1]
   exact psequence_104 s r c vc vt vo A4 A5 A6 n4 n5 n6 k4 k5 k6 base w hbase h hi a AP AI kP kI hpP hqP hpI hqI T hT hTn hl ha h63 b1
  by_cases b2 : a.b = 108
  ·rw [if_pos ⟨h63, .inr b2⟩, show decide (a.b = 104) = false from decide_eq_false b1]
   exact psequence_108 s r c vc vt vo A4 A5 A6 n4 n5 n6 k4 k5 k6 base w hbase h hi a AP AI kP kI hpP hqP hpI hqI T hT hTn hl ha h63 b2
  rw [if_neg (fun h => h.2.elim b1 b2), if_neg (by omega)]
  exact psequence_63 s r c vc vt vo A4 A5 A6 n4 n5 n6 k4 k5 k6 base w hbase h hi a AP AI kP kI hpP hqP hpI hqI T hT hTn hl ha h63 b1 b2
 rw [if_neg (fun h => h63 h.1)]
 by_cases h0' : a.priv = 0
 ·rw [if_pos h0']
  exact psequence_0 s r c vc vt vo A4 A5 A6 n4 n5 n6 k4 k5 k6 base w hbase h hi a AP AI kP kI hpP hqP hpI hqI T hT hTn hl ha hw h0'
 rw [if_neg h0']
 exact psequence_no s r c vc vt vo A4 A5 A6 n4 n5 n6 k4 k5 k6 base w hbase h hi a AP AI kP kI hpP hqP hpI hqI T hT hTn hl ha h0' h63
theorem pdo_0 (s : Sc) (r c : Nat) (vc vt vo : Value) (A4 A5 A6 : Option Addr) (n4 n5 n6 k4 k5 k6 : Nat) (base : Nat) (w : World) (hbase : base ≤ w.heap.size) (h : PsL w base vc vt vo s) (hi : ScIn { s with wrap := false } r c) (a : Ac) (AP AI : Option Addr) (kP kI : Nat) (hpP : a.params.length ≤ kP) (hqP : kP ≤ 9223372036854775807) (hpI : a.inter.length ≤ kI) (hqI : kI ≤ 9223372036854775807) (T : Nat → Prop) (hT : ∀ x, T x → x < w.heap.size) (hTn : ∀ x, T x → ¬ OwB vc vt vo x) (hl : SL vI w T (.slice AP a.params.length kP) a.params) (ha : ActOk a) (hk : a.kind = 0) (hsp : Spans w) (hgb : 0 < w.heap.size) :
  Calls Tryz.prog 41 #[.agg (vS s vc vt vo (.slice A4 n4 k4) (.slice A5 n5 k5) (.slice A6 n6 k6)), .agg #[.int .i64 (a.kind : Int), .int .i32 a.r, .int .u8 (a.b : Int), .int .u8 (a.priv : Int), .slice AP a.params.length kP, .slice AI a.inter.length kI]] w (PsPost base vc vt vo (printS s a.r) w) := by
 have HSP := Lib.hid hsp
 clear hsp
 have H0 := Lib.hid (show ∀ x, OwB vc vt vo x → x < w.heap.size from fun x hx => (h.lt x hx).2)
 have HT := Lib.hid hT
 have HTN := Lib.hid hTn
 have HLI := Lib.hid hl
 have HAO := Lib.hid ha
 clear hT hTn hl ha
 obtain ⟨g1, k1, g2, k2, A3, k3, rfl, rfl, rfl, ⟨b1, l1, p1, q1⟩, ⟨b2, l2, p2, q2⟩, p3, q3⟩ := h.open_ hi
 have H := Lib.hid h
 have HI := Lib.hid hi
 obtain ⟨hlen, hr1, hr2, hc1, hc2, HR, HCO, hr3, hr4, hc3, hc4, y0, y1, x0, x1, t0, t1, u1⟩ := pIn hi
 clear h hi
 obtain ⟨hb3, hz3, hx3, hy3, hr3'⟩ := three_n3 w (.cells (vS s (.slice (some ⟨g1, 0, none⟩) s.cells.length k1) (.slice (some ⟨g2, 0, none⟩) s.tabs.length k2) (.slice A3 s.other.length k3) (.slice A4 n4 k4) (.slice A5 n5 k5) (.slice A6 n6 k6)) 31) (.cells #[.int .i64 (a.kind : Int), .int .i32 a.r, .int .u8 (a.b : Int), .int .u8 (a.priv : Int), .slice AP a.params.length kP, .slice AI a.inter.length kI] 72) (.cells zQ 31)
 have B3 := Lib.hid hb3
 have Z3 := Lib.hid hz3
 have X3 := Lib.hid hx3
 have Y3 := Lib.hid hy3
 have R3 := Lib.hid hr3'
 have HTW : Hid (∀ x, T x → x < (((w.alloc (.cells (vS s (.slice (some ⟨g1, 0, none⟩) s.cells.length k1) (.slice (some ⟨g2, 0, none⟩) s.tabs.length k2) (.slice A3 s.other.length k3) (.slice A4 n4 k4) (.slice A5 n5 k5) (.slice A6 n6 k6)) 31)).alloc (.cells #[.int .i64 (a.kind : Int), .int .i32 a.r, .int .u8 (a.b : Int), .int .u8 (a.priv : Int), .slice AP a.params.length kP, .slice AI a.inter.length kI] 72)).alloc (.cells zQ 31)).heap.size) := fun x hx => Nat.lt_of_lt_of_le (HT.out x hx) hb3.size
 have HLW := Lib.hid (HLI.out.keep (w' := ((w.alloc (.cells (vS s (.slice (some ⟨g1, 0, none⟩) s.cells.length k1) (.slice (some ⟨g2, 0, none⟩) s.tabs.length k2) (.slice A3 s.other.length k3) (.slice A4 n4 k4) (.slice A5 n5 k5) (.slice A6 n6 k6)) 31)).alloc (.cells #[.int .i64 (a.kind : Int), .int .i32 a.r, .int .u8 (a.b : Int), .int .u8 (a.priv : Int), .slice AP a.params.length kP, .slice AI a.inter.length kI] 72)).alloc (.cells zQ 31)) (fun q hq => hb3.cell (HT.out _ hq)))
 clear hb3 hz3 hx3 hy3 hr3'
 have gk0 : ((a.kind : Int) == 0) = true := by rw [hk]; rfl
 clear hk
 go_enter Tryz.func41, Tryz.ntmps41
 go_upto_region 3 with fail
 refine wp_region_lit ?_
 refine wpl_loadS rfl (.tmp 2) rfl rfl X3.out rfl ?_
 go_wp2_with fail
 ((with_reducible refine (pput_any s r c _ _ _ A4 A5 A6 n4 n5 n6 k4 k5 k6 base _ (by rw [Z3.out]; omega) (H.out.below B3.out) HI.out a.r (by have := HAO.out.r0; omega) (by have := HAO.out.r1; omega) (HSP.out.below hgb B3.out) (by rw [Z3.out]; omega)).mono ?_); rintro e w4 ⟨uc, ut, uo, up, ui, uu, rfl, hsl, hs4, hf4, hsub4⟩)
 have f1 := hf4.var R3.out (H.out.far (by omega))
 rename_i K hK
 refine hK _ _ ?_
 refine wpl_storeS rfl (.tmp 4) (.tmp 12) rfl rfl rfl f1 rfl rfl (hs4.one hsl) ?_
 go_wp2
 refine psEndV (w.heap.size + 1 + 1) 4 Tryz.results41 rfl rfl f1 (by omega) (by rw [Z3.out]; omega) (H.out.far (by omega)) (Fr.of B3.out _) (fun x hx => .inl hx) hsl hs4 hf4 hsub4
theorem pdo_1 (s : Sc) (r c : Nat) (vc vt vo : Value) (A4 A5 A6 : Option Addr) (n4 n5 n6 k4 k5 k6 : Nat) (base : Nat) (w : World) (hbase : base ≤ w.heap.size) (h : PsL w base vc vt vo s) (hi : ScIn { s with wrap := false } r c) (a : Ac) (AP AI : Option Addr) (kP kI : Nat) (hpP : a.params.length ≤ kP) (hqP : kP ≤ 9223372036854775807) (hpI : a.inter.length ≤ kI) (hqI : kI ≤ 9223372036854775807) (T : Nat → Prop) (hT : ∀ x, T x → x < w.heap.size) (hTn : ∀ x, T x → ¬ OwB vc vt vo x) (hl : SL vI w T (.slice AP a.params.length kP) a.params) (ha : ActOk a) (hk : a.kind = 1) :
  Calls Tryz.prog 41 #[.agg (vS s vc vt vo (.slice A4 n4 k4) (.slice A5 n5 k5) (.slice A6 n6 k6)), .agg #[.int .i64 (a.kind : Int), .int .i32 a.r, .int .u8 (a.b : Int), .int .u8 (a.priv : Int), .slice AP a.params.length kP, .slice AI a.inter.length kI]] w (PsPost base vc vt vo (controlS s a.b) w) := by
 have H0 := Lib.hid (show ∀ x, OwB vc vt vo x → x < w.heap.size from fun x hx => (h.lt x hx).2)
 have HT := Lib.hid hT
 have HTN := Lib.hid hTn
 have HLI := Lib.hid hl
 have HAO := Lib.hid ha
 clear hT hTn hl ha
 obtain ⟨g1, k1, g2, k2, A3, k3, rfl, rfl, rfl, ⟨b1, l1, p1, q1⟩, ⟨b2, l2, p2, q2⟩, p3, q3⟩ := h.open_ hi
 have H := Lib.hid h
 have HI := Lib.hid hi
 obtain ⟨hlen, hr1, hr2, hc1, hc2, HR, HCO, hr3, hr4, hc3, hc4, y0, y1, x0, x1, t0, t1, u1⟩ := pIn hi
 clear h hi
 obtain ⟨hb3, hz3, hx3, hy3, hr3'⟩ := three_n3 w (.cells (vS s (.slice (some ⟨g1, 0, none⟩) s.cells.length k1) (.slice (some ⟨g2, 0, none⟩) s.tabs.length k2) (.slice A3 s.other.length k3) (.slice A4 n4 k4) (.slice A5 n5 k5) (.slice A6 n6 k6)) 31) (.cells #[.int .i64 (a.kind : Int), .int .i32 a.r, .int .u8 (a.b : Int), .int .u8 (a.priv : Int), .slice AP a.params.length kP, .slice AI a.inter.length kI] 72) (.cells zQ 31)
 have B3 := Lib.hid hb3
 have Z3 := Lib.hid hz3
 have X3 := Lib.hid hx3
 have Y3 := Lib.hid hy3
 have R3 := Lib.hid hr3'
 have HTW : Hid (∀ x, T x → x < (((w.alloc (.cells (vS s (.slice (some ⟨g1, 0, none⟩) s.cells.length k1) (.slice (some ⟨g2, 0, none⟩) s.tabs.length k2) (.slice A3 s.other.length k3) (.slice A4 n4 k4) (.slice A5 n5 k5) (.slice A6 n6 k6)) 31)).alloc (.cells #[.int .i64 (a.kind : Int), .int .i32 a.r, .int .u8 (a.b : Int), .int .u8 (a.priv : Int), .slice AP a.params.length kP, .slice AI a.inter.length kI] 72)).alloc (.cells zQ 31)).heap.size) := fun x hx => Nat.lt_of_lt_of_le (HT.out x hx) hb3.size
 have HLW := Lib.hid (HLI.out.keep (w' := ((w.alloc (.cells (vS s (.slice (some ⟨g1, 0, none⟩) s.cells.length k1) (.slice (some ⟨g2, 0, none⟩) s.tabs.length k2) (.slice A3 s.other.length k3) (.slice A4 n4 k4) (.slice A5 n5 k5) (.slice A6 n6 k6)) 31)).alloc (.cells #[.int .i64 (a.kind : Int), .int .i32 a.r, .int .u8 (a.b : Int), .int .u8 (a.priv : Int), .slice AP a.params.length kP, .slice AI a.inter.length kI] 72)).alloc (.cells zQ 31)) (fun q hq => hb3.cell (HT.out _ hq)))
 clear hb3 hz3 hx3 hy3 hr3'
 have gk0 : ((a.kind : Int) == 0) = false := by rw [hk]; rfl
 have gk1 : ((a.kind : Int) == 1) = true := by rw [hk]; rfl
 clear hk
 go_enter Tryz.func41, Tryz.ntmps41
 go_upto_region 5 with fail
 refine wp_region_lit ?_
 refine wpl_loadS rfl (.tmp 2) rfl rfl X3.out rfl ?_
 go_wp2_with fail
 ((with_reducible refine (pcontrol_any s r c _ _ _ A4 A5 A6 n4 n5 n6 k4 k5 k6 base _ (by rw [Z3.out]; omega) (H.out.below B3.out) HI.out a.b).mono ?_); rintro e w4 ⟨uc, ut, uo, up, ui, uu, rfl, hsl, hs4, hf4, hsub4⟩)
 have f1 := hf4.var R3.out (H.out.far (by omega))
 rename_i K hK
 refine hK _ _ ?_
 refine wpl_storeS rfl (.tmp 4) (.tmp 18) rfl rfl rfl f1 rfl rfl (hs4.one hsl) ?_
 go_wp2
 refine psEndV (w.heap.size + 1 + 1) 4 Tryz.results41 rfl rfl f1 (by omega) (by rw [Z3.out]; omega) (H.out.far (by omega)) (Fr.of B3.out _) (fun x hx => .inl hx) hsl hs4 hf4 hsub4
theorem pdo_2 (s : Sc) (r c : Nat) (vc vt vo : Value) (A4 A5 A6 : Option Addr) (n4 n5 n6 k4 k5 k6 : Nat) (base : Nat) (w : World) (hbase : base ≤ w.heap.size) (h : PsL w base vc vt vo s) (hi : ScIn { s with wrap := false } r c) (a : Ac) (AP AI : Option Addr) (kP kI : Nat) (hpP : a.params.length ≤ kP) (hqP : kP ≤ 9223372036854775807) (hpI : a.inter.length ≤ kI) (hqI : kI ≤ 9223372036854775807) (T : Nat → Prop) (hT : ∀ x, T x → x < w.heap.size) (hTn : ∀ x, T x → ¬ OwB vc vt vo x) (hl : SL vI w T (.slice AP a.params.length kP) a.params) (ha : ActOk a) (hk : a.kind = 2) (hin : a.inter.length = 0) :
  Calls Tryz.prog 41 #[.agg (vS s vc vt vo (.slice A4 n4 k4) (.slice A5 n5 k5) (.slice A6 n6 k6)), .agg #[.int .i64 (a.kind : Int), .int .i32 a.r, .int .u8 (a.b : Int), .int .u8 (a.priv : Int), .slice AP a.params.length kP, .slice AI a.inter.length kI]] w (PsPost base vc vt vo (escapeS s a.b) w) := by
 have H0 := Lib.hid (show ∀ x, OwB vc vt vo x → x < w.heap.size from fun x hx => (h.lt x hx).2)
 have HT := Lib.hid hT
 have HTN := Lib.hid hTn
 have HLI := Lib.hid hl
 have HAO := Lib.hid ha
 clear hT hTn hl ha
 obtain ⟨g1, k1, g2, k2, A3, k3, rfl, rfl, rfl, ⟨b1, l1, p1, q1⟩, ⟨b2, l2, p2, q2⟩, p3, q3⟩ := h.open_ hi
 have H := Lib.hid h
 have HI := Lib.hid hi
 obtain ⟨hlen, hr1, hr2, hc1, hc2, HR, HCO, hr3, hr4, hc3, hc4, y0, y1, x0, x1, t0, t1, u1⟩ := pIn hi
 clear h hi
 obtain ⟨hb3, hz3, hx3, hy3, hr3'⟩ := three_n3 w (.cells (vS s (.slice (some ⟨g1, 0, none⟩) s.cells.length k1) (.slice (some ⟨g2, 0, none⟩) s.tabs.length k2) (.slice A3 s.other.length k3) (.slice A4 n4 k4) (.slice A5 n5 k5) (.slice A6 n6 k6)) 31) (.cells #[.int .i64 (a.kind : Int), .int .i32 a.r, .int .u8 (a.b : Int), .int .u8 (a.priv : Int), .slice AP a.params.length kP, .slice AI a.inter.length kI] 72) (.cells zQ 31)
 have B3 := Lib.hid hb3
 have Z3 := Lib.hid hz3
 have X3 := Lib.hid hx3
 have Y3 := Lib.hid hy3
 have R3 := Lib.hid hr3'
 have HTW : Hid (∀ x, T x → x < (((w.alloc (.cells (vS s (.slice (some ⟨g1, 0, none⟩) s.cells.length k1) (.slice (some ⟨g2, 0, none⟩) s.tabs.length k2) (.slice A3 s.other.length k3) (.slice A4 n4 k4) (.slice A5 n5 k5) (.slice A6 n6 k6)) 31)).alloc (.cells #[.int .i64 (a.kind : Int), .int .i32 a.r, .int .u8 (a.b : Int), .int .u8 (a.priv : Int), .slice AP a.params.length kP, .slice AI a.inter.length kI] 72)).alloc (.cells zQ 31)).heap.size) := fun x hx => Nat.lt_of_lt_of_le (HT.out x hx) hb3.size
 have HLW := Lib.hid (HLI.out.keep (w' := ((w.alloc (.cells (vS s (.slice (some ⟨g1, 0, none⟩) s.cells.length k1) (.slice (some ⟨g2, 0, none⟩) s.tabs.length k2) (.slice A3 s.other.length k3) (.slice A4 n4 k4) (.slice A5 n5 k5) (.slice A6 n6 k6)) 31)).alloc (.cells #[.int .i64 (a.kind : Int), .int .i32 a.r, .int .u8 (a.b : Int), .int .u8 (a.priv : Int), .slice AP a.params.length kP, .slice AI a.inter.length kI] 72)).alloc (.cells zQ 31)) (fun q hq => hb3.cell (HT.out _ hq)))
 clear hb3 hz3 hx3 hy3 hr3'
 have gk0 : ((a.kind : Int) == 0) = false := by rw [hk]; rfl
 have gk1 : ((a.kind : Int) == 1) = false := by rw [hk]; rfl
 have gk2 : ((a.kind : Int) == 2) = true := by rw [hk]; rfl
 have gi : ((a.inter.length : Int) == 0) = true := by rw [hin]; rfl
 clear hk hin
 go_enter Tryz.func41, Tryz.ntmps41
 go_upto_region 8 with fail
 refine wp_region_lit ?_
 refine wpl_loadS rfl (.tmp 2) rfl rfl X3.out rfl ?_
 go_wp2_with fail
 ((with_reducible refine (pescape_any s r c _ _ _ A4 A5 A6 n4 n5 n6 k4 k5 k6 base _ (by rw [Z3.out]; omega) (H.out.below B3.out) HI.out a.b).mono ?_); rintro e w4 ⟨uc, ut, uo, up, ui, uu, rfl, hsl, hs4, hf4, hsub4⟩)
 have f1 := hf4.var R3.out (H.out.far (by omega))
 rename_i K hK
 refine hK _ _ ?_
 refine wpl_storeS rfl (.tmp 4) (.tmp 28) rfl rfl rfl f1 rfl rfl (hs4.one hsl) ?_
 go_wp2
 refine psEndV (w.heap.size + 1 + 1) 4 Tryz.results41 rfl rfl f1 (by omega) (by rw [Z3.out]; omega) (H.out.far (by omega)) (Fr.of B3.out _) (fun x hx => .inl hx) hsl hs4 hf4 hsub4
theorem pdo_2n (s : Sc) (r c : Nat) (vc vt vo : Value) (A4 A5 A6 : Option Addr) (n4 n5 n6 k4 k5 k6 : Nat) (base : Nat) (w : World) (hbase : base ≤ w.heap.size) (h : PsL w base vc vt vo s) (hi : ScIn { s with wrap := false } r c) (a : Ac) (AP AI : Option Addr) (kP kI : Nat) (hpP : a.params.length ≤ kP) (hqP : kP ≤ 9223372036854775807) (hpI : a.inter.length ≤ kI) (hqI : kI ≤ 9223372036854775807) (T : Nat → Prop) (hT : ∀ x, T x → x < w.heap.size) (hTn : ∀ x, T x → ¬ OwB vc vt vo x) (hl : SL vI w T (.slice AP a.params.length kP) a.params) (ha : ActOk a) (hk : a.kind = 2) (hin : a.inter.length ≠ 0) :
  Calls Tryz.prog 41 #[.agg (vS s vc vt vo (.slice A4 n4 k4) (.slice A5 n5 k5) (.slice A6 n6 k6)), .agg #[.int .i64 (a.kind : Int), .int .i32 a.r, .int .u8 (a.b : Int), .int .u8 (a.priv : Int), .slice AP a.params.length kP, .slice AI a.inter.length kI]] w (PsPost base vc vt vo (s) w) := by
 have H0 := Lib.hid (show ∀ x, OwB vc vt vo x → x < w.heap.size from fun x hx => (h.lt x hx).2)
 have HT := Lib.hid hT
 have HTN := Lib.hid hTn
 have HLI := Lib.hid hl
 have HAO := Lib.hid ha
 clear hT hTn hl ha
 obtain ⟨g1, k1, g2, k2, A3, k3, rfl, rfl, rfl, ⟨b1, l1, p1, q1⟩, ⟨b2, l2, p2, q2⟩, p3, q3⟩ := h.open_ hi
 have H := Lib.hid h
 have HI := Lib.hid hi
 obtain ⟨hlen, hr1, hr2, hc1, hc2, HR, HCO, hr3, hr4, hc3, hc4, y0, y1, x0, x1, t0, t1, u1⟩ := pIn hi
 clear h hi
 obtain ⟨hb3, hz3, hx3, hy3, hr3'⟩ := three_n3 w (.cells (vS s (.slice (some ⟨g1, 0, none⟩) s.cells.length k1) (.slice (some ⟨g2, 0, none⟩) s.tabs.length k2) (.slice A3 s.other.length k3) (.slice A4 n4 k4) (.slice A5 n5 k5) (.slice A6 n6 k6)) 31) (.cells #[.int .i64 (a.kind : Int), .int .i32 a.r, .int .u8 (a.b : Int), .int .u8 (a.priv : Int), .slice AP a.params.length kP, .slice AI a.inter.length kI] 72) (.cells zQ 31)
 have B3 := Lib.hid hb3
 have Z3 := Lib.hid hz3
 have X3 := Lib.hid hx3
 have Y3 := Lib.hid hy3
 have R3 := Lib.hid hr3'
 have HTW : Hid (∀ x, T x → x < (((w.alloc (.cells (vS s (.slice (some ⟨g1, 0, none⟩) s.cells.length k1) (.slice (some ⟨g2, 0, none⟩) s.tabs.length k2) (.slice A3 s.other.length k3) (.slice A4 n4 k4) (.slice A5 n5 k5) (.slice A6 n6 k6)) 31)).alloc (.cells #[.int .i64 (a.kind : Int), .int .i32 a.r, .int .u8 (a.b : Int), .int .u8 (a.priv : Int), .slice AP a.params.length kP, .slice AI a.inter.length kI] 72)).alloc (.cells zQ 31)).heap.size) := fun x hx => Nat.lt_of_lt_of_le (HT.out x hx) hb3.size
 have HLW := Lib.hid (HLI.out.keep (w' := ((w.alloc (.cells (vS s (.slice (some ⟨g1, 0, none⟩) s.cells.length k1) (.slice (some ⟨g2, 0, none⟩) s.tabs.length k2) (.slice A3 s.other.length k3) (.slice A4 n4 k4) (.slice A5 n5 k5) (.slice A6 n6 k6)) 31)).alloc (.cells #[.int .i64 (a.kind : Int), .int .i32 a.r, .int .u8 (a.b : Int), .int .u8 (a.priv : Int), .slice AP a.params.length kP, .slice AI a.inter.length kI] 72)).alloc (.cells zQ 31)) (fun q hq => hb3.cell (HT.out _ hq)))
 clear hb3 hz3 hx3 hy3 hr3'
 have gk0 : ((a.kind : Int) == 0) = false := by rw [hk]; rfl
 have gk1 : ((a.kind : Int) == 1) = false := by rw [hk]; rfl
 have gk2 : ((a.kind : Int) == 2) = true := by rw [hk]; rfl
 have gi : ((a.inter.length : Int) == 0) = false := by rw [beq_eq_false_iff_ne]; omega
 clear hk hin
 go_enter Tryz.func41, Tryz.ntmps41
 go_upto_region 12 with fail
 refine wp_region_lit ?_
 refine wpl_loadS rfl (.tmp 2) rfl rfl X3.out rfl ?_
 refine wpl_storeS rfl (.tmp 4) (.tmp 38) rfl rfl rfl R3.out rfl rfl (all24 rfl rfl rfl rfl rfl rfl rfl rfl rfl rfl rfl rfl rfl rfl rfl rfl rfl rfl rfl rfl rfl rfl rfl rfl) ?_
 go_wp2
 refine psEnd0 (w.heap.size + 1 + 1) 4 Tryz.results41 ?_ ?_ R3.out (by omega) B3.out sl3 H.out ?_ ?_ ?_
 all_goals rfl
theorem pdo_3 (s : Sc) (r c : Nat) (vc vt vo : Value) (A4 A5 A6 : Option Addr) (n4 n5 n6 k4 k5 k6 : Nat) (base : Nat) (w : World) (hbase : base ≤ w.heap.size) (h : PsL w base vc vt vo s) (hi : ScIn { s with wrap := false } r c) (a : Ac) (AP AI : Option Addr) (kP kI : Nat) (hpP : a.params.length ≤ kP) (hqP : kP ≤ 9223372036854775807) (hpI : a.inter.length ≤ kI) (hqI : kI ≤ 9223372036854775807) (T : Nat → Prop) (hT : ∀ x, T x → x < w.heap.size) (hTn : ∀ x, T x → ¬ OwB vc vt vo x) (hl : SL vI w T (.slice AP a.params.length kP) a.params) (ha : ActOk a) (hk : a.kind = 3) (hin : a.inter.length = 0) (hw : Whole s.cells r c) :
  Calls Tryz.prog 41 #[.agg (vS s vc vt vo (.slice A4 n4 k4) (.slice A5 n5 k5) (.slice A6 n6 k6)), .agg #[.int .i64 (a.kind : Int), .int .i32 a.r, .int .u8 (a.b : Int), .int .u8 (a.priv : Int), .slice AP a.params.length kP, .slice AI a.inter.length kI]] w (PsPost base vc vt vo (if a.priv = 63 ∧ (a.b = 104 ∨ a.b = 108) then a.params.foldl (fun s k => modeS s k (decide (a.b = 104))) s else if a.priv = 0 then seqS s a.b a.params else s) w) := by
 have HW := Lib.hid hw
 clear hw
 have H0 := Lib.hid (show ∀ x, OwB vc vt vo x → x < w.heap.size from fun x hx => (h.lt x hx).2)
 have HT := Lib.hid hT
 have HTN := Lib.hid hTn
 have HLI := Lib.hid hl
 have HAO := Lib.hid ha
 clear hT hTn hl ha
 obtain ⟨g1, k1, g2, k2, A3, k3, rfl, rfl, rfl, ⟨b1, l1, p1, q1⟩, ⟨b2, l2, p2, q2⟩, p3, q3⟩ := h.open_ hi
 have H := Lib.hid h
 have HI := Lib.hid hi
 obtain ⟨hlen, hr1, hr2, hc1, hc2, HR, HCO, hr3, hr4, hc3, hc4, y0, y1, x0, x1, t0, t1, u1⟩ := pIn hi
 clear h hi
 obtain ⟨hb3, hz3, hx3, hy3, hr3'⟩ := three_n3 w (.cells (vS s (.slice (some ⟨g1, 0, none⟩) s.cells.length k1) (.slice (some ⟨g2, 0, none⟩) s.tabs.length k2) (.slice A3 s.other.length k3) (.slice A4 n4 k4) (.slice A5 n5 k5) (.slice A6 n6 k6)) 31) (.cells #[.int .i64 (a.kind : Int), .int .i32 a.r, .int .u8 (a.b : Int), .int .u8 (a.priv : Int), .slice AP a.params.length kP, .slice AI a.inter.length kI] 72) (.cells zQ 31)
 have B3 := Lib.hid hb3
 have Z3 := Lib.hid hz3
 have X3 := Lib.hid hx3
 have Y3 := Lib.hid hy3
 have R3 := Lib.hid hr3'
 have HTW : Hid (∀ x, T x → x < (((w.alloc (.cells (vS s (.slice (some ⟨g1, 0, none⟩) s.cells.length k1) (.slice (some ⟨g2, 0, none⟩) s.tabs.length k2) (.slice A3 s.other.length k3) (.slice A4 n4 k4) (.slice A5 n5 k5) (.slice A6 n6 k6)) 31)).alloc (.cells #[.int .i64 (a.kind : Int), .int .i32 a.r, .int .u8 (a.b : Int), .int .u8 (a.priv : Int), .slice AP a.params.length kP, .slice AI a.inter.length kI] 72)).alloc (.cells zQ 31)).heap.size) := fun x hx => Nat.lt_of_lt_of_le (HT.out x hx) hb3.size
 have HLW := Lib.hid (HLI.out.keep (w' := ((w.alloc (.cells (vS s (.slice (some ⟨g1, 0, none⟩) s.cells.length k1) (.slice (some ⟨g2, 0, none⟩) s.tabs.length k2) (.slice A3 s.other.length k3) (.slice A4 n4 k4) (.slice A5 n5 k5) (.slice A6 n6 k6)) 31)).alloc (.cells #[.int .i64 (a.kind : Int), .int .i32 a.r, .int .u8 (a.b : Int), .int .u8 (a.priv : Int), .slice AP a.params.length kP, .slice AI a.inter.length kI] 72)).alloc (.cells zQ 31)) (fun q hq => hb3.cell (HT.out _ hq)))
 clear hb3 hz3 hx3 hy3 hr3'
 have gk0 : ((a.kind : Int) == 0) = false := by rw [hk]; rfl
 have gk1 : ((a.kind : Int) == 1) = false := by rw [hk]; rfl
 have gk2 : ((a.kind : Int) == 2) = false := by rw [hk]; rfl
 have gk3 : ((a.kind : Int) == 3) = true := by rw [hk]; rfl
 have gi : ((a.inter.length : Int) == 0) = true := by rw [hin]; rfl
 clear hk hin
 have HC := Lib.hid (psequence_any s r c (.slice (some ⟨g1, 0, none⟩) s.cells.length k1) (.slice (some ⟨g2, 0, none⟩) s.tabs.length k2) (.slice A3 s.other.length k3) A4 A5 A6 n4 n5 n6 k4 k5 k6 base (((w.alloc (.cells (vS s (.slice (some ⟨g1, 0, none⟩) s.cells.length k1) (.slice (some ⟨g2, 0, none⟩) s.tabs.length k2) (.slice A3 s.other.length k3) (.slice A4 n4 k4) (.slice A5 n5 k5) (.slice A6 n6 k6)) 31)).alloc (.cells #[.int .i64 (a.kind : Int), .int .i32 a.r, .int .u8 (a.b : Int), .int .u8 (a.priv : Int), .slice AP a.params.length kP, .slice AI a.inter.length kI] 72)).alloc (.cells zQ 31)) (by rw [Z3.out]; omega) (H.out.below B3.out) HI.out a AP AI kP kI hpP hqP hpI hqI T HTW.out HTN.out HLW.out HAO.out HW.out)
 obtain ⟨S9, hS9⟩ : ∃ S9, (if a.priv = 63 ∧ (a.b = 104 ∨ a.b = 108) then a.params.foldl (fun s k => modeS s k (decide (a.b = 104))) s else if a.priv = 0 then seqS s a.b a.params else s) = S9 := ⟨_, rfl⟩
 rw [hS9] at HC ⊢
 clear hS9
 go_enter Tryz.func41, Tryz.ntmps41
 go_upto_region 11 with fail
 refine wp_region_lit ?_
 refine wpl_loadS rfl (.tmp 2) rfl rfl X3.out rfl ?_
 go_wp2_with fail
 ((with_reducible refine (HC.out).mono ?_); rintro e w4 ⟨uc, ut, uo, up, ui, uu, rfl, hsl, hs4, hf4, hsub4⟩)
 have f1 := hf4.var R3.out (H.out.far (by omega))
 rename_i K hK
 refine hK _ _ ?_
 refine wpl_storeS rfl (.tmp 4) (.tmp 37) rfl rfl rfl f1 rfl rfl (hs4.one hsl) ?_
 go_wp2
 refine psEndV (w.heap.size + 1 + 1) 4 Tryz.results41 rfl rfl f1 (by omega) (by rw [Z3.out]; omega) (H.out.far (by omega)) (Fr.of B3.out _) (fun x hx => .inl hx) hsl hs4 hf4 hsub4
theorem pdo_3n (s : Sc) (r c : Nat) (vc vt vo : Value) (A4 A5 A6 : Option Addr) (n4 n5 n6 k4 k5 k6 : Nat) (base : Nat) (w : World) (hbase : base ≤ w.heap.size) (h : PsL w base vc vt vo s) (hi : ScIn { s with wrap := false } r c) (a : Ac) (AP AI : Option Addr) (kP kI : Nat) (hpP : a.params.length ≤ kP) (hqP : kP ≤ 9223372036854775807) (hpI : a.inter.length ≤ kI) (hqI : kI ≤ 9223372036854775807) (T : Nat → Prop) (hT : ∀ x, T x → x < w.heap.size) (hTn : ∀ x, T x → ¬ OwB vc vt vo x) (hl : SL vI w T (.slice AP a.params.length kP) a.params) (ha : ActOk a) (hk : a.kind = 3) (hin : a.inter.length ≠ 0) :
  Calls Tryz.prog 41 #[.agg (vS s vc vt vo (.slice A4 n4 k4) (.slice A5 n5 k5) (.slice A6 n6 k6)), .agg #[.int .i64 (a.kind : Int), .int .i32 a.r, .int .u8 (a.b : Int), .int .u8 (a.priv : Int), .slice AP a.params.length kP, .slice AI a.inter.length kI]] w (PsPost base vc vt vo (s) w) := by
 have H0 := Lib.hid (show ∀ x, OwB vc vt vo x → x < w.heap.size from fun x hx => (h.lt x hx).2)
 have HT := Lib.hid hT
 have HTN := Lib.hid hTn
 have HLI := Lib.hid hl
 have HAO := Lib.hid ha
 clear hT hTn hl ha
 obtain ⟨g1, k1, g2, k2, A3, k3, rfl, rfl, rfl, ⟨b1, l1, p1, q1⟩, ⟨b2, l2, p2, q2⟩, p3, q3⟩ := h.open_ hi
 have H := Lib.hid h
 have HI := Lib.hid hi
 obtain ⟨hlen, hr1, hr2, hc1, hc2, HR, HCO, hr3, hr4, hc3, hc4, y0, y1, x0, x1, t0, t1, u1⟩ := pIn hi
 clear h hi
 obtain ⟨hb3, hz3, hx3, hy3, hr3'⟩ := three_n3 w (.cells (vS s (.slice (some ⟨g1, 0, none⟩) s.cells.length k1) (.slice (some ⟨g2, 0, none⟩) s.tabs.length k2) (.slice A3 s.other.length k3) (.slice A4 n4 k4) (.slice A5 n5 k5) (.slice A6 n6 k6)) 31) (.cells #[.int .i64 (a.kind : Int), .int .i32 a.r, .int .u8 (a.b : Int), .int .u8 (a.priv : Int), .slice AP a.params.length kP, .slice AI a.inter.length kI] 72) (.cells zQ 31)
 have B3 := Lib.hid hb3
 have Z3 := Lib.hid hz3
 have X3 := Lib.hid hx3
 have Y3 := Lib.hid hy3
 have R3 := Lib.hid hr3'
 have HTW : Hid (∀ x, T x → x < (((w.alloc (.cells (vS s (.slice (some ⟨g1, 0, none⟩) s.cells.length k1) (.slice (some ⟨g2, 0, none⟩) s.tabs.length k2) (.slice A3 s.other.length k3) (.slice A4 n4 k4) (.slice A5 n5 k5) (.slice A6 n6 k6)) 31)).alloc (.cells #[.int .i64 (a.kind : Int), .int .i32 a.r, .int .u8 (a.b : Int), .int .u8 (a.priv : Int), .slice AP a.params.length kP, .slice AI a.inter.length kI] 72)).alloc (.cells zQ 31)).heap.size) := fun x hx => Nat.lt_of_lt_of_le (HT.out x hx) hb3.size
 have HLW := Lib.hid (HLI.out.keep (w' := ((w.alloc (.cells (vS s (.slice (some ⟨g1, 0, none⟩) s.cells.length k1) (.slice (some ⟨g2, 0, none⟩) s.tabs.length k2) (.slice A3 s.other.length k3) (.slice A4 n4 k4) (.slice A5 n5 k5) (.slice A6 n6 k6)) 31)).alloc (.cells #[.int .i64 (a.kind : Int), .int .i32 a.r, .int .u8 (a.b : Int), .int .u8 (a.priv : Int), .slice AP a.params.length kP, .slice AI a.inter.length kI] 72)).alloc (.cells zQ 31)) (fun q hq => hb3.cell (HT.out _ hq)))
 clear hb3 hz3 hx3 hy3 hr3'
 have gk0 : ((a.kind : Int) == 0) = false := by rw [hk]; rfl
 have gk1 : ((a.kind : Int) == 1) = false := by rw [hk]; rfl
 have gk2 : ((a.kind : Int) == 2) = false := by rw [hk]; rfl
 have gk3 : ((a.kind : Int) == 3) = true := by rw [hk]; rfl
 have gi : ((a.inter.length : Int) == 0) = false := by rw [beq_eq_false_iff_ne]; omega
 clear hk hin
 go_enter Tryz.func41, Tryz.ntmps41
 go_upto_region 12 with fail
 refine wp_region_lit ?_
 refine wpl_loadS rfl (.tmp 2) rfl rfl X3.out rfl ?_
 refine wpl_storeS rfl (.tmp 4) (.tmp 38) rfl rfl rfl R3.out rfl rfl (all24 rfl rfl rfl rfl rfl rfl rfl rfl rfl rfl rfl rfl rfl rfl rfl rfl rfl rfl rfl rfl rfl rfl rfl rfl) ?_
 go_wp2
 refine psEnd0 (w.heap.size + 1 + 1) 4 Tryz.results41 ?_ ?_ R3.out (by omega) B3.out sl3 H.out ?_ ?_ ?_
 all_goals rfl
theorem pdo_any (s : Sc) (r c : Nat) (vc vt vo : Value) (A4 A5 A6 : Option Addr) (n4 n5 n6 k4 k5 k6 : Nat) (base : Nat) (w : World) (hbase : base ≤ w.heap.size) (h : PsL w base vc vt vo s) (hi : ScIn { s with wrap := false } r c) (a : Ac) (AP AI : Option Addr) (kP kI : Nat) (hpP : a.params.length ≤ kP) (hqP : kP ≤ 9223372036854775807) (hpI : a.inter.length ≤ kI) (hqI : kI ≤ 9223372036854775807) (T : Nat → Prop) (hT : ∀ x, T x → x < w.heap.size) (hTn : ∀ x, T x → ¬ OwB vc vt vo x) (hl : SL vI w T (.slice AP a.params.length kP) a.params) (ha : ActOk a) (hk3 : a.kind ≤ 3) (hw : Whole s.cells r c) (hsp : Spans w) (hgb : 0 < w.heap.size) :
  Calls Tryz.prog 41 #[.agg (vS s vc vt vo (.slice A4 n4 k4) (.slice A5 n5 k5) (.slice A6 n6 k6)), .agg #[.int .i64 (a.kind : Int), .int .i32 a.r, .int .u8 (a.b : Int), .int .u8 (a.priv : Int), .slice AP a.params.length kP, .slice AI a.inter.length kI]] w (PsPost base vc vt vo (doS s a) w) := by
 unfold doS
 by_cases e0 : a.kind = 0
 ·rw [if_pos e0]
  exact pdo_0 s r c vc vt vo A4 A5 A6 n4 n5 n6 k4 k5 k6 base w hbase h hi a AP AI kP kI hpP hqP hpI hqI T hT hTn hl ha e0 hsp hgb
 rw [if_neg e0]
 by_cases e1 : a.kind = 1
 ·rw [if_pos e1]
  exact pdo_1 s r c vc vt vo A4 A5 A6 n4 n5 n6 k4 k5 k6 base w hbase h hi a AP AI kP kI hpP hqP hpI hqI T hT hTn hl ha e1
 rw [if_neg e1]
 by_cases e2 : a.kind = 2
 ·rw [if_pos e2]
  by_cases hin : a.inter.length = 0
  ·rw [if_pos hin]
   exact pdo_2 s r c vc vt vo A4 A5 A6 n4 n5 n6 k4 k5 k6 base w hbase h hi a AP AI kP kI hpP hqP hpI hqI T hT hTn hl ha e2 hin
  ·rw [if_neg hin]
   exact pdo_2n s r c vc vt vo A4 A5 A6 n4 n5 n6 k4 k5 k6 base w hbase h hi a AP AI kP kI hpP hqP hpI hqI T hT hTn hl ha e2 hin
 rw [if_neg e2, if_pos (by omega)]
 by_cases hin : a.inter.length = 0
 ·rw [if_neg (by omega)]
  exact pdo_3 s r c vc vt vo A4 A5 A6 n4 n5 n6 k4 k5 k6 base w hbase h hi a AP AI kP kI hpP hqP hpI hqI T hT hTn hl ha (by omega) hin hw
 ·rw [if_pos (by omega)]
  exact pdo_3n s r c vc vt vo A4 A5 A6 n4 n5 n6 k4 k5 k6 base w hbase h hi a AP AI kP kI hpP hqP hpI hqI T hT hTn hl ha (by omega) hin
end Go.Proofs.YtlolgfgcgfjdjaaGreatDoor
