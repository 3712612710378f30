/- What is proved here: contracts of the landed screen's lineFeed, nextLine, lineBack; contracts of the landed screen's nextTab, control; copy of bools onto a row of the call's own; clear of such a row; no function of the program is named; contracts of the landed screen's isSize, tabs, fresh: a new screen in rows of the call's own; contracts of the landed screen's fresh, escape; plain facts on a grid whose row is taken out, mended, erased, moved by itself and put back: it is what the document's call on the whole grid tells; erasing from one place up to another row by row; contracts of the landed screen's rowOf, write: a rune's cells are put where the cursor is; the contract of the landed screen's eraseCells: the cells from one place up to another are blank, row by row; the contract of the landed screen's put: a rune is printed. -/
import Derived.Test.YtlolgfgcgfjdjaaGreatDoorS11
import Derived.Test.YtlolgfgcgfjdjaaGreatDoorS8
import Derived.Test.YtlolgfgcgfjdjaaGreatDoorS9
import Derived.Test.YtlolgfgcgfjdjaaGreatDoorS6
import Derived.Deep.LoopGhost
import Derived.Test.YtlolgfgcgfjdjaaGreatDoorS10
import Derived.Test.YtlolgfgcgfjdjaaGreatDoorS2
namespace Go.Proofs.YtlolgfgcgfjdjaaGreatDoor
open Go.RowKit
set_option linter.unusedVariables false
set_option linter.unusedSimpArgs false
set_option maxHeartbeats 2000000
set_option maxRecDepth 100000
theorem downS_b {s : Sc} (h : s.y = s.bottom) : downS s = { s with wrap := false, cells := upL s.cells s.cols s.top s.bottom 1 } := by unfold downS; rw [if_pos h]
theorem downS_y {s : Sc} (h : ¬ s.y = s.bottom) (h2 : s.y < s.rows - 1) : downS s = { s with wrap := false, y := s.y + 1 } := by unfold downS; rw [if_neg h, if_pos h2]
theorem downS_n {s : Sc} (h : ¬ s.y = s.bottom) (h2 : ¬ s.y < s.rows - 1) : downS s = { s with wrap := false } := by unfold downS; rw [if_neg h, if_neg h2]
theorem downS_x0 (s : Sc) : downS { s with x := 0 } = crS s := by
 unfold crS downS
 split
 ·rfl
 ·split <;> rfl
def backS (s : Sc) : Sc :=
 if s.y = s.top then { s with wrap := false, cells := downL s.cells s.cols s.top s.bottom 1 }
 else if 0 < s.y then { s with wrap := false, y := s.y - 1 } else { s with wrap := false }
theorem plineFeed_any (s : Sc) (r c : Nat) (vc vt vo : Value) (A4 A5 A6 : Option Addr) (n4 n5 n6 k4 k5 k6 : Nat) (base : Nat) (w : World) (hbase : base ≤ w.heap.size) (h : PsL w base vc vt vo s) (hi : ScIn { s with wrap := false } r c)  :
  Calls Tryz.prog 109 #[.agg (vS s vc vt vo (.slice A4 n4 k4) (.slice A5 n5 k5) (.slice A6 n6 k6))] w (PsPost base vc vt vo (downS s) w) := by
 obtain ⟨g1, k1, g2, k2, A3, k3, rfl, rfl, rfl, ⟨b1, l1, p1, q1⟩, ⟨b2, l2, p2, q2⟩, p3, q3⟩ := h.open_ hi
 have H := Lib.hid h
 have HI := Lib.hid hi
 obtain ⟨hlen, hr1, hr2, hc1, hc2, HR, HCO, hr3, hr4, hc3, hc4, y0, y1, x0, x1, t0, t1, u1⟩ := pIn hi
 clear h hi
 by_cases hb : s.y = s.bottom
 ·have hb1 : (s.y == s.bottom) = true := by simpa using hb
  rw [downS_b hb]
  have HBB := Lib.hid hb
  clear hb
  go_enter Tryz.func109, Tryz.ntmps109
  go_upto_region 4 with fail
  refine wp_region_lit ?_
  refine wpl_loadS rfl (.tmp 1) rfl rfl (heap_a1 w _ _) rfl ?_
  go_wp2_with fail
  ((with_reducible refine (pup_any { s with wrap := false } r c _ _ _ A4 A5 A6 n4 n5 n6 k4 k5 k6 base _ (by simp; omega) (((H.out.alloc _).alloc _).like rfl rfl rfl) HI.out s.top 1).mono ?_); rintro e w4 ⟨uc, ut, uo, up, ui, uu, rfl, hsl, hs4, hf4, hsub4⟩)
  have f1 := hf4.var (heap_a2 w _ _) (H.out.far (by omega))
  rename_i K hK
  refine hK _ _ ?_
  refine wpl_storeS rfl (.tmp 2) (.tmp 13) rfl rfl rfl f1 rfl rfl (hs4.one hsl) ?_
  go_wp2
  refine psEndV (w.heap.size + 1) 2 Tryz.results109 rfl rfl f1 (by omega) (by simp) (H.out.far (by omega)) (Fr.of (two_new w _ _).1 _) (fun x hx => .inl hx) hsl hs4 hf4 hsub4
 ·have hb1 : (s.y == s.bottom) = false := by simpa using hb
  by_cases hb2 : s.y < s.rows - 1
  ·have hb3 : (s.y == s.rows - 1) = false := by simp; omega
   rw [downS_y hb hb2]
   go_enter Tryz.func109, Tryz.ntmps109
   go_upto_region 8 with fail
   refine wp_region_lit ?_
   refine wpl_loadS rfl (.tmp 1) rfl rfl (heap_a1 w _ _) rfl ?_
   refine wpl_storeS rfl (.tmp 2) (.tmp 24) rfl rfl rfl (heap_a2 w _ _) rfl rfl (all24 rfl rfl rfl rfl rfl rfl rfl rfl rfl rfl rfl rfl rfl rfl rfl rfl rfl rfl rfl rfl rfl rfl rfl rfl) ?_
   go_wp2
   refine psEnd0 (w.heap.size + 1) 2 Tryz.results109 ?_ ?_ (heap_a2 w _ _) (by omega) (two_new w _ _).1 sl3 H.out ?_ ?_ ?_
   all_goals rfl
  ·have hb3 : (s.y == s.rows - 1) = true := by simp; omega
   rw [downS_n hb hb2]
   go_enter Tryz.func109, Tryz.ntmps109
   go_upto_region 6 with fail
   refine wp_region_lit ?_
   refine wpl_loadS rfl (.tmp 1) rfl rfl (heap_a1 w _ _) rfl ?_
   refine wpl_storeS rfl (.tmp 2) (.tmp 19) rfl rfl rfl (heap_a2 w _ _) rfl rfl (all24 rfl rfl rfl rfl rfl rfl rfl rfl rfl rfl rfl rfl rfl rfl rfl rfl rfl rfl rfl rfl rfl rfl rfl rfl) ?_
   go_wp2
   refine psEnd0 (w.heap.size + 1) 2 Tryz.results109 ?_ ?_ (heap_a2 w _ _) (by omega) (two_new w _ _).1 sl3 H.out ?_ ?_ ?_
   all_goals rfl
theorem pnextLine_any (s : Sc) (r c : Nat) (vc vt vo : Value) (A4 A5 A6 : Option Addr) (n4 n5 n6 k4 k5 k6 : Nat) (base : Nat) (w : World) (hbase : base ≤ w.heap.size) (h : PsL w base vc vt vo s) (hi : ScIn { s with wrap := false } r c)  :
  Calls Tryz.prog 106 #[.agg (vS s vc vt vo (.slice A4 n4 k4) (.slice A5 n5 k5) (.slice A6 n6 k6))] w (PsPost base vc vt vo (crS s) w) := by
 obtain ⟨g1, k1, g2, k2, A3, k3, rfl, rfl, rfl, ⟨b1, l1, p1, q1⟩, ⟨b2, l2, p2, q2⟩, p3, q3⟩ := h.open_ hi
 have H := Lib.hid h
 have HI := Lib.hid hi
 obtain ⟨hlen, hr1, hr2, hc1, hc2, HR, HCO, hr3, hr4, hc3, hc4, y0, y1, x0, x1, t0, t1, u1⟩ := pIn hi
 clear h hi
 have HI2 : Hid (ScIn { s with x := 0, wrap := false } r c) := HI.out.at_ s.y 0 HI.out.y0 HI.out.y1 (by omega) (by omega)
 rw [← downS_x0]
 go_enter Tryz.func106, Tryz.ntmps106
 go_upto_region 2 with fail
 refine wp_region_lit ?_
 refine wpl_loadS rfl (.tmp 1) rfl rfl (heap_a1 w _ _) rfl ?_
 go_wp2_with fail
 ((with_reducible refine (plineFeed_any { s with x := 0 } r c _ _ _ A4 A5 A6 n4 n5 n6 k4 k5 k6 base _ (by simp; omega) (((H.out.alloc _).alloc _).like rfl rfl rfl) HI2.out ).mono ?_); rintro e w4 ⟨uc, ut, uo, up, ui, uu, rfl, hsl, hs4, hf4, hsub4⟩)
 have f1 := hf4.var (heap_a2 w _ _) (H.out.far (by omega))
 rename_i K hK
 refine hK _ _ ?_
 refine wpl_storeS rfl (.tmp 2) (.tmp 5) rfl rfl rfl f1 rfl rfl (hs4.one hsl) ?_
 go_wp2
 refine psEndV (w.heap.size + 1) 2 Tryz.results106 rfl rfl f1 (by omega) (by simp) (H.out.far (by omega)) (Fr.of (two_new w _ _).1 _) (fun x hx => .inl hx) hsl hs4 hf4 hsub4
theorem plineBack_any (s : Sc) (r c : Nat) (vc vt vo : Value) (A4 A5 A6 : Option Addr) (n4 n5 n6 k4 k5 k6 : Nat) (base : Nat) (w : World) (hbase : base ≤ w.heap.size) (h : PsL w base vc vt vo s) (hi : ScIn { s with wrap := false } r c)  :
  Calls Tryz.prog 110 #[.agg (vS s vc vt vo (.slice A4 n4 k4) (.slice A5 n5 k5) (.slice A6 n6 k6))] w (PsPost base vc vt vo (backS s) w) := by
 obtain ⟨g1, k1, g2, k2, A3, k3, rfl, rfl, rfl, ⟨b1, l1, p1, q1⟩, ⟨b2, l2, p2, q2⟩, p3, q3⟩ := h.open_ hi
 have H := Lib.hid h
 have HI := Lib.hid hi
 obtain ⟨hlen, hr1, hr2, hc1, hc2, HR, HCO, hr3, hr4, hc3, hc4, y0, y1, x0, x1, t0, t1, u1⟩ := pIn hi
 clear h hi
 by_cases hb : s.y = s.top
 ·have hb1 : (s.y == s.top) = true := by simpa using hb
  have e : backS s = { s with wrap := false, cells := downL s.cells s.cols s.top s.bottom 1 } := by unfold backS; rw [if_pos hb]
  rw [e]
  have HBB := Lib.hid hb
  clear hb e
  go_enter Tryz.func110, Tryz.ntmps110
  go_upto_region 4 with fail
  refine wp_region_lit ?_
  refine wpl_loadS rfl (.tmp 1) rfl rfl (heap_a1 w _ _) rfl ?_
  go_wp2_with fail
  ((with_reducible refine (pdown_any { s with wrap := false } r c _ _ _ A4 A5 A6 n4 n5 n6 k4 k5 k6 base _ (by simp; omega) (((H.out.alloc _).alloc _).like rfl rfl rfl) HI.out s.top 1).mono ?_); rintro e w4 ⟨uc, ut, uo, up, ui, uu, rfl, hsl, hs4, hf4, hsub4⟩)
  have f1 := hf4.var (heap_a2 w _ _) (H.out.far (by omega))
  rename_i K hK
  refine hK _ _ ?_
  refine wpl_storeS rfl (.tmp 2) (.tmp 13) rfl rfl rfl f1 rfl rfl (hs4.one hsl) ?_
  go_wp2
  refine psEndV (w.heap.size + 1) 2 Tryz.results110 rfl rfl f1 (by omega) (by simp) (H.out.far (by omega)) (Fr.of (two_new w _ _).1 _) (fun x hx => .inl hx) hsl hs4 hf4 hsub4
 ·have hb1 : (s.y == s.top) = false := by simpa using hb
  by_cases hb2 : 0 < s.y
  ·have hb3 : (s.y == 0) = false := by simp; omega
   have e : backS s = { s with wrap := false, y := s.y - 1 } := by unfold backS; rw [if_neg hb, if_pos hb2]
   rw [e]
   clear e
   go_enter Tryz.func110, Tryz.ntmps110
   go_upto_region 8 with fail
   refine wp_region_lit ?_
   refine wpl_loadS rfl (.tmp 1) rfl rfl (heap_a1 w _ _) rfl ?_
   refine wpl_storeS rfl (.tmp 2) (.tmp 21) rfl rfl rfl (heap_a2 w _ _) rfl rfl (all24 rfl rfl rfl rfl rfl rfl rfl rfl rfl rfl rfl rfl rfl rfl rfl rfl rfl rfl rfl rfl rfl rfl rfl rfl) ?_
   go_wp2
   refine psEnd0 (w.heap.size + 1) 2 Tryz.results110 ?_ ?_ (heap_a2 w _ _) (by omega) (two_new w _ _).1 sl3 H.out ?_ ?_ ?_
   all_goals rfl
  ·have hb3 : (s.y == 0) = true := by simp; omega
   have e : backS s = { s with wrap := false } := by unfold backS; rw [if_neg hb, if_neg hb2]
   rw [e]
   clear e
   go_enter Tryz.func110, Tryz.ntmps110
   go_upto_region 6 with fail
   refine wp_region_lit ?_
   refine wpl_loadS rfl (.tmp 1) rfl rfl (heap_a1 w _ _) rfl ?_
   refine wpl_storeS rfl (.tmp 2) (.tmp 16) rfl rfl rfl (heap_a2 w _ _) rfl rfl (all24 rfl rfl rfl rfl rfl rfl rfl rfl rfl rfl rfl rfl rfl rfl rfl rfl rfl rfl rfl rfl rfl rfl rfl rfl) ?_
   go_wp2
   refine psEnd0 (w.heap.size + 1) 2 Tryz.results110 ?_ ?_ (heap_a2 w _ _) (by omega) (two_new w _ _).1 sl3 H.out ?_ ?_ ?_
   all_goals rfl
end Go.Proofs.YtlolgfgcgfjdjaaGreatDoor

namespace Go.Proofs.YtlolgfgcgfjdjaaGreatDoor
open Go.RowKit
set_option linter.unusedVariables false
set_option linter.unusedSimpArgs false
set_option maxHeartbeats 2000000
set_option maxRecDepth 100000
theorem OT.at_ {w : World} {base g n cap : Nat} {l : List Bool} (h : OT w base (.slice (some ⟨g, 0, none⟩) n cap) l) (k : Nat) (hk : k < n) : w.cell? ⟨g, k, none⟩ = some (.bool (l.getD k true)) := by
 obtain rfl := h.len
 unfold OT at h
 rw [World.ownsRow.cellAt h k (by omega)]
 simp [vTs, vT, hk, List.getD]
theorem pnextTab_any (s : Sc) (r c : Nat) (vc vt vo : Value) (A4 A5 A6 : Option Addr) (n4 n5 n6 k4 k5 k6 : Nat) (base : Nat) (w : World) (hbase : base ≤ w.heap.size) (h : PsL w base vc vt vo s) (hi : ScIn { s with wrap := false } r c) :
  Calls Tryz.prog 108 #[.agg (vS s vc vt vo (.slice A4 n4 k4) (.slice A5 n5 k5) (.slice A6 n6 k6))] w fun e w' => e = .returned (.int .i64 (tabX s)) ∧ Below w.heap.size w w' := by
 obtain ⟨g1, k1, g2, k2, A3, k3, rfl, rfl, rfl, ⟨b1, l1, p1, q1⟩, ⟨b2, l2, p2, q2⟩, p3, q3⟩ := h.open_ hi
 have H := Lib.hid h
 have HI := Lib.hid hi
 obtain ⟨hlen, hr1, hr2, hc1, hc2, HR, HCO, hr3, hr4, hc3, hc4, y0, y1, x0, x1, t0, t1, u1⟩ := pIn hi
 clear h hi
 have HT := Lib.hid (show (s.tabs.length : Int) = s.cols by rw [HCO.out]; exact congrArg _ HI.out.tabs)
 unfold tabX
 obtain ⟨N, hN⟩ : ∃ N, N = nextTab s.tabs (s.cols - (s.x + 1)).toNat (s.x + 1).toNat := ⟨_, rfl⟩
 rw [← hN]
 have HN := Lib.hid hN
 obtain ⟨M, hM⟩ : ∃ M, M = min (N : Int) (s.cols - 1) := ⟨_, rfl⟩
 rw [← hM]
 have HM := Lib.hid hM
 clear hM
 obtain ⟨xx, hxx⟩ : ∃ xx : Nat, (xx : Int) = s.x + 1 := ⟨(s.x + 1).toNat, by omega⟩
 have HX := Lib.hid hxx
 clear hN hxx
 go_enter Tryz.func108, Tryz.ntmps108
 go_wp2
 go_loopg [3] (s.cols - (s.x + 1)).toNat (fun g s3 wx => ∃ x : Nat, (x : Int) + (g : Int) = s.cols ∧ s.x + 1 ≤ x ∧ nextTab s.tabs g x = N ∧ s3 = .int .i64 (x : Int) ∧ wx = w.alloc (.cells (vS s (.slice (some ⟨g1, 0, none⟩) s.cells.length k1) (.slice (some ⟨g2, 0, none⟩) s.tabs.length k2) (.slice A3 s.other.length k3) (.slice A4 n4 k4) (.slice A5 n5 k5) (.slice A6 n6 k6)) 31))
 case atStart =>
  refine ⟨xx, by have := HX.out; omega, by have := HX.out; omega, ?_, ?_, rfl⟩
  ·rw [HN.out, show (s.x + 1).toNat = xx by have := HX.out; omega]
  ·rw [HX.out]
 case round =>
  obtain ⟨x, hxg, hx1, hnt, rfl, rfl⟩ := hrel
  have HNT := Lib.hid hnt
  clear hnt
  cases gk with
  | zero =>
   have hxc : (x : Int) = s.cols := by omega
   have hno : ¬ (x : Int) < s.cols := by omega
   have e : N = x := HNT.out.symm
   have e2 : s.cols - 1 = M := by have := HM.out; omega
   have E2 := Lib.hid e2
   clear hxc hxg e e2
   go_wp2
   go_ret
   exact ⟨by rw [E2.out]; rfl, (Below.refl _ _).alloc (Nat.le_refl _) _⟩
  | succ g =>
   have hlt : (x : Int) < s.cols := by omega
   have hxl : x < s.tabs.length := by have := HT.out; omega
   have e0 := H.out.t.at_ x hxl
   have hs1 := HNT.out
   unfold nextTab at hs1
   cases ht : s.tabs.getD x true with
   | true =>
    rw [ht] at e0 hs1
    have e : N = x := by simpa using hs1.symm
    have e2 : (x : Int) = M := by have := HM.out; omega
    have E2 := Lib.hid e2
    clear hs1 e ht hxg e2
    go_wp2
    go_ret
    exact ⟨by rw [E2.out]; rfl, (Below.refl _ _).alloc (Nat.le_refl _) _⟩
   | false =>
    rw [ht] at e0 hs1
    have hs2 : nextTab s.tabs g (x + 1) = N := by simpa using hs1
    have HS1 := Lib.hid hs2
    clear hs2
    have HXG := Lib.hid hxg
    clear hs1 ht hxg
    go_wp2
    go_roundg g
    case measure => omega
    case rel => exact ⟨x + 1, by have := HXG.out; omega, by omega, HS1.out, by go_num, rfl⟩
theorem pcontrol_any (s : Sc) (r c : Nat) (vc vt vo : Value) (A4 A5 A6 : Option Addr) (n4 n5 n6 k4 k5 k6 : Nat) (base : Nat) (w : World) (hbase : base ≤ w.heap.size) (h : PsL w base vc vt vo s) (hi : ScIn { s with wrap := false } r c) (b : Nat) :
  Calls Tryz.prog 71 #[.agg (vS s vc vt vo (.slice A4 n4 k4) (.slice A5 n5 k5) (.slice A6 n6 k6)), .int .u8 (b : Int)] w (PsPost base vc vt vo (controlS s b) w) := by
 obtain ⟨g1, k1, g2, k2, A3, k3, rfl, rfl, rfl, ⟨b1, l1, p1, q1⟩, ⟨b2, l2, p2, q2⟩, p3, q3⟩ := h.open_ hi
 have H := Lib.hid h
 have HI := Lib.hid hi
 obtain ⟨hlen, hr1, hr2, hc1, hc2, HR, HCO, hr3, hr4, hc3, hc4, y0, y1, x0, x1, t0, t1, u1⟩ := pIn hi
 clear h hi
 unfold controlS
 by_cases h8 : b = 8
 ·rw [if_pos h8]
  subst h8
  go_enter Tryz.func71, Tryz.ntmps71
  go_upto_region 12 with fail
  rw [show (if s.x - 1 < 0 then (0 : Int) else s.x - 1) = max (s.x - 1) 0 by split <;> omega]
  refine wp_region_lit ?_
  refine wpl_loadS rfl (.tmp 2) rfl rfl (heap_a1 w _ _) rfl ?_
  refine wpl_storeS rfl (.tmp 4) (.tmp 30) rfl rfl rfl (heap_a2 w _ _) rfl rfl (all24 rfl rfl rfl rfl rfl rfl rfl rfl rfl rfl rfl rfl rfl rfl rfl rfl rfl rfl rfl rfl rfl rfl rfl rfl) ?_
  go_wp2
  refine psEnd0 (w.heap.size + 1) 4 Tryz.results71 ?_ ?_ (heap_a2 w _ _) (by omega) (two_new w _ _).1 sl3 H.out ?_ ?_ ?_
  all_goals rfl
 rw [if_neg h8]
 by_cases h9 : b = 9
 ·rw [if_pos h9]
  subst h9
  have h2 := two_new w (.cells (vS s (.slice (some ⟨g1, 0, none⟩) s.cells.length k1) (.slice (some ⟨g2, 0, none⟩) s.tabs.length k2) (.slice A3 s.other.length k3) (.slice A4 n4 k4) (.slice A5 n5 k5) (.slice A6 n6 k6)) 31) (.cells zQ 31)
  have hT := pnextTab_any s r c _ _ _ A4 A5 A6 n4 n5 n6 k4 k5 k6 base ((w.alloc (.cells (vS s (.slice (some ⟨g1, 0, none⟩) s.cells.length k1) (.slice (some ⟨g2, 0, none⟩) s.tabs.length k2) (.slice A3 s.other.length k3) (.slice A4 n4 k4) (.slice A5 n5 k5) (.slice A6 n6 k6)) 31)).alloc (.cells zQ 31)) (by simp; omega) ((H.out.alloc _).alloc _) HI.out
  have HT := Lib.hid hT
  have H2 := Lib.hid h2
  clear h2 hT
  have g8 : (((9 : Nat) : Int) == 8) = false := by decide
  go_enter Tryz.func71, Tryz.ntmps71
  go_upto_region 5 with fail
  refine wp_region_lit ?_
  refine wpl_loadS rfl (.tmp 2) rfl rfl (heap_a1 w _ _) rfl ?_
  go_wp2_with fail
  ((with_reducible refine HT.out.mono ?_); rintro e w4 ⟨rfl, b4⟩)
  have hb4 : Below (w.heap.size + 1 + 1) _ w4 := (by rw [← H2.out.2]; exact b4)
  obtain ⟨e0, e1⟩ := two_keptB hb4
  obtain ⟨c4, f4⟩ := cellR e0 4 rfl
  obtain ⟨c5, f5⟩ := cellR e0 5 rfl
  have K0 := Lib.hid e0
  have K1 := Lib.hid e1
  have B4 := Lib.hid (H2.out.1.trans (hb4.mono (by omega)))
  clear b4 hb4 e0 e1
  rename_i K hK
  refine hK _ _ ?_
  go_upto_region 12 with fail
  refine wp_region_lit ?_
  refine wpl_loadS rfl (.tmp 2) rfl rfl ((heap_setCell_same _ _ 5 _ _ _ (heap_setCell_same _ _ 4 _ _ _ K0.out)).trans rfl) rfl ?_
  refine wpl_storeS rfl (.tmp 4) (.tmp 30) rfl rfl rfl ((heap_setCell_other _ _ _ _ (by simp)).trans ((heap_setCell_other _ _ _ _ (by simp)).trans K1.out)) rfl rfl (all24 rfl rfl rfl rfl rfl rfl rfl rfl rfl rfl rfl rfl rfl rfl rfl rfl rfl rfl rfl rfl rfl rfl rfl rfl) ?_
  go_wp2
  refine psEnd0 (w.heap.size + 1) 4 Tryz.results71 ?_ ?_ ((heap_setCell_other _ _ _ _ (by simp)).trans ((heap_setCell_other _ _ _ _ (by simp)).trans K1.out)) (by omega) ((B4.out.setCell (by simp) _).setCell (by simp) _) sl3 H.out ?_ ?_ ?_
  all_goals rfl
 rw [if_neg h9]
 by_cases h10 : b = 10 ∨ b = 11 ∨ b = 12
 ·rw [if_pos h10]
  have g8 : ((b : Int) == 8) = false := by simp; omega
  have g9 : ((b : Int) == 9) = false := by simp; omega
  rcases h10 with rfl | rfl | rfl
  all_goals
   go_enter Tryz.func71, Tryz.ntmps71
   go_upto_region 9 with fail
   refine wp_region_lit ?_
   refine wpl_loadS rfl (.tmp 2) rfl rfl (heap_a1 w _ _) rfl ?_
   go_wp2_with fail
   ((with_reducible refine (plineFeed_any s r c _ _ _ A4 A5 A6 n4 n5 n6 k4 k5 k6 base _ (by simp; omega) (((H.out.alloc _).alloc _).like rfl rfl rfl) HI.out ).mono ?_); rintro e w4 ⟨uc, ut, uo, up, ui, uu, rfl, hsl, hs4, hf4, hsub4⟩)
   have f1 := hf4.var (heap_a2 w _ _) (H.out.far (by omega))
   rename_i K hK
   refine hK _ _ ?_
   refine wpl_storeS rfl (.tmp 4) (.tmp 25) rfl rfl rfl f1 rfl rfl (hs4.one hsl) ?_
   go_wp2
   refine psEndV (w.heap.size + 1) 4 Tryz.results71 rfl rfl f1 (by omega) (by simp) (H.out.far (by omega)) (Fr.of (two_new w _ _).1 _) (fun x hx => .inl hx) hsl hs4 hf4 hsub4
 rw [if_neg h10]
 have g8 : ((b : Int) == 8) = false := by simp; omega
 have g9 : ((b : Int) == 9) = false := by simp; omega
 have g10 : ((b : Int) == 10) = false := by simp; omega
 have g11 : ((b : Int) == 11) = false := by simp; omega
 have g12 : ((b : Int) == 12) = false := by simp; omega
 by_cases h13 : b = 13
 ·rw [if_pos h13]
  subst h13
  go_enter Tryz.func71, Tryz.ntmps71
  go_upto_region 12 with fail
  refine wp_region_lit ?_
  refine wpl_loadS rfl (.tmp 2) rfl rfl (heap_a1 w _ _) rfl ?_
  refine wpl_storeS rfl (.tmp 4) (.tmp 30) rfl rfl rfl (heap_a2 w _ _) rfl rfl (all24 rfl rfl rfl rfl rfl rfl rfl rfl rfl rfl rfl rfl rfl rfl rfl rfl rfl rfl rfl rfl rfl rfl rfl rfl) ?_
  go_wp2
  refine psEnd0 (w.heap.size + 1) 4 Tryz.results71 ?_ ?_ (heap_a2 w _ _) (by omega) (two_new w _ _).1 sl3 H.out ?_ ?_ ?_
  all_goals rfl
 rw [if_neg h13]
 have g13 : ((b : Int) == 13) = false := by simp; omega
 go_enter Tryz.func71, Tryz.ntmps71
 go_upto_region 12 with fail
 refine wp_region_lit ?_
 refine wpl_loadS rfl (.tmp 2) rfl rfl (heap_a1 w _ _) rfl ?_
 refine wpl_storeS rfl (.tmp 4) (.tmp 30) rfl rfl rfl (heap_a2 w _ _) rfl rfl (all24 rfl rfl rfl rfl rfl rfl rfl rfl rfl rfl rfl rfl rfl rfl rfl rfl rfl rfl rfl rfl rfl rfl rfl rfl) ?_
 go_wp2
 refine psEnd0 (w.heap.size + 1) 4 Tryz.results71 ?_ ?_ (heap_a2 w _ _) (by omega) (two_new w _ _).1 sl3 H.out ?_ ?_ ?_
 all_goals rfl
end Go.Proofs.YtlolgfgcgfjdjaaGreatDoor

namespace Go.Proofs.YtlolgfgcgfjdjaaGreatDoor
open Go.RowKit
set_option linter.unusedVariables false
set_option linter.unusedSimpArgs false
set_option maxHeartbeats 400000
set_option maxRecDepth 100000
theorem vTs_drop (l : List Bool) (k : Nat) : vTs (l.drop k) = (vTs l).drop k := by simp [vTs, List.map_drop]
theorem vTs_app (l m : List Bool) : vTs (l ++ m) = vTs l ++ vTs m := by simp [vTs]
theorem vTs_len (l : List Bool) : (vTs l).length = l.length := by simp [vTs]
theorem boolSize : (Tryz.prog.info? 4).map (·.size) = some 1 := by kernel_rfl
theorem run_copyT (w : World) (ty : TypeId) {base B g n cap dc : Nat} {u : Value} {l m : List Bool} (hown : OT w base (.slice (some ⟨g, 0, none⟩) n cap) l) (hr : TS w B u m) :
  ∃ w', (Builtin.copy_ #[26, 26] ty #[.slice (some ⟨g, 0, none⟩) n dc, u]).run Tryz.prog w = .ok (goInt (Nat.min m.length n)) w' ∧ OT w' base (.slice (some ⟨g, 0, none⟩) n cap) (m.take n ++ l.drop m.length) ∧ Fr (fun x => x = g) w w' ∧ w'.heap.size = w.heap.size := by
 obtain rfl := hown.len
 obtain ⟨A, c, rfl, h1, h2, h3⟩ := hr
 by_cases h0 : Nat.min m.length l.length = 0
 ·refine ⟨w, ?_, ?_, Fr.refl _ _, rfl⟩
  ·rw [h0]
   exact run_copy_none w _ _ ty 4 _ A _ dc m.length c Tryz.underlying26 boolSize h0
  ·have e : m.take l.length ++ l.drop m.length = l := by
    rcases Nat.eq_zero_or_pos m.length with h | h
    ·have : m = [] := List.eq_nil_of_length_eq_zero h
     subst this
     simp
    ·have hl0 : l.length = 0 := by
      rcases Nat.le_total m.length l.length with h4 | h4
      ·rw [show Nat.min m.length l.length = m.length from Nat.min_eq_left h4] at h0; omega
      ·rw [show Nat.min m.length l.length = l.length from Nat.min_eq_right h4] at h0; exact h0
     have : l = [] := List.eq_nil_of_length_eq_zero hl0
     subst this
     simp
   rw [e]
   exact hown
 ·have hm0 : 0 < m.length := by
   rcases Nat.eq_zero_or_pos m.length with h | h
   ·rw [h] at h0; simp at h0
   ·exact h
  obtain ⟨ad, rfl, -, hc⟩ := h3 hm0
  unfold OT at hown
  rcases hown.2 with ⟨hv, _⟩ | ⟨g', cap', cur, hv, hbg, hg, hnc, hcm, hcs, htake⟩
  ·cases hv
  simp only [Value.slice.injEq, Option.some.injEq, Addr.mk.injEq, true_and, and_true] at hv
  obtain ⟨rfl, rfl⟩ := hv
  have hcl : cur.toList.length = cur.size := Array.length_toList (xs := cur)
  have hL : (vTs (m.take l.length)).length = Nat.min m.length l.length := by rw [vTs_len, List.length_take]; exact Nat.min_comm _ _
  have hml : Nat.min m.length l.length ≤ l.length := Nat.min_le_right _ _
  have hrun := run_copy_row (P := Tryz.prog) w 26 26 ty 4 g 0 l.length dc ad m.length c cur 4 (vTs (m.take l.length)) Tryz.underlying26 boolSize hg hL (fun j v hj => by
   unfold vTs at hj
   rw [List.getElem?_map, Option.map_eq_some_iff] at hj
   obtain ⟨b, hb, rfl⟩ := hj
   refine hc j b ?_
   rw [List.getElem?_take] at hb
   split at hb
   ·exact hb
   ·cases hb) (by rw [hL]; omega) (vTs_one _)
  rw [hL, Nat.zero_add, List.take_zero, List.nil_append] at hrun
  refine ⟨_, hrun, ?_, fr_setRow _, by simp [World.setRow]⟩
  have hlen : (m.take l.length ++ l.drop m.length).length = l.length := by
   simp
   omega
  unfold OT
  refine ⟨by rw [vTs_len, Nat.mul_one], .inr ⟨g, cap, _, by rw [hlen], hbg, setRow_heap w g cur _ _ _ hg, by rw [hlen]; exact hnc, hcm, ?_, ?_⟩⟩
  ·simp only [List.size_toArray, List.length_append, List.length_drop, hL]
   omega
  ·rw [hlen, Nat.mul_one] at *
   show (vTs (m.take l.length) ++ cur.toList.drop (Nat.min m.length l.length)).take l.length = _
   rw [vTs_app, vTs_drop, ← htake, List.take_append, List.take_of_length_le (by rw [hL]; omega), hL, List.drop_take]
   rcases Nat.le_total m.length l.length with h4 | h4
   ·rw [show Nat.min m.length l.length = m.length from Nat.min_eq_left h4]
   ·rw [show Nat.min m.length l.length = l.length from Nat.min_eq_right h4]
    simp
    omega
theorem wpl_copyT (w : World) {ops : Array Oper} {rest : List Oper} {o : Oper} {a : Act} {Q : Exit → Act → World → Prop} (hgd : o.guard = none) (d x : Operand)
  (ho : o.op = .call { callee := .builtin .copy, args := #[d, x], argTypes := #[26, 26] })
  (base B g n cap dc : Nat) (u : Value) (l m : List Bool) (hs : a.eval d = .slice (some ⟨g, 0, none⟩) n dc) (hx : a.eval x = u) (hown : OT w base (.slice (some ⟨g, 0, none⟩) n cap) l) (hr : TS w B u m)
  (h : ∀ w', OT w' base (.slice (some ⟨g, 0, none⟩) n cap) (m.take n ++ l.drop m.length) → Fr (fun x => x = g) w w' → w'.heap.size = w.heap.size → wpList Tryz.prog ops Q rest (a.put o.dst (goInt (Nat.min m.length n))) w') :
  wpList Tryz.prog ops Q (o :: rest) a w := by
 refine wpList_plain hgd fun K hK => ?_
 obtain ⟨w', hrun, h2, h3, h4⟩ := run_copyT w o.type (dc := dc) hown hr
 unfold Oper.wp execOp
 simp only [ho, resolve, invoke, builtin, Sem.run_bind, Sem.run_pure, Result.andThen_ok, List.map_toArray, List.map_cons, List.map_nil, hs, hx, hrun]
 exact hK _ _ (h w' h2 h3 h4)
theorem wpl_copyC (w : World) {ops : Array Oper} {rest : List Oper} {o : Oper} {a : Act} {Q : Exit → Act → World → Prop} (hgd : o.guard = none) (d x : Operand)
  (ho : o.op = .call { callee := .builtin .copy, args := #[d, x], argTypes := #[24, 24] })
  (base B g n cap P p dn dc : Nat) (u : Value) (l m : List Cl) (hs : a.eval d = .slice (some ⟨g, P, none⟩) dn dc) (hx : a.eval x = u) (hown : OC w base (.slice (some ⟨g, 0, none⟩) n cap) l) (hP : P = p * 3) (hr : CS w B u m) (hm : m.length = dn) (hd : 0 < dn) (hfit : p + dn ≤ l.length)
  (h : ∀ w', OC w' base (.slice (some ⟨g, 0, none⟩) n cap) (partL l p m) → Fr (fun x => x = g) w w' → w'.heap.size = w.heap.size → wpList Tryz.prog ops Q rest (a.put o.dst (goInt dn)) w') :
  wpList Tryz.prog ops Q (o :: rest) a w := by
 refine wpList_plain hgd fun K hK => ?_
 obtain ⟨w', hrun, h2, h3, h4⟩ := run_copyC w o.type (dc := dc) hown hP hr hm hd hfit
 unfold Oper.wp execOp
 simp only [ho, resolve, invoke, builtin, Sem.run_bind, Sem.run_pure, Result.andThen_ok, List.map_toArray, List.map_cons, List.map_nil, hs, hx, hrun]
 exact hK _ _ (h w' h2 h3 h4)
theorem zeroT (n : Nat) : (Builtin.zeroCells (Value.bool false).cells n).toList = vTs (List.replicate n false) := by
 rw [show (Value.bool false).cells = #[.bool false] from rfl]
 simp [Builtin.zeroCells, vTs]
 apply List.ext_getElem
 ·simp
 ·intro i h1 h2
  simp [Nat.mod_one, vT]
theorem run_clearT (w : World) (ty : TypeId) {base g n cap dc : Nat} {l : List Bool} (hown : OT w base (.slice (some ⟨g, 0, none⟩) n cap) l) (hn : 0 < n) :
  ∃ w', (Builtin.clear_ #[26] ty #[.slice (some ⟨g, 0, none⟩) n dc]).run Tryz.prog w = .ok (.tuple #[]) w' ∧ OT w' base (.slice (some ⟨g, 0, none⟩) n cap) (List.replicate n false) ∧ Fr (fun x => x = g) w w' ∧ w'.heap.size = w.heap.size := by
 obtain ⟨i0, hi0, hz0, hz1, hz2⟩ := info_parts boolInfo
 obtain rfl := hown.len
 unfold OT at hown
 rcases hown.2 with ⟨hv, _⟩ | ⟨g', cap', cur, hv, hbg, hg, hnc, hcm, hcs, htake⟩
 ·cases hv
 simp only [Value.slice.injEq, Option.some.injEq, Addr.mk.injEq, true_and, and_true] at hv
 obtain ⟨rfl, rfl⟩ := hv
 have hcl : cur.toList.length = cur.size := Array.length_toList (xs := cur)
 have hL : (vTs (List.replicate l.length false)).length = l.length := by rw [vTs_len, List.length_replicate]
 have hst := run_storeCells_at Tryz.prog g 0 4 (vTs (List.replicate l.length false)) 0 cur w hg (by rw [hL]; omega) (vTs_one _)
 simp only [Nat.zero_add, List.take_zero, List.nil_append] at hst
 refine ⟨w.setRow g (vTs (List.replicate l.length false) ++ cur.toList.drop (vTs (List.replicate l.length false)).length).toArray, ?_, ?_, fr_setRow _, by simp [World.setRow]⟩
 ·have hzc := zeroT l.length
  have hv : (zeroValue 4).run Tryz.prog w = .ok (.bool false) w := by simp [zeroValue, typeInfo, hi0, hz0]
  obtain ⟨k, hk⟩ : ∃ k, l.length = k + 1 := ⟨l.length - 1, by omega⟩
  rw [hk] at hst hzc ⊢
  simp only [Builtin.clear_, List.getElem?_toArray, List.getElem?_cons_zero, run_underlying Tryz.underlying26, Sem.run_bind, Sem.run_pure, Result.andThen_ok, hv, hzc, hst]
 ·unfold OT
  rw [List.length_replicate]
  refine ⟨by rw [vTs_len, List.length_replicate, Nat.mul_one], .inr ⟨g, cap, _, rfl, hbg, setRow_heap w g cur _ _ _ hg, hnc, hcm, ?_, ?_⟩⟩
  ·simp only [List.size_toArray, List.length_append, List.length_drop, hL]
   omega
  ·show (vTs (List.replicate l.length false) ++ cur.toList.drop _).take _ = _
   rw [Nat.mul_one, List.take_append, List.take_of_length_le (by rw [hL]; omega), hL]
   simp
theorem wpl_clearT (w : World) {ops : Array Oper} {rest : List Oper} {o : Oper} {a : Act} {Q : Exit → Act → World → Prop} (hgd : o.guard = none) (d : Operand)
  (ho : o.op = .call { callee := .builtin .clear, args := #[d], argTypes := #[26] })
  (base g n cap dc : Nat) (l : List Bool) (hs : a.eval d = .slice (some ⟨g, 0, none⟩) n dc) (hown : OT w base (.slice (some ⟨g, 0, none⟩) n cap) l) (hn : 0 < n)
  (h : ∀ w', OT w' base (.slice (some ⟨g, 0, none⟩) n cap) (List.replicate n false) → Fr (fun x => x = g) w w' → w'.heap.size = w.heap.size → wpList Tryz.prog ops Q rest (a.put o.dst (.tuple #[])) w') :
  wpList Tryz.prog ops Q (o :: rest) a w := by
 refine wpList_plain hgd fun K hK => ?_
 obtain ⟨w', hrun, h2, h3, h4⟩ := run_clearT w o.type (dc := dc) hown hn
 unfold Oper.wp execOp
 simp only [ho, resolve, invoke, builtin, Sem.run_bind, Sem.run_pure, Result.andThen_ok, List.map_toArray, List.map_cons, List.map_nil, hs, hrun]
 exact hK _ _ (h w' h2 h3 h4)
end Go.Proofs.YtlolgfgcgfjdjaaGreatDoor

namespace Go.Proofs.YtlolgfgcgfjdjaaGreatDoor
open Go.RowKit
set_option linter.unusedVariables false
set_option linter.unusedSimpArgs false
set_option maxHeartbeats 1000000
set_option maxRecDepth 100000
theorem psize_any (n : Int) (w : World) : Calls Tryz.prog 29 #[.int .i64 n] w fun e w' => e = .returned (.bool (sizeB n)) ∧ w = w' := by
 unfold sizeB
 by_cases h1 : 1 ≤ n
 ·by_cases h2 : n ≤ 1000
  ·rw [decide_eq_true ⟨h1, h2⟩]
   go_enter Tryz.func29, Tryz.ntmps29
   go_wp2
   go_ret
   exact ⟨rfl, rfl⟩
  ·rw [decide_eq_false (fun h => h2 h.2)]
   have h3 : decide (n ≤ 1000) = false := decide_eq_false h2
   go_enter Tryz.func29, Tryz.ntmps29
   go_wp2
   go_ret
   exact ⟨rfl, rfl⟩
 ·rw [decide_eq_false (fun h => h1 h.1)]
  have h3 : decide (1 ≤ n) = false := decide_eq_false h1
  go_enter Tryz.func29, Tryz.ntmps29
  go_wp2
  go_ret
  exact ⟨rfl, rfl⟩
def tabsL (l : List Bool) (c : Nat) : List Bool := l.take c ++ (newTabs c).drop l.length
theorem tabsL_nil (c : Nat) : tabsL [] c = newTabs c := by simp [tabsL]
theorem tabsUp_next (c x : Nat) : (tabsUp c x).set x (decide (x % 8 = 0)) = tabsUp c (x + 1) := by
 apply List.ext_getElem?
 intro i
 rw [List.getElem?_set]
 by_cases h : i < c
 ·by_cases e : x = i
  ·subst e
   simp [tabsUp, h]
  ·rw [if_neg e]
   simp only [tabsUp, List.getElem?_map, List.getElem?_range h, Option.map_some]
   congr 1
   rw [decide_eq_decide]
   constructor
   ·intro ⟨a, b⟩; exact ⟨a, by omega⟩
   ·intro ⟨a, b⟩; exact ⟨a, by omega⟩
 ·by_cases e : x = i
  ·subst e
   simp [tabsUp, h]
  ·rw [if_neg e]
   simp [tabsUp, h]
def TabRel (c : Nat) (w : World) (i : Value) (wr : World) : Prop := ∃ x : Nat, x ≤ c ∧ i = .int .i64 (x : Int) ∧ OT wr w.heap.size (.slice (some ⟨w.heap.size, 0, none⟩) c c) (tabsUp c x) ∧ Below w.heap.size w wr
theorem ptabs_any (v : Value) (lb : List Bool) (c : Nat) (w : World) (hv : TS w w.heap.size v lb) (c1 : 1 ≤ c) (c2 : c ≤ 1000) :
  Calls Tryz.prog 48 #[v, .int .i64 (c : Int)] w fun e w' => ∃ u, e = .returned u ∧ OT w' w.heap.size u (tabsL lb c) ∧ Below w.heap.size w w' := by
 have hmk := run_makeT c (by omega) w
 have HV := Lib.hid hv
 obtain ⟨A, k, rfl, h1, h2, -⟩ := hv.at_
 unfold maxLen at h2
 clear hv
 have T0 := Lib.hid (OT.made w c (by omega))
 go_enter Tryz.func48, Tryz.ntmps48
 go_wp2
 go_loopw [11] (fun i wr => TabRel c w i wr) (fun i _ => c - (intOf i).toNat)
 case atStart => exact ⟨0, Nat.zero_le _, rfl, by rw [tabsUp_zero]; exact T0.out, (Below.refl _ _).alloc (Nat.le_refl _) _⟩
 case round =>
  obtain ⟨x, hx, rfl, ht, hb⟩ := hrel
  have HT := Lib.hid ht
  have HB := Lib.hid hb
  have hz := ht.block
  clear ht hb
  by_cases hlt : x < c
  ·obtain ⟨q, s0, f0⟩ := HT.out.spot x hlt
   obtain ⟨B8, hB8⟩ : ∃ B8, B8 = decide (x % 8 = 0) := ⟨_, rfl⟩
   have e8 : ∃ m8 : Nat, (x : Int) % 8 = (m8 : Int) ∧ (((m8 : Int) == 0) = B8) := ⟨x % 8, by omega, by
    rw [hB8]
    by_cases h : x % 8 = 0
    ·simp [h]
    ·simp [h]; omega⟩
   obtain ⟨m8, e8, e9⟩ := e8
   have HB8 := Lib.hid hB8
   clear hB8
   go_wp2
   go_roundw
   case rel =>
    refine ⟨x + 1, hlt, by go_num, ?_, HB.out.setCell (Nat.le_refl _) _⟩
    rw [← tabsUp_next, ← HB8.out]
    exact HT.out.put x _
   case measure => simp [intOf]; omega
  ·obtain rfl : x = c := by omega
   have HV2 := Lib.hid (HV.out.below HB.out)
   go_wp2_with (((with_reducible refine wpl_copyT _ (o := ⟨some 23, _, _, _, _, _⟩) ?_ (.tmp 21) (.tmp 22) ?_ w.heap.size w.heap.size w.heap.size x x x _ (tabsUp x x) lb ?_ ?_ HT.out HV2.out ?_); rfl; rfl; rfl; rfl; intro w3 ho3 hf3 hz3; have HO3 := Lib.hid ho3; have HF3 := Lib.hid hf3; clear ho3 hf3))
   go_ret
   refine ⟨_, rfl, ?_, HB.out.trans (HF3.out.below (fun y hy => by omega) HB.out.size)⟩
   unfold tabsL
   rw [← tabsUp_all x x (Nat.le_refl _)]
   exact HO3.out
end Go.Proofs.YtlolgfgcgfjdjaaGreatDoor

namespace Go.Proofs.YtlolgfgcgfjdjaaGreatDoor
open Go.RowKit
set_option linter.unusedVariables false
set_option linter.unusedSimpArgs false
set_option maxHeartbeats 2000000
set_option maxRecDepth 100000
theorem OT.lower {w : World} {base b2 : Nat} {v : Value} {l : List Bool} (h : OT w base v l) (hb : b2 ≤ base) : OT w b2 v l := by
 obtain ⟨a1, a2⟩ := h
 refine ⟨a1, ?_⟩
 rcases a2 with a2 | ⟨g, cap, cur, hv, hg, hr⟩
 ·exact .inl a2
 ·exact .inr ⟨g, cap, cur, hv, Nat.le_trans hb hg, hr⟩
theorem PsL.lower {w : World} {base b2 : Nat} {vc vt vo : Value} {s : Sc} (h : PsL w base vc vt vo s) (hb : b2 ≤ base) : PsL w b2 vc vt vo s := ⟨h.c.lower hb, h.t.lower hb, h.o.lower hb, h.ap⟩
theorem PsL.putT {w : World} {base g n k : Nat} {vc vo : Value} {s : Sc} (h : PsL w base vc (.slice (some ⟨g, 0, none⟩) n k) vo s) (i : Nat) (x : Bool) : PsL (w.setCell ⟨g, i, none⟩ (.bool x)) base vc (.slice (some ⟨g, 0, none⟩) n k) vo { s with tabs := s.tabs.set i x } :=
 ⟨own_keep h.c (fun b e => Below.heap_setCell _ _ _ _ (fun e2 => h.ct b e (by rw [e2]; rfl))), by have := h.t.put i x; exact this, own_keep h.o (fun b e => Below.heap_setCell _ _ _ _ (fun e2 => h.ot b e (by rw [e2]; rfl))), h.ap⟩
theorem heap_s1 (w : World) (p : Addr) (u : Value) (x y : Obj) : (((w.setCell p u).alloc x).alloc y).heap[w.heap.size]? = some x := by
 have := heap_a1 (w.setCell p u) x y
 rw [show (w.setCell p u).heap.size = w.heap.size by simp] at this
 exact this
theorem heap_s2 (w : World) (p : Addr) (u : Value) (x y : Obj) : (((w.setCell p u).alloc x).alloc y).heap[w.heap.size + 1]? = some y := by
 have := heap_a2 (w.setCell p u) x y
 rw [show (w.setCell p u).heap.size = w.heap.size by simp] at this
 exact this
theorem psEndT {w W : World} {base i n k : Nat} {x : Bool} {X Y : Obj} {vc vo vp vi vu : Value} {s s0 : Sc} {g2 : Nat} (g : Nat) (p : Tmp) {fn : Func} {a : Act} {z : Array Value} (hfn : fn.results = #[.cell p 31]) (ht : a.tmps.getD p undef = .pointer (some ⟨g, 0, none⟩)) (hd : a.defers = [])
  (hW : W = ((w.setCell ⟨g2, i, none⟩ (.bool x)).alloc X).alloc Y) (hz : W.heap[g]? = some (.cells z 31)) (hg : w.heap.size ≤ g) (hsl : Sl vp ∧ Sl vi ∧ Sl vu) (hs : PsL w base vc (.slice (some ⟨g2, 0, none⟩) n k) vo s0) (e1 : s.cells = s0.cells) (e2 : s.tabs = s0.tabs.set i x) (e3 : s.other = s0.other) :
  bodyPost Tryz.prog fn (PsPost base vc (.slice (some ⟨g2, 0, none⟩) n k) vo s w) .ret a (W.setRow g (vS s vc (.slice (some ⟨g2, 0, none⟩) n k) vo vp vi vu)) := by
 refine psEnd g p hfn ht hd hz hg ?_ hsl ?_ (hs.far hg) (fun _ h => .inl h)
 ·rw [hW]
  exact (((Fr.refl _ w).setCell (.inl (.inr (.inl rfl))) _).alloc _).alloc _
 ·rw [hW]
  exact (((hs.putT i x).alloc _).alloc _).like e1 e2 e3
def FreshPost (s : Sc) (w : World) (e : Ending) (w' : World) : Prop := ∃ vc vt, e = .returned (.agg (vS s vc vt (.slice none 0 0) (.slice none 0 0) (.slice none 0 0) (.slice none 0 0))) ∧ PsL w' w.heap.size vc vt (.slice none 0 0) s ∧ Below w.heap.size w w'
theorem freshEnd {w w2 w3 : World} {s : Sc} (p : Tmp) {vc vt : Value} {fn : Func} {a : Act} {z : Array Value} (hfn : fn.results = #[.cell p 31]) (ht : a.tmps.getD p undef = .pointer (some ⟨w.heap.size, 0, none⟩)) (hd : a.defers = [])
  (hz : w3.heap[w.heap.size]? = some (.cells z 31)) (hb : Below w.heap.size w w3) (hc : OC w3 (w.heap.size + 1) vc s.cells) (htb : OT w3 (w.heap.size + 1) vt s.tabs) (ho : s.other = []) :
  bodyPost Tryz.prog fn (FreshPost s w) .ret a (w3.setRow w.heap.size (vS s vc vt (.slice none 0 0) (.slice none 0 0) (.slice none 0 0) (.slice none 0 0))) := by
 refine bodyPost_ret (v := .agg (vS s vc vt (.slice none 0 0) (.slice none 0 0) (.slice none 0 0) (.slice none 0 0))) (resultS hfn ht (heap_setRow_same hz) rfl) hd ?_
 have h0 : PsL w3 w.heap.size vc vt (.slice none 0 0) s := ⟨hc.lower (by omega), OT.lower htb (by omega), by rw [ho]; exact OC.nil _ _, fun g _ e => by cases e⟩
 refine ⟨_, _, rfl, h0.setRow ?_ _, below_setRow hb (Nat.le_refl _) _⟩
 rintro (e | e | e)
 ·have := (World.ownsRow.lt hc _ e).1; omega
 ·have := (World.ownsRow.lt htb _ e).1; omega
 ·cases e
theorem pfresh_any (r c : Nat) (w : World) (r1 : 1 ≤ r) (r2 : r ≤ 1000) (c1 : 1 ≤ c) (c2 : c ≤ 1000) : Calls Tryz.prog 45 #[.int .i64 (r : Int), .int .i64 (c : Int)] w (FreshPost (newS r c) w) := by
 have hlenB := blankL_len r c r1 r2 c1 c2
 have hpos : 0 < (blankL (r : Int) (c : Int)).length := by rw [hlenB]; exact Nat.mul_pos r1 c1
 have HP := Lib.hid hpos
 clear hlenB hpos
 have h1 := heap_alloc_new w (.cells zQ 31)
 have hb1 : Below w.heap.size w (w.alloc (.cells zQ 31)) := (Below.refl _ _).alloc (Nat.le_refl _) _
 have hz1 : (w.alloc (.cells zQ 31)).heap.size = w.heap.size + 1 := by simp
 have H1 := Lib.hid h1
 have HB1 := Lib.hid hb1
 have HZ1 := Lib.hid hz1
 clear h1 hb1 hz1
 go_enter Tryz.func45, Tryz.ntmps45
 go_wp2_with fail
 ((with_reducible refine (gblank_any _ _ _).mono ?_); rintro e w2 ⟨v2, rfl, o2, b2⟩)
 obtain ⟨g2, k2, rfl, hg1, hg2, hg3, hg4⟩ := o2.open_ HP.out
 have hz2 := b2.size
 have HB2 := Lib.hid b2
 have HO2 := Lib.hid o2
 rw [HZ1.out] at hg1 hz2
 clear o2 b2
 rename_i K hK
 refine hK _ _ ?_
 clear hK
 go_wp2_with fail
 ((with_reducible refine (ptabs_any _ [] c _ (TS.nil _ _) c1 c2).mono ?_); rintro e w3 ⟨v3, rfl, o3, b3⟩)
 rw [tabsL_nil] at o3
 have hz3 := b3.size
 have HB3 := Lib.hid b3
 have HO3 := Lib.hid o3
 clear o3 b3
 have k3 : w3.heap[w.heap.size]? = _ := (HB3.out.block _ (by omega)).trans ((HB2.out.block _ (by rw [HZ1.out]; omega)).trans H1.out)
 obtain ⟨A9, k9, rfl, p9, q9⟩ := HO3.out.sl.form
 have K3 := Lib.hid k3
 clear k3
 rename_i K hK
 refine hK _ _ ?_
 clear hK
 iterate 1 (refine wpList_plain rfl fun K hK => ?_; go_simp; refine hK _ _ ?_; clear hK K)
 refine wpl_storeS rfl (.tmp 4) (.tmp 14) rfl rfl rfl K3.out rfl rfl (all24 rfl rfl rfl rfl rfl rfl rfl rfl rfl rfl rfl rfl rfl rfl rfl rfl rfl rfl rfl rfl rfl rfl rfl rfl) ?_
 go_wp2
 refine freshEnd (w := w) (w2 := w2) (s := newS r c) 4 Tryz.results45 ?_ ?_ K3.out (HB1.out.trans ((HB2.out.mono (by rw [HZ1.out]; omega)).trans (HB3.out.mono (by omega)))) (OC.below (by have := HO2.out; rw [HZ1.out] at this; exact this) HB3.out) (OT.lower HO3.out (by omega)) rfl
 all_goals rfl
theorem pescape_any (s : Sc) (r c : Nat) (vc vt vo : Value) (A4 A5 A6 : Option Addr) (n4 n5 n6 k4 k5 k6 : Nat) (base : Nat) (w : World) (hbase : base ≤ w.heap.size) (h : PsL w base vc vt vo s) (hi : ScIn { s with wrap := false } r c) (b : Nat) :
  Calls Tryz.prog 72 #[.agg (vS s vc vt vo (.slice A4 n4 k4) (.slice A5 n5 k5) (.slice A6 n6 k6)), .int .u8 (b : Int)] w (PsPost base vc vt vo (escapeS s b) w) := by
 obtain ⟨g1, k1, g2, k2, A3, k3, rfl, rfl, rfl, ⟨b1, l1, p1, q1⟩, ⟨b2, l2, p2, q2⟩, p3, q3⟩ := h.open_ hi
 have H := Lib.hid h
 have HI := Lib.hid hi
 obtain ⟨hlen, hr1, hr2, hc1, hc2, HR, HCO, hr3, hr4, hc3, hc4, y0, y1, x0, x1, t0, t1, u1⟩ := pIn hi
 clear h hi
 unfold escapeS
 by_cases h7 : b = 55
 ·rw [if_pos h7]
  subst h7
  go_enter Tryz.func72, Tryz.ntmps72
  go_upto_region 17 with fail
  refine wp_region_lit ?_
  refine wpl_loadS rfl (.tmp 2) rfl rfl (heap_a1 w _ _) rfl ?_
  refine wpl_storeS rfl (.tmp 4) (.tmp 55) rfl rfl rfl (heap_a2 w _ _) rfl rfl (all24 rfl rfl rfl rfl rfl rfl rfl rfl rfl rfl rfl rfl rfl rfl rfl rfl rfl rfl rfl rfl rfl rfl rfl rfl) ?_
  go_wp2
  refine psEnd0 (w.heap.size + 1) 4 Tryz.results72 ?_ ?_ (heap_a2 w _ _) (by omega) (two_new w _ _).1 sl3 H.out ?_ ?_ ?_
  all_goals rfl
 rw [if_neg h7]
 have g7 : ((b : Int) == 55) = false := by simp; omega
 by_cases h8 : b = 56
 ·rw [if_pos h8]
  subst h8
  go_enter Tryz.func72, Tryz.ntmps72
  go_upto_region 17 with fail
  refine wp_region_lit ?_
  refine wpl_loadS rfl (.tmp 2) rfl rfl (heap_a1 w _ _) rfl ?_
  refine wpl_storeS rfl (.tmp 4) (.tmp 55) rfl rfl rfl (heap_a2 w _ _) rfl rfl (all24 rfl rfl rfl rfl rfl rfl rfl rfl rfl rfl rfl rfl rfl rfl rfl rfl rfl rfl rfl rfl rfl rfl rfl rfl) ?_
  go_wp2
  refine psEnd0 (w.heap.size + 1) 4 Tryz.results72 ?_ ?_ (heap_a2 w _ _) (by omega) (two_new w _ _).1 sl3 H.out ?_ ?_ ?_
  all_goals rfl
 rw [if_neg h8]
 have g8 : ((b : Int) == 56) = false := by simp; omega
 by_cases h9 : b = 68
 ·rw [if_pos h9]
  subst h9
  go_enter Tryz.func72, Tryz.ntmps72
  go_upto_region 8 with fail
  refine wp_region_lit ?_
  refine wpl_loadS rfl (.tmp 2) rfl rfl (heap_a1 w _ _) rfl ?_
  go_wp2_with fail
  ((with_reducible refine (plineFeed_any s r c _ _ _ A4 A5 A6 n4 n5 n6 k4 k5 k6 base _ (by simp; omega) (((H.out.alloc _).alloc _).like rfl rfl rfl) HI.out ).mono ?_); rintro e w4 ⟨uc, ut, uo, up, ui, uu, rfl, hsl, hs4, hf4, hsub4⟩)
  have f1 := hf4.var (heap_a2 w _ _) (H.out.far (by omega))
  rename_i K hK
  refine hK _ _ ?_
  refine wpl_storeS rfl (.tmp 4) (.tmp 32) rfl rfl rfl f1 rfl rfl (hs4.one hsl) ?_
  go_wp2
  refine psEndV (w.heap.size + 1) 4 Tryz.results72 rfl rfl f1 (by omega) (by simp) (H.out.far (by omega)) (Fr.of (two_new w _ _).1 _) (fun x hx => .inl hx) hsl hs4 hf4 hsub4
 rw [if_neg h9]
 have g9 : ((b : Int) == 68) = false := by simp; omega
 by_cases h10 : b = 69
 ·rw [if_pos h10]
  subst h10
  go_enter Tryz.func72, Tryz.ntmps72
  go_upto_region 10 with fail
  refine wp_region_lit ?_
  refine wpl_loadS rfl (.tmp 2) rfl rfl (heap_a1 w _ _) rfl ?_
  go_wp2_with fail
  ((with_reducible refine (pnextLine_any s r c _ _ _ A4 A5 A6 n4 n5 n6 k4 k5 k6 base _ (by simp; omega) (((H.out.alloc _).alloc _).like rfl rfl rfl) HI.out ).mono ?_); rintro e w4 ⟨uc, ut, uo, up, ui, uu, rfl, hsl, hs4, hf4, hsub4⟩)
  have f1 := hf4.var (heap_a2 w _ _) (H.out.far (by omega))
  rename_i K hK
  refine hK _ _ ?_
  refine wpl_storeS rfl (.tmp 4) (.tmp 36) rfl rfl rfl f1 rfl rfl (hs4.one hsl) ?_
  go_wp2
  refine psEndV (w.heap.size + 1) 4 Tryz.results72 rfl rfl f1 (by omega) (by simp) (H.out.far (by omega)) (Fr.of (two_new w _ _).1 _) (fun x hx => .inl hx) hsl hs4 hf4 hsub4
 rw [if_neg h10]
 have g10 : ((b : Int) == 69) = false := by simp; omega
 by_cases h11 : b = 77
 ·rw [if_pos h11]
  subst h11
  change Calls _ _ _ _ (PsPost base _ _ _ (backS s) w)
  go_enter Tryz.func72, Tryz.ntmps72
  go_upto_region 12 with fail
  refine wp_region_lit ?_
  refine wpl_loadS rfl (.tmp 2) rfl rfl (heap_a1 w _ _) rfl ?_
  go_wp2_with fail
  ((with_reducible refine (plineBack_any s r c _ _ _ A4 A5 A6 n4 n5 n6 k4 k5 k6 base _ (by simp; omega) (((H.out.alloc _).alloc _).like rfl rfl rfl) HI.out ).mono ?_); rintro e w4 ⟨uc, ut, uo, up, ui, uu, rfl, hsl, hs4, hf4, hsub4⟩)
  have f1 := hf4.var (heap_a2 w _ _) (H.out.far (by omega))
  rename_i K hK
  refine hK _ _ ?_
  refine wpl_storeS rfl (.tmp 4) (.tmp 40) rfl rfl rfl f1 rfl rfl (hs4.one hsl) ?_
  go_wp2
  refine psEndV (w.heap.size + 1) 4 Tryz.results72 rfl rfl f1 (by omega) (by simp) (H.out.far (by omega)) (Fr.of (two_new w _ _).1 _) (fun x hx => .inl hx) hsl hs4 hf4 hsub4
 rw [if_neg h11]
 have g11 : ((b : Int) == 77) = false := by simp; omega
 by_cases h12 : b = 72
 ·rw [if_pos h12]
  subst h12
  obtain ⟨xx, hxx⟩ : ∃ xx : Nat, xx = s.x.toNat := ⟨_, rfl⟩
  rw [← hxx]
  have hxs : s.x = (xx : Int) := by omega
  have hxt : xx < s.tabs.length := by rw [show s.tabs.length = c from HI.out.tabs]; have := HCO.out; omega
  obtain ⟨q, s0, f0⟩ := H.out.t.spot xx hxt
  clear hxx
  go_enter Tryz.func72, Tryz.ntmps72
  go_upto_region 17 with fail
  refine wp_region_lit ?_
  refine wpl_loadS rfl (.tmp 2) rfl rfl (heap_s1 w _ _ _ _) rfl ?_
  refine wpl_storeS rfl (.tmp 4) (.tmp 55) rfl rfl rfl (heap_s2 w _ _ _ _) rfl rfl (all24 rfl rfl rfl rfl rfl rfl rfl rfl rfl rfl rfl rfl rfl rfl rfl rfl rfl rfl rfl rfl rfl rfl rfl rfl) ?_
  go_wp2
  refine psEndT (w.heap.size + 1) 4 Tryz.results72 ?_ ?_ rfl (heap_s2 w _ _ _ _) (by omega) sl3 H.out ?_ ?_ ?_
  all_goals rfl
 rw [if_neg h12]
 have g12 : ((b : Int) == 72) = false := by simp; omega
 by_cases h13 : b = 99
 ·rw [if_pos h13]
  subst h13
  have hR := HR.out
  have hC := HCO.out
  rw [hR, hC]
  go_enter Tryz.func72, Tryz.ntmps72
  go_wp2_with fail
  ((with_reducible refine (pfresh_any r c _ hr1 hr2 hc1 hc2).mono ?_); rintro e w4 ⟨v1, v2, rfl, hs4, b4⟩)
  have f1 := (b4.block _ (by simp)).trans (heap_a2 w _ _)
  rename_i K hK
  refine hK _ _ ?_
  refine wpl_storeS rfl (.tmp 4) (.tmp 54) rfl rfl rfl f1 rfl rfl (hs4.one sl3) ?_
  go_wp2
  have hz2 := (two_new w (.cells (vS s (.slice (some ⟨g1, 0, none⟩) s.cells.length k1) (.slice (some ⟨g2, 0, none⟩) s.tabs.length k2) (.slice A3 s.other.length k3) (.slice A4 n4 k4) (.slice A5 n5 k5) (.slice A6 n6 k6)) 31) (.cells zQ 31)).2
  have hlt := hs4.lt
  refine psEnd (w.heap.size + 1) 4 Tryz.results72 rfl rfl f1 (by omega) (Fr.of ((two_new w _ _).1.trans (b4.mono (by simp; omega))) _) sl3 (hs4.lower (by simp; omega)) (fun hx => ?_) (fun x hx => .inr ?_)
  ·have := (hlt _ hx).1
   simp at this
   omega
  ·have := (hlt _ hx).1
   simp at this
   omega
 rw [if_neg h13]
 have g13 : ((b : Int) == 99) = false := by simp; omega
 go_enter Tryz.func72, Tryz.ntmps72
 go_upto_region 17 with fail
 refine wp_region_lit ?_
 refine wpl_loadS rfl (.tmp 2) rfl rfl (heap_a1 w _ _) rfl ?_
 refine wpl_storeS rfl (.tmp 4) (.tmp 55) rfl rfl rfl (heap_a2 w _ _) rfl rfl (all24 rfl rfl rfl rfl rfl rfl rfl rfl rfl rfl rfl rfl rfl rfl rfl rfl rfl rfl rfl rfl rfl rfl rfl rfl) ?_
 go_wp2
 refine psEnd0 (w.heap.size + 1) 4 Tryz.results72 ?_ ?_ (heap_a2 w _ _) (by omega) (two_new w _ _).1 sl3 H.out ?_ ?_ ?_
 all_goals rfl
end Go.Proofs.YtlolgfgcgfjdjaaGreatDoor

namespace Go.Proofs.YtlolgfgcgfjdjaaGreatDoor
set_option linter.unusedVariables false
set_option linter.unusedSimpArgs false
set_option maxHeartbeats 400000
set_option maxRecDepth 100000
def rowL (l : List Cl) (c y : Nat) : List Cl := (l.drop (y * c)).take c
section
variable {l : List Cl} {r c : Nat}
theorem row_end {y : Nat} (hy : y < r) : y * c + c ≤ r * c := by
 have := Nat.mul_le_mul_right c (show y + 1 ≤ r from hy)
 rw [Nat.add_mul, Nat.one_mul] at this
 exact this
theorem rowL_len (hg : GOk l.length r c) {y : Nat} (hy : y < r) : (rowL l c y).length = c := by
 have h := row_end (c := c) hy
 rw [← hg.n] at h
 unfold rowL
 simp
 omega
theorem rowL_ok (hg : GOk l.length r c) {y : Nat} (hy : y < r) : GOk (rowL l c y).length 1 c := ⟨hg.c1, hg.c2, Nat.le_refl _, by omega, by rw [rowL_len hg hy, Nat.one_mul]⟩
theorem rowL_getC (y x : Nat) (hx : x < c) : getC (rowL l c y) x = getC l (y * c + x) := by
 unfold rowL
 rw [getC_take _ _ hx, getC_drop]
theorem part_getC (hg : GOk l.length r c) {y : Nat} (hy : y < r) {m : List Cl} (hm : m.length = c) (y' x : Nat) (hy' : y' < r) (hx : x < c) : getC (partL l (y * c) m) (y' * c + x) = if y' = y then getC m x else getC l (y' * c + x) := by
 have h := row_end (c := c) hy
 rw [← hg.n] at h
 have htl : (l.take (y * c)).length = y * c := by simp; omega
 have htm : (l.take (y * c) ++ m).length = y * c + c := by rw [List.length_append, htl, hm]
 unfold partL
 rw [hm]
 by_cases e : y' = y
 ·subst e
  rw [if_pos rfl, getC_app, if_pos (by rw [htm]; omega), getC_app, htl, if_neg (by omega), show y' * c + x - y' * c = x by omega]
 ·rw [if_neg e]
  rcases Nat.lt_or_ge y' y with h1 | h1
  ·have h2 : y' * c + c ≤ y * c := row_end (c := c) h1
   rw [getC_app, if_pos (by rw [htm]; omega), getC_app, htl, if_pos (by omega), getC_take _ _ (by omega)]
  ·have h2 : y * c + c ≤ y' * c := row_end (c := c) (show y < y' by omega)
   rw [getC_app, if_neg (by rw [htm]; omega), htm, getC_drop]
   congr 1
   omega
theorem badH_two {l m : List Cl} {c y y' x : Nat} (he : ∀ x, x < c → getC m (y * c + x) = getC l (y' * c + x)) (hx : x < c) : badH m c (y * c + x) x = badH l c (y' * c + x) x := by
 unfold badH
 rw [he x hx]
 have e1 : (decide (x + 1 = c) || decide ((getC m (y * c + x + 1)).h ≠ 2)) = (decide (x + 1 = c) || decide ((getC l (y' * c + x + 1)).h ≠ 2)) := by
  by_cases h : x + 1 = c
  ·simp [h]
  ·rw [Nat.add_assoc, he (x + 1) (by omega), ← Nat.add_assoc]
 have e2 : (decide (x = 0) || decide ((getC m (y * c + x - 1)).h ≠ 1)) = (decide (x = 0) || decide ((getC l (y' * c + x - 1)).h ≠ 1)) := by
  by_cases h : x = 0
  ·simp [h]
  ·rw [show y * c + x - 1 = y * c + (x - 1) by omega, he (x - 1) (by omega), show y' * c + x - 1 = y' * c + (x - 1) by omega]
 rw [e1, e2]
theorem mend_row0 {F G : List Cl} {y : Nat} (hF : GOk F.length r c) (hG : GOk G.length 1 c) (hy : y < r) (h1 : ∀ x, x < c → getC G x = getC F (y * c + x)) (x : Nat) (hx : x < c) : getC (mendL G (c : Int) 0) x = getC (mendL F (c : Int) (y : Int)) (y * c + x) := by
 have a := mendL_row hG 0 (by omega) x hx
 rw [Nat.zero_mul, Nat.zero_add] at a
 have b := badH_two (l := F) (m := G) (c := c) (y := 0) (y' := y) (x := x) (fun z hz => by rw [Nat.zero_mul, Nat.zero_add]; exact h1 z hz) hx
 rw [Nat.zero_mul, Nat.zero_add] at b
 rw [show ((0 : Nat) : Int) = 0 from rfl] at a
 rw [a, mendL_row hF y hy x hx, b, h1 x hx]
theorem part_mend {F G : List Cl} {y : Nat} (hg : GOk l.length r c) (hF : F.length = l.length) (hG : G.length = c) (hy : y < r) (h1 : ∀ x, x < c → getC G x = getC F (y * c + x)) (h2 : ∀ y' x, y' ≠ y → y' < r → x < c → getC F (y' * c + x) = getC l (y' * c + x)) :
  partL l (y * c) (mendL G (c : Int) 0) = mendL F (c : Int) (y : Int) := by
 have hgF : GOk F.length r c := by rw [hF]; exact hg
 have hgG : GOk G.length 1 c := ⟨hg.c1, hg.c2, Nat.le_refl _, by omega, by rw [hG, Nat.one_mul]⟩
 have hml : (mendL G (c : Int) 0).length = c := by rw [mendL_len, hG]
 have h := row_end (c := c) hy
 rw [← hg.n] at h
 refine rows_ext (r := r) (c := c) (by rw [partL_len _ _ _ (by rw [hml]; exact h), hg.n]) (by rw [mendL_len, hF, hg.n]) hg.c1 (fun y' x hy' hx => ?_)
 rw [part_getC hg hy hml y' x hy' hx]
 by_cases e : y' = y
 ·subst e
  rw [if_pos rfl]
  exact mend_row0 hgF hgG hy h1 x hx
 ·rw [if_neg e, mendL_else y y' x e hx, h2 y' x e hy' hx]
theorem mend_part {y : Nat} (hg : GOk l.length r c) (hy : y < r) : partL l (y * c) (mendL (rowL l c y) (c : Int) 0) = mendL l (c : Int) (y : Int) :=
 part_mend hg rfl (rowL_len hg hy) hy (fun x hx => rowL_getC y x hx) (fun _ _ _ _ _ => rfl)
theorem fill_part {y a b : Nat} {f g : Nat → Cl} (hg : GOk l.length r c) (hy : y < r) (hab : b ≤ c) (hf : ∀ i, a ≤ i → i < b → f i = g (y * c + i)) :
  partL l (y * c) (mendL (fillL (rowL l c y) f a b) (c : Int) 0) = mendL (fillL l g (y * c + a) (y * c + b)) (c : Int) (y : Int) := by
 have h := row_end (c := c) hy
 rw [← hg.n] at h
 refine part_mend hg (fillL_len _ _ _ _) (by rw [fillL_len, rowL_len hg hy]) hy (fun x hx => ?_) (fun y' x hne hy' hx => ?_)
 ·rw [fill_getC, fill_getC, rowL_len hg hy, rowL_getC y x hx]
  by_cases e : a ≤ x ∧ x < b
  ·rw [if_pos (by omega), if_pos (by omega), hf x e.1 e.2]
  ·rw [if_neg (by omega), if_neg (by omega)]
 ·exact fill_other hx hne (by omega) (by omega)
theorem gPlace_row (hg : GOk l.length r c) {y x : Nat} (hy : y < r) (hx : x ≤ c) : gPlace (rowL l c y).length (c : Int) 0 (x : Int) = true ∧ gPlace l.length (c : Int) (y : Int) (x : Int) = true :=
 ⟨gPlace_mk (rowL_ok hg hy) (by omega) (by omega) (by omega) (by omega), gPlace_mk hg (by omega) (by omega) (by omega) (by omega)⟩
theorem insert_part {y x : Nat} (n : Int) (hg : GOk l.length r c) (hy : y < r) (hx : x ≤ c) : partL l (y * c) (insertL (rowL l c y) (c : Int) 0 (x : Int) n) = insertL l (c : Int) (y : Int) (x : Int) n := by
 obtain ⟨h1, h2⟩ := gPlace_row hg hy hx
 unfold insertL
 rw [if_pos h1, if_pos h2]
 simp only [Int.toNat_natCast, Int.toNat_zero, Nat.zero_mul, Nat.zero_add]
 refine fill_part hg hy (Nat.le_refl _) (fun i hi hic => ?_)
 unfold insF
 by_cases e : x + capN n ≤ i
 ·rw [if_pos e, if_pos (by omega), rowL_getC y (i - capN n) (by omega), show y * c + i - capN n = y * c + (i - capN n) by omega]
 ·rw [if_neg e, if_neg (by omega)]
theorem delete_part {y x : Nat} (n : Int) (hg : GOk l.length r c) (hy : y < r) (hx : x ≤ c) : partL l (y * c) (deleteL (rowL l c y) (c : Int) 0 (x : Int) n) = deleteL l (c : Int) (y : Int) (x : Int) n := by
 obtain ⟨h1, h2⟩ := gPlace_row hg hy hx
 unfold deleteL
 rw [if_pos h1, if_pos h2]
 simp only [Int.toNat_natCast, Int.toNat_zero, Nat.zero_mul, Nat.zero_add]
 refine fill_part hg hy (Nat.le_refl _) (fun i hi hic => ?_)
 unfold delF
 by_cases e : i + capN n < c
 ·rw [if_pos e, if_pos (by omega), rowL_getC y (i + capN n) (by omega), show y * c + i + capN n = y * c + (i + capN n) by omega]
 ·rw [if_neg e, if_neg (by omega)]
theorem erase_part {y : Nat} (fr til : Int) (hg : GOk l.length r c) (hy : y < r) : partL l (y * c) (eraseL (rowL l c y) (c : Int) 0 fr til) = eraseL l (c : Int) (y : Int) fr til := by
 obtain ⟨h1, h2⟩ := gPlace_row hg hy (Nat.zero_le c)
 unfold eraseL
 rw [if_pos (by exact h1), if_pos (by exact h2)]
 simp only [Int.toNat_natCast, Int.toNat_zero, Nat.zero_mul, Nat.zero_add]
 refine fill_part hg hy (by unfold capC; omega) (fun i hi hic => rfl)
end
def eraU (l : List Cl) (c : Nat) (fr til : Int) : Nat → List Cl
 | 0 => l
 | k + 1 => if fr < ((k * c : Nat) : Int) + (c : Int) ∧ ((k * c : Nat) : Int) < til then eraseL (eraU l c fr til k) (c : Int) (k : Int) (fr - ((k * c : Nat) : Int)) (til - ((k * c : Nat) : Int)) else eraU l c fr til k
section
variable {l : List Cl} {r c : Nat}
theorem eraU_len (fr til : Int) (k : Nat) : (eraU l c fr til k).length = l.length := by
 induction k with
 | zero => rfl
 | succ k ih =>
  unfold eraU
  split
  ·rw [eraseL_len, ih]
  ·exact ih
theorem eraseL_row (hg : GOk l.length r c) {y : Nat} (hy : y < r) (fr til : Nat) (x : Nat) (hx : x < c) (y' : Nat) (hy' : y' < r) : getC (eraseL l (c : Int) (y : Int) ((fr : Int) - ((y * c : Nat) : Int)) ((til : Int) - ((y * c : Nat) : Int))) (y' * c + x) = if y' = y then getC (mendL (fillL l (fun _ => blankC) fr til) (c : Int) (y : Int)) (y * c + x) else getC l (y' * c + x) := by
 have h2 := gPlace_mk hg (y := (y : Int)) (x := 0) (by omega) (by omega) (by omega) (by omega)
 unfold eraseL
 rw [if_pos h2]
 simp only [Int.toNat_natCast]
 have h := row_end (c := c) hy
 have hn := hg.n
 rw [← hn] at h
 have hl : (fillL l (fun _ => blankC) (y * c + capC ((fr : Int) - ((y * c : Nat) : Int)) (c : Int)) (y * c + capC ((til : Int) - ((y * c : Nat) : Int)) (c : Int))).length = l.length := fillL_len _ _ _ _
 by_cases e : y' = y
 ·subst e
  rw [if_pos rfl, mendL_row (by rw [hl]; exact hg) y' hy x hx, mendL_row (by rw [fillL_len]; exact hg) y' hy x hx]
  have he : ∀ z, z < c → getC (fillL l (fun _ => blankC) (y' * c + capC ((fr : Int) - ((y' * c : Nat) : Int)) (c : Int)) (y' * c + capC ((til : Int) - ((y' * c : Nat) : Int)) (c : Int))) (y' * c + z) = getC (fillL l (fun _ => blankC) fr til) (y' * c + z) := fun z hz => by
   rw [fill_blankC, fill_blankC]
   refine ite_iff ?_ _ _
   unfold capC
   omega
  rw [badH_same he hx, he x hx]
 ·rw [if_neg e, mendL_else y y' x e hx]
  refine fill_other hx e (by omega) ?_
  unfold capC
  omega
theorem eraU_getC (hg : GOk l.length r c) (fr til : Nat) (k : Nat) (hk : k ≤ r) (y x : Nat) (hy : y < r) (hx : x < c) :
  getC (eraU l c (fr : Int) (til : Int) k) (y * c + x) = if y < k ∧ fr < y * c + c ∧ y * c < til then getC (mendL (fillL l (fun _ => blankC) fr til) (c : Int) (y : Int)) (y * c + x) else getC l (y * c + x) := by
 induction k generalizing y x with
 | zero => rw [if_neg (by omega)]; rfl
 | succ k ih =>
  have hgk : GOk (eraU l c (fr : Int) (til : Int) k).length r c := by rw [eraU_len]; exact hg
  unfold eraU
  by_cases e : (fr : Int) < ((k * c : Nat) : Int) + (c : Int) ∧ ((k * c : Nat) : Int) < (til : Int)
  ·rw [if_pos e, eraseL_row hgk (show k < r by omega) fr til x hx y hy]
   by_cases e2 : y = k
   ·subst e2
    rw [if_pos rfl, if_pos (by omega), mendL_row (by rw [fillL_len]; exact hgk) y hy x hx, mendL_row (by rw [fillL_len]; exact hg) y hy x hx]
    have he : ∀ z, z < c → getC (fillL (eraU l c (fr : Int) (til : Int) y) (fun _ => blankC) fr til) (y * c + z) = getC (fillL l (fun _ => blankC) fr til) (y * c + z) := fun z hz => by
     have e0 := ih (by omega) y z hy hz
     rw [if_neg (by omega)] at e0
     rw [fill_blankC, fill_blankC, e0]
    rw [badH_same he hx, he x hx]
   ·rw [if_neg e2, ih (by omega) y x hy hx]
    exact ite_iff (by omega) _ _
  ·rw [if_neg e, ih (by omega) y x hy hx]
   refine ite_iff ?_ _ _
   constructor
   ·intro h; omega
   ·rintro ⟨h1, h2, h3⟩
    refine ⟨?_, h2, h3⟩
    by_cases e3 : y = k
    ·subst e3; omega
    ·omega
theorem eraU_all (hg : GOk l.length r c) (hw : Whole l r c) (fr til Y : Nat) (hY : Y < r) (ho : ∀ y, y < r → y ≠ Y → (fr ≤ y * c ∧ y * c + c ≤ til) ∨ y * c + c ≤ fr ∨ til ≤ y * c) :
  eraU l c (fr : Int) (til : Int) r = mendL (fillL l (fun _ => blankC) fr til) (c : Int) (Y : Int) := by
 have hc := hg.c1
 have hgf : GOk (fillL l (fun _ => blankC) fr til).length r c := by rw [fillL_len]; exact hg
 refine rows_ext (r := r) (c := c) (by rw [eraU_len, hg.n]) (by rw [mendL_len, fillL_len, hg.n]) hg.c1 (fun y x hy hx => ?_)
 rw [eraU_getC hg fr til r (Nat.le_refl _) y x hy hx]
 by_cases e : y = Y
 ·subst e
  by_cases e2 : y < r ∧ fr < y * c + c ∧ y * c < til
  ·rw [if_pos e2]
  ·rw [if_neg e2, mendL_row hgf y hy x hx]
   have he : ∀ z, z < c → getC (fillL l (fun _ => blankC) fr til) (y * c + z) = getC l (y * c + z) := fun z hz => by
    rw [fill_blankC, if_neg (by omega)]
   rw [badH_same he hx, he x hx, hw y hy x hx]
   rfl
 ·rw [mendL_else Y y x e hx]
  rcases ho y hy e with h | h | h
  ·have he : ∀ z, z < c → getC (fillL l (fun _ => blankC) fr til) (y * c + z) = blankC := fun z hz => by
    rw [fill_blankC, if_pos (by omega)]
   rw [if_pos (by omega), mendL_row hgf y hy x hx, (RowW.blank he) x hx]
   rfl
  ·rw [if_neg (by omega), fill_blankC, if_neg (by omega)]
  ·rw [if_neg (by omega), fill_blankC, if_neg (by omega)]
end
end Go.Proofs.YtlolgfgcgfjdjaaGreatDoor

namespace Go.Proofs.YtlolgfgcgfjdjaaGreatDoor
open Go.RowKit
set_option linter.unusedVariables false
set_option linter.unusedSimpArgs false
set_option maxHeartbeats 2000000
set_option maxRecDepth 100000
theorem PsL.bounds {w : World} {base g1 k1 g2 k2 k3 : Nat} {A3 : Option Addr} {s : Sc} {r c : Nat} (h : PsL w base (.slice (some ⟨g1, 0, none⟩) s.cells.length k1) (.slice (some ⟨g2, 0, none⟩) s.tabs.length k2) (.slice A3 s.other.length k3) s) (hi : ScIn { s with wrap := false } r c) :
  base ≤ g1 ∧ g1 < w.heap.size ∧ s.cells.length ≤ k1 ∧ k1 ≤ 9223372036854775807 ∧ base ≤ g2 ∧ g2 < w.heap.size ∧ s.tabs.length ≤ k2 ∧ k2 ≤ 9223372036854775807 ∧ s.other.length ≤ k3 ∧ k3 ≤ 9223372036854775807 := by
 obtain ⟨g1', k1', g2', k2', A3', k3', e1, e2, e3, ⟨a1, a2, a3, a4⟩, ⟨b1, b2, b3, b4⟩, c1, c2⟩ := h.open_ hi
 simp only [Value.slice.injEq, Option.some.injEq, Addr.mk.injEq, true_and, and_true] at e1 e2 e3
 obtain ⟨rfl, rfl⟩ := e1
 obtain ⟨rfl, rfl⟩ := e2
 obtain ⟨-, rfl⟩ := e3
 exact ⟨a1, a2, a3, a4, b1, b2, b3, b4, c1, c2⟩
theorem OC.rowCS {w : World} {base g n cap r c y p P : Nat} {l : List Cl} (h : OC w base (.slice (some ⟨g, 0, none⟩) n cap) l) (hg : GOk l.length r c) (hy : y < r) (hp : p = y * c) (hP : P = p * 3) : CS w w.heap.size (.slice (some ⟨g, P, none⟩) c (cap - p)) (rowL l c y) := by
 obtain rfl := h.len
 have he := row_end (c := c) hy
 rw [← hg.n] at he
 have hc := hg.c1
 obtain ⟨g', k', e', -, -, hcap, -⟩ := h.open_ (by omega)
 simp only [Value.slice.injEq] at e'
 have := h.cs.cut p c c (by omega) rfl
 rw [if_neg (by omega)] at this
 simp only [Option.map_some, add0g] at this
 subst hp
 subst hP
 exact this
theorem OC.putQ {w : World} {base g n cap k Q : Nat} {l : List Cl} (h : OC w base (.slice (some ⟨g, 0, none⟩) n cap) l) (hk : k < n) (hQ : k * 3 = Q) (c : Cl) :
  OC (((w.setCell ⟨g, Q, none⟩ (.int .i32 c.r)).setCell ⟨g, Q + 1, none⟩ (.int .u16 (c.a : Int))).setCell ⟨g, Q + 2, none⟩ (.int .u8 (c.h : Int))) base (.slice (some ⟨g, 0, none⟩) n cap) (l.set k c) := by
 subst hQ
 exact h.put k hk c
theorem OC.spotQ {w : World} {base g n cap k Q : Nat} {l : List Cl} (h : OC w base (.slice (some ⟨g, 0, none⟩) n cap) l) (hk : k < n) (hQ : k * 3 = Q) : ∃ x y z, w.cell? ⟨g, Q, none⟩ = some x ∧ w.cell? ⟨g, Q + 1, none⟩ = some y ∧ w.cell? ⟨g, Q + 2, none⟩ = some z ∧ w.frozen? ⟨g, Q, none⟩ = false ∧ w.frozen? ⟨g, Q + 1, none⟩ = false ∧ w.frozen? ⟨g, Q + 2, none⟩ = false := by
 subst hQ
 exact h.spot k hk
theorem OC.halfQ {w : World} {base g n cap k Q hh : Nat} {l : List Cl} {c : Cl} (h : OC w base (.slice (some ⟨g, 0, none⟩) n cap) (l.set k c)) (hk : k < n) (hQ : k * 3 = Q) :
  OC (w.setCell ⟨g, Q + 2, none⟩ (.int .u8 (hh : Int))) base (.slice (some ⟨g, 0, none⟩) n cap) (l.set k { c with h := hh }) := by
 subst hQ
 have hl := h.len
 rw [List.length_set] at hl
 have hw := h
 unfold OC at hw ⊢
 rw [List.length_set] at hw ⊢
 rw [← hl] at hw ⊢
 have := (World.ownsRow.stored hw (k * 3 + 2) (.int .u8 (hh : Int))).1
 rw [vCs_set l k _ (by omega)] at this ⊢
 rw [List.set_set] at this
 exact this
theorem fr_put3 {w w' : World} {g : Nat} (h : Fr (fun x => x = g) w w') (Q1 Q2 Q3 : Nat) (x y z : Value) : Fr (fun x => x = g) w (((w'.setCell ⟨g, Q1, none⟩ x).setCell ⟨g, Q2, none⟩ y).setCell ⟨g, Q3, none⟩ z) :=
 ((h.setCell (.inl rfl) _).setCell (.inl rfl) _).setCell (.inl rfl) _
theorem prowOf_any (s : Sc) (r c g1 k1 g2 k2 : Nat) (A3 : Option Addr) (k3 : Nat) (A4 A5 A6 : Option Addr) (n4 n5 n6 k4 k5 k6 : Nat) (base : Nat) (w : World) (hbase : base ≤ w.heap.size) (h : PsL w base (.slice (some ⟨g1, 0, none⟩) s.cells.length k1) (.slice (some ⟨g2, 0, none⟩) s.tabs.length k2) (.slice A3 s.other.length k3) s) (hi : ScIn { s with wrap := false } r c) (y p P : Nat) (hy : y < r) (hp : p = y * c) (hP : P = p * 3) (yi : Int) (hyi : yi = (y : Int)) :
  Calls Tryz.prog 51 #[.agg (vS s (.slice (some ⟨g1, 0, none⟩) s.cells.length k1) (.slice (some ⟨g2, 0, none⟩) s.tabs.length k2) (.slice A3 s.other.length k3) (.slice A4 n4 k4) (.slice A5 n5 k5) (.slice A6 n6 k6)), .int .i64 yi] w fun e w' => e = .returned (.slice (some ⟨g1, P, none⟩) c (k1 - p)) ∧ Below w.heap.size w w' := by
 obtain ⟨b1, l1, p1, q1, b2, l2, p2, q2, p3, q3⟩ := h.bounds hi
 have H := Lib.hid h
 have HI := Lib.hid hi
 obtain ⟨hlen, hr1, hr2, hc1, hc2, HR, HCO, hr3, hr4, hc3, hc4, y0, y1, x0, x1, t0, t1, u1⟩ := pIn hi
 clear h hi
 subst hyi
 have hn : s.cells.length = r * c := HI.out.g.n
 have he := row_end (c := c) hy
 rw [← hn, ← hp] at he
 have hq1 : (y : Int) * s.cols = (p : Int) := by rw [HCO.out, hp]; simp
 have hq2 : ((y : Int) + 1) * s.cols = (p : Int) + (c : Int) := by rw [Int.add_mul, Int.one_mul, hq1, HCO.out]
 have hq3 : p + c - p = c := by omega
 have hne : ¬ k1 = p := by omega
 have hyb : y ≤ 1000 := by omega
 have HPP := Lib.hid hP
 clear hn hp hP
 go_enter Tryz.func51, Tryz.ntmps51
 go_wp2
 go_ret
 refine ⟨?_, (Below.refl _ _).alloc (Nat.le_refl _) _⟩
 rw [HPP.out]
 show Ending.returned (.slice (some ⟨g1, p * 3, none⟩) (p + c - p) (k1 - p)) = _
 rw [hq3]
def WrPost (l : List Cl) (base g n cap : Nat) (w : World) (e : Ending) (w' : World) : Prop := e = .returned (.tuple #[]) ∧ OC w' base (.slice (some ⟨g, 0, none⟩) n cap) l ∧ Fr (fun x => x = g) w w'
theorem atS_nat {s : Sc} {c y x : Nat} (hc : s.cols = c) (hy : s.y = y) (hx : s.x = x) : atS s = y * c + x := by
 unfold atS
 rw [hc, hy, hx]
 have : ((y : Int) * (c : Int) + (x : Int)) = ((y * c + x : Nat) : Int) := by simp
 omega
theorem pwrite1_any (s : Sc) (r c g1 k1 g2 k2 : Nat) (A3 : Option Addr) (k3 : Nat) (A4 A5 A6 : Option Addr) (n4 n5 n6 k4 k5 k6 : Nat) (base : Nat) (w : World) (hbase : base ≤ w.heap.size) (h : PsL w base (.slice (some ⟨g1, 0, none⟩) s.cells.length k1) (.slice (some ⟨g2, 0, none⟩) s.tabs.length k2) (.slice A3 s.other.length k3) s) (hi : ScIn { s with wrap := false } r c) (rn : Int)  :
  Calls Tryz.prog 107 #[.agg (vS s (.slice (some ⟨g1, 0, none⟩) s.cells.length k1) (.slice (some ⟨g2, 0, none⟩) s.tabs.length k2) (.slice A3 s.other.length k3) (.slice A4 n4 k4) (.slice A5 n5 k5) (.slice A6 n6 k6)), .int .i32 rn, .int .i64 1] w (WrPost (mendL (cells1 s rn) s.cols s.y) base g1 s.cells.length k1 w) := by
 obtain ⟨b1, l1, p1, q1, b2, l2, p2, q2, p3, q3⟩ := h.bounds hi
 have H := Lib.hid h
 have HI := Lib.hid hi
 obtain ⟨hlen, hr1, hr2, hc1, hc2, HR, HCO, hr3, hr4, hc3, hc4, y0, y1, x0, x1, t0, t1, u1⟩ := pIn hi
 clear h hi
 obtain ⟨Y, hY⟩ : ∃ Y : Nat, s.y = (Y : Int) := ⟨s.y.toNat, by omega⟩
 obtain ⟨X, hX⟩ : ∃ X : Nat, s.x = (X : Int) := ⟨s.x.toNat, by omega⟩
 have hYr : Y < r := by have := HR.out; omega
 have hXc : X < c := by have := HCO.out; omega
 have hn : s.cells.length = r * c := HI.out.g.n
 have hG : GOk s.cells.length r c := HI.out.g
 have hat := atS_nat HCO.out hY hX
 obtain ⟨p, hp⟩ : ∃ p, p = Y * c := ⟨_, rfl⟩
 obtain ⟨P, hP⟩ : ∃ P, P = p * 3 := ⟨_, rfl⟩
 have he := row_end (c := c) hYr
 rw [← hn, ← hp] at he
 rw [← hp] at hat
 have hQ : (p + X) * 3 = P + X * 3 := by omega
 have HAT := Lib.hid hat
 have HP := Lib.hid hp
 have HPP := Lib.hid hP
 have HG := Lib.hid hG
 have HQ := Lib.hid hQ
 have hXl : (X : Int) < (c : Int) := by omega
 have HY := Lib.hid hY
 have HX := Lib.hid hX
 have k0 := heap_alloc_new w (.cells (vS s (.slice (some ⟨g1, 0, none⟩) s.cells.length k1) (.slice (some ⟨g2, 0, none⟩) s.tabs.length k2) (.slice A3 s.other.length k3) (.slice A4 n4 k4) (.slice A5 n5 k5) (.slice A6 n6 k6)) 31)
 have K0 := Lib.hid k0
 clear hn hG hat hp hP hQ k0 hY hX
 go_enter Tryz.func107, Tryz.ntmps107
 go_upto_region 1 with fail
 refine wp_region_lit ?_
 refine wpl_loadS rfl (.tmp 3) rfl rfl K0.out rfl ?_
 go_wp2_with fail
 ((with_reducible refine (prowOf_any s r c g1 k1 g2 k2 A3 k3 A4 A5 A6 n4 n5 n6 k4 k5 k6 base _ (by simp; omega) (H.out.alloc _) HI.out Y p P hYr HP.out HPP.out s.y HY.out).mono ?_); rintro e w1 ⟨rfl, b1⟩)
 have e1 := (b1.block _ (by simp)).trans K0.out
 have z1 := b1.size
 have bb1 : Below w.heap.size w w1 := ((Below.refl _ _).alloc (Nat.le_refl _) _).trans (b1.mono (by simp))
 have hz1 := bb1.size
 have hz1s : w.heap.size < w1.heap.size := by have h := z1; simp at h; omega
 have H1 := Lib.hid (H.out.below bb1)
 have E1 := Lib.hid e1
 have B1 := Lib.hid bb1
 obtain ⟨d1, f1⟩ := cellR (v := .int .i64 s.cols) e1 1 rfl
 obtain ⟨d4, f4⟩ := cellR (v := .int .i64 s.x) e1 4 rfl
 obtain ⟨d6, f6⟩ := cellR (v := .int .u16 (s.attr : Int)) e1 6 rfl
 obtain ⟨x0', y0', z0', s0, s1, s2, t0', t1', t2'⟩ := H1.out.c.spotQ (k := p + X) (by omega) HQ.out
 clear e1 b1 bb1
 rename_i K hK
 refine hK _ _ ?_
 clear hK
 have hX := HX.out
 have hS : s.cols = (c : Int) := HCO.out
 go_upto_region 3 with fail
 clear s0 s1 s2 t0' t1' t2' f1 f4 f6
 obtain ⟨w2, hW⟩ : ∃ W, W = (((w1.setCell ⟨g1, P + X * 3, none⟩ (.int .i32 rn)).setCell ⟨g1, P + X * 3 + 1, none⟩ (.int .u16 (s.attr : Int))).setCell ⟨g1, P + X * 3 + 2, none⟩ (.int .u8 0)) := ⟨_, rfl⟩
 rw [← hW]
 have o2 : OC w2 base (.slice (some ⟨g1, 0, none⟩) s.cells.length k1) (s.cells.set (p + X) ⟨rn, s.attr, 0⟩) := by rw [hW]; exact H1.out.c.putQ (k := p + X) (by omega) HQ.out ⟨rn, s.attr, 0⟩
 have f2 : Fr (fun x => x = g1) w1 w2 := by rw [hW]; exact fr_put3 (Fr.refl _ _) _ _ _ _ _ _
 have e2 := (f2.block w.heap.size (by omega) (fun e => by have : w.heap.size = g1 := e; omega)).trans E1.out
 have z2 := f2.size
 have O2 := Lib.hid o2
 have F2 := Lib.hid f2
 have E2 := Lib.hid e2
 replace d1 := (cellR (v := .int .i64 s.cols) e2 1 rfl).1
 replace d4 := (cellR (v := .int .i64 s.x) e2 4 rfl).1
 replace d6 := (cellR (v := .int .u16 (s.attr : Int)) e2 6 rfl).1
 clear o2 f2 e2 hW
 obtain ⟨L, hL⟩ : ∃ L, L = (s.cells.set (p + X) ⟨rn, s.attr, 0⟩) := ⟨_, rfl⟩
 have o5 : OC w2 base (.slice (some ⟨g1, 0, none⟩) s.cells.length k1) L := by rw [hL]; exact O2.out
 have hLl : L.length = s.cells.length := by rw [hL]; simp
 have hgL : GOk L.length r c := by rw [hLl]; exact HG.out
 have hC := o5.rowCS hgL hYr HP.out HPP.out
 have hrl := rowL_len hgL hYr
 have hml : (mendL (rowL L c Y) (c : Int) 0).length = c := by rw [mendL_len, hrl]
 have HL := Lib.hid hL
 have O5 := Lib.hid o5
 have HGL := Lib.hid hgL
 have HC := Lib.hid hC
 have HML := Lib.hid hml
 have HRL := Lib.hid hrl
 have HLL := Lib.hid hLl
 clear hL o5 hgL hC hml hrl hLl
 go_wp2_with (first
  | (go_at_call 55; (with_reducible refine (gmend_any _ (rowL L c Y) (c : Int) 0 _ HC.out (by rw [HRL.out]; omega)).mono ?_); rintro e w6 ⟨v6, rfl, o6, b6⟩; obtain ⟨A6', k6', rfl, p6', q6'⟩ := o6.form; rw [HML.out] at p6'; have HO6 := Lib.hid o6; have HB6 := Lib.hid b6; clear o6 b6)
  | ((with_reducible refine wpl_copyC _ (o := ⟨some 39, _, _, _, _, _⟩) ?_ (.tmp 34) (.tmp 38) ?_ base w6.heap.size g1 s.cells.length k1 P p c (k1 - p) _ L (mendL (rowL L c Y) (c : Int) 0) ?_ ?_ (O5.out.below HB6.out) HPP.out HO6.out HML.out (by omega) (by rw [HLL.out]; omega) ?_); rfl; rfl; rfl; rfl; intro w7 o7 f7 z7; have O7 := Lib.hid o7; have F7 := Lib.hid f7; clear o7 f7 z7))
 go_end0
 refine ⟨rfl, ?_, ?_⟩
 ·have e := mend_part HGL.out hYr
  rw [← HP.out] at e
  have o := O7.out
  rw [e, HL.out] at o
  unfold cells1
  rw [HAT.out, HY.out]
  exact o
 ·have fa := (Fr.of B1.out (fun x => x = g1)).trans F2.out (fun x hx => .inl hx)
  exact (fa.trans (Fr.of HB6.out (fun x => x = g1)) (fun x hx => .inl hx)).trans F7.out (fun x hx => .inl hx)
theorem pwrite2_any (s : Sc) (r c g1 k1 g2 k2 : Nat) (A3 : Option Addr) (k3 : Nat) (A4 A5 A6 : Option Addr) (n4 n5 n6 k4 k5 k6 : Nat) (base : Nat) (w : World) (hbase : base ≤ w.heap.size) (h : PsL w base (.slice (some ⟨g1, 0, none⟩) s.cells.length k1) (.slice (some ⟨g2, 0, none⟩) s.tabs.length k2) (.slice A3 s.other.length k3) s) (hi : ScIn { s with wrap := false } r c) (rn : Int) (hx2 : s.x + 1 < s.cols) :
  Calls Tryz.prog 107 #[.agg (vS s (.slice (some ⟨g1, 0, none⟩) s.cells.length k1) (.slice (some ⟨g2, 0, none⟩) s.tabs.length k2) (.slice A3 s.other.length k3) (.slice A4 n4 k4) (.slice A5 n5 k5) (.slice A6 n6 k6)), .int .i32 rn, .int .i64 2] w (WrPost (mendL (cells2 s rn) s.cols s.y) base g1 s.cells.length k1 w) := by
 obtain ⟨b1, l1, p1, q1, b2, l2, p2, q2, p3, q3⟩ := h.bounds hi
 have H := Lib.hid h
 have HI := Lib.hid hi
 obtain ⟨hlen, hr1, hr2, hc1, hc2, HR, HCO, hr3, hr4, hc3, hc4, y0, y1, x0, x1, t0, t1, u1⟩ := pIn hi
 clear h hi
 obtain ⟨Y, hY⟩ : ∃ Y : Nat, s.y = (Y : Int) := ⟨s.y.toNat, by omega⟩
 obtain ⟨X, hX⟩ : ∃ X : Nat, s.x = (X : Int) := ⟨s.x.toNat, by omega⟩
 have hYr : Y < r := by have := HR.out; omega
 have hXc : X < c := by have := HCO.out; omega
 have hXc2 : X + 1 < c := by have := HCO.out; omega
 have hn : s.cells.length = r * c := HI.out.g.n
 have hG : GOk s.cells.length r c := HI.out.g
 have hat := atS_nat HCO.out hY hX
 obtain ⟨p, hp⟩ : ∃ p, p = Y * c := ⟨_, rfl⟩
 obtain ⟨P, hP⟩ : ∃ P, P = p * 3 := ⟨_, rfl⟩
 have he := row_end (c := c) hYr
 rw [← hn, ← hp] at he
 rw [← hp] at hat
 have hQ : (p + X) * 3 = P + X * 3 := by omega
 have HAT := Lib.hid hat
 have HP := Lib.hid hp
 have HPP := Lib.hid hP
 have HG := Lib.hid hG
 have HQ := Lib.hid hQ
 have hXl : (X : Int) < (c : Int) := by omega
 have HY := Lib.hid hY
 have HX := Lib.hid hX
 have k0 := heap_alloc_new w (.cells (vS s (.slice (some ⟨g1, 0, none⟩) s.cells.length k1) (.slice (some ⟨g2, 0, none⟩) s.tabs.length k2) (.slice A3 s.other.length k3) (.slice A4 n4 k4) (.slice A5 n5 k5) (.slice A6 n6 k6)) 31)
 have K0 := Lib.hid k0
 clear hn hG hat hp hP hQ k0 hY hX
 go_enter Tryz.func107, Tryz.ntmps107
 go_upto_region 1 with fail
 refine wp_region_lit ?_
 refine wpl_loadS rfl (.tmp 3) rfl rfl K0.out rfl ?_
 go_wp2_with fail
 ((with_reducible refine (prowOf_any s r c g1 k1 g2 k2 A3 k3 A4 A5 A6 n4 n5 n6 k4 k5 k6 base _ (by simp; omega) (H.out.alloc _) HI.out Y p P hYr HP.out HPP.out s.y HY.out).mono ?_); rintro e w1 ⟨rfl, b1⟩)
 have e1 := (b1.block _ (by simp)).trans K0.out
 have z1 := b1.size
 have bb1 : Below w.heap.size w w1 := ((Below.refl _ _).alloc (Nat.le_refl _) _).trans (b1.mono (by simp))
 have hz1 := bb1.size
 have hz1s : w.heap.size < w1.heap.size := by have h := z1; simp at h; omega
 have H1 := Lib.hid (H.out.below bb1)
 have E1 := Lib.hid e1
 have B1 := Lib.hid bb1
 obtain ⟨d1, f1⟩ := cellR (v := .int .i64 s.cols) e1 1 rfl
 obtain ⟨d4, f4⟩ := cellR (v := .int .i64 s.x) e1 4 rfl
 obtain ⟨d6, f6⟩ := cellR (v := .int .u16 (s.attr : Int)) e1 6 rfl
 obtain ⟨x0', y0', z0', s0, s1, s2, t0', t1', t2'⟩ := H1.out.c.spotQ (k := p + X) (by omega) HQ.out
 clear e1 b1 bb1
 rename_i K hK
 refine hK _ _ ?_
 clear hK
 have hX := HX.out
 have hS : s.cols = (c : Int) := HCO.out
 go_upto_region 3 with fail
 clear s0 s1 s2 t0' t1' t2' f1 f4 f6
 obtain ⟨w2, hW⟩ : ∃ W, W = (((w1.setCell ⟨g1, P + X * 3, none⟩ (.int .i32 rn)).setCell ⟨g1, P + X * 3 + 1, none⟩ (.int .u16 (s.attr : Int))).setCell ⟨g1, P + X * 3 + 2, none⟩ (.int .u8 0)) := ⟨_, rfl⟩
 rw [← hW]
 have o2 : OC w2 base (.slice (some ⟨g1, 0, none⟩) s.cells.length k1) (s.cells.set (p + X) ⟨rn, s.attr, 0⟩) := by rw [hW]; exact H1.out.c.putQ (k := p + X) (by omega) HQ.out ⟨rn, s.attr, 0⟩
 have f2 : Fr (fun x => x = g1) w1 w2 := by rw [hW]; exact fr_put3 (Fr.refl _ _) _ _ _ _ _ _
 have e2 := (f2.block w.heap.size (by omega) (fun e => by have : w.heap.size = g1 := e; omega)).trans E1.out
 have z2 := f2.size
 have O2 := Lib.hid o2
 have F2 := Lib.hid f2
 have E2 := Lib.hid e2
 replace d1 := (cellR (v := .int .i64 s.cols) e2 1 rfl).1
 replace d4 := (cellR (v := .int .i64 s.x) e2 4 rfl).1
 replace d6 := (cellR (v := .int .u16 (s.attr : Int)) e2 6 rfl).1
 clear o2 f2 e2 hW
 obtain ⟨x0', y0', z0', s0, s1, s2, t0', t1', t2'⟩ := O2.out.spotQ (k := p + X) (by simpa using (show p + X < s.cells.length by omega)) HQ.out
 go_upto_region 5 with fail
 clear s0 s1 s2 t0' t1' t2'
 obtain ⟨w3, hW⟩ : ∃ W, W = w2.setCell ⟨g1, P + X * 3 + 2, none⟩ (.int .u8 1) := ⟨_, rfl⟩
 rw [← hW]
 have o2 : OC w3 base (.slice (some ⟨g1, 0, none⟩) s.cells.length k1) (s.cells.set (p + X) ⟨rn, s.attr, 1⟩) := by rw [hW]; exact OC.halfQ (hh := 1) O2.out (by omega) HQ.out
 have f2 : Fr (fun x => x = g1) w2 w3 := by rw [hW]; exact (Fr.refl (fun x => x = g1) _).setCell (.inl rfl) _
 have e2 := (f2.block w.heap.size (by omega) (fun e => by have : w.heap.size = g1 := e; omega)).trans E2.out
 have z3 := f2.size
 have O3 := Lib.hid o2
 have F3 := Lib.hid f2
 have E3 := Lib.hid e2
 replace d1 := (cellR (v := .int .i64 s.cols) e2 1 rfl).1
 replace d4 := (cellR (v := .int .i64 s.x) e2 4 rfl).1
 replace d6 := (cellR (v := .int .u16 (s.attr : Int)) e2 6 rfl).1
 clear o2 f2 e2 hW
 have hQ2 : (p + X + 1) * 3 = P + (X + 1) * 3 := by have := HQ.out; omega
 have hXi : (X : Int) + 1 < (c : Int) := by omega
 obtain ⟨x0', y0', z0', s0, s1, s2, t0', t1', t2'⟩ := O3.out.spotQ (k := p + X + 1) (by omega) hQ2
 have HQ2 := Lib.hid hQ2
 clear hQ2
 go_upto_region 6 with fail
 clear s0 s1 s2 t0' t1' t2'
 obtain ⟨w4, hW⟩ : ∃ W, W = (((w3.setCell ⟨g1, P + (X + 1) * 3, none⟩ (.int .i32 0)).setCell ⟨g1, P + (X + 1) * 3 + 1, none⟩ (.int .u16 (s.attr : Int))).setCell ⟨g1, P + (X + 1) * 3 + 2, none⟩ (.int .u8 2)) := ⟨_, rfl⟩
 rw [← hW]
 have o2 : OC w4 base (.slice (some ⟨g1, 0, none⟩) s.cells.length k1) ((s.cells.set (p + X) ⟨rn, s.attr, 1⟩).set (p + X + 1) ⟨0, s.attr, 2⟩) := by rw [hW]; exact O3.out.putQ (k := p + X + 1) (by omega) HQ2.out ⟨0, s.attr, 2⟩
 have f2 : Fr (fun x => x = g1) w3 w4 := by rw [hW]; exact fr_put3 (Fr.refl _ _) _ _ _ _ _ _
 have e2 := (f2.block w.heap.size (by omega) (fun e => by have : w.heap.size = g1 := e; omega)).trans E3.out
 have z4 := f2.size
 have O4 := Lib.hid o2
 have F4 := Lib.hid f2
 have E4 := Lib.hid e2
 replace d1 := (cellR (v := .int .i64 s.cols) e2 1 rfl).1
 replace d4 := (cellR (v := .int .i64 s.x) e2 4 rfl).1
 replace d6 := (cellR (v := .int .u16 (s.attr : Int)) e2 6 rfl).1
 clear o2 f2 e2 hW
 obtain ⟨L, hL⟩ : ∃ L, L = ((s.cells.set (p + X) ⟨rn, s.attr, 1⟩).set (p + X + 1) ⟨0, s.attr, 2⟩) := ⟨_, rfl⟩
 have o5 : OC w4 base (.slice (some ⟨g1, 0, none⟩) s.cells.length k1) L := by rw [hL]; exact O4.out
 have hLl : L.length = s.cells.length := by rw [hL]; simp
 have hgL : GOk L.length r c := by rw [hLl]; exact HG.out
 have hC := o5.rowCS hgL hYr HP.out HPP.out
 have hrl := rowL_len hgL hYr
 have hml : (mendL (rowL L c Y) (c : Int) 0).length = c := by rw [mendL_len, hrl]
 have HL := Lib.hid hL
 have O5 := Lib.hid o5
 have HGL := Lib.hid hgL
 have HC := Lib.hid hC
 have HML := Lib.hid hml
 have HRL := Lib.hid hrl
 have HLL := Lib.hid hLl
 clear hL o5 hgL hC hml hrl hLl
 go_wp2_with (first
  | (go_at_call 55; (with_reducible refine (gmend_any _ (rowL L c Y) (c : Int) 0 _ HC.out (by rw [HRL.out]; omega)).mono ?_); rintro e w6 ⟨v6, rfl, o6, b6⟩; obtain ⟨A6', k6', rfl, p6', q6'⟩ := o6.form; rw [HML.out] at p6'; have HO6 := Lib.hid o6; have HB6 := Lib.hid b6; clear o6 b6)
  | ((with_reducible refine wpl_copyC _ (o := ⟨some 39, _, _, _, _, _⟩) ?_ (.tmp 34) (.tmp 38) ?_ base w6.heap.size g1 s.cells.length k1 P p c (k1 - p) _ L (mendL (rowL L c Y) (c : Int) 0) ?_ ?_ (O5.out.below HB6.out) HPP.out HO6.out HML.out (by omega) (by rw [HLL.out]; omega) ?_); rfl; rfl; rfl; rfl; intro w7 o7 f7 z7; have O7 := Lib.hid o7; have F7 := Lib.hid f7; clear o7 f7 z7))
 go_end0
 refine ⟨rfl, ?_, ?_⟩
 ·have e := mend_part HGL.out hYr
  rw [← HP.out] at e
  have o := O7.out
  rw [e, HL.out] at o
  unfold cells2
  rw [HAT.out, HY.out]
  exact o
 ·have fa := (Fr.of B1.out (fun x => x = g1)).trans F2.out (fun x hx => .inl hx)
  replace fa := (fa.trans F3.out (fun x hx => .inl hx)).trans F4.out (fun x hx => .inl hx)
  exact (fa.trans (Fr.of HB6.out (fun x => x = g1)) (fun x hx => .inl hx)).trans F7.out (fun x hx => .inl hx)
end Go.Proofs.YtlolgfgcgfjdjaaGreatDoor

namespace Go.Proofs.YtlolgfgcgfjdjaaGreatDoor
open Go.RowKit
set_option linter.unusedVariables false
set_option linter.unusedSimpArgs false
set_option maxHeartbeats 2000000
set_option maxRecDepth 100000
theorem eraU_ok {l : List Cl} (h : ∀ x ∈ l, cellB x = true) (c : Nat) (fr til : Int) (k : Nat) : ∀ x ∈ eraU l c fr til k, cellB x = true := by
 induction k with
 | zero => exact h
 | succ k ih =>
  unfold eraU
  split
  ·exact eraseL_ok ih _ _ _ _
  ·exact ih
theorem prowOf_like (s : Sc) (r c g1 k1 g2 k2 : Nat) (A3 : Option Addr) (k3 : Nat) (A4 A5 A6 : Option Addr) (n4 n5 n6 k4 k5 k6 : Nat) (base : Nat) (w : World) (L : List Cl) (hL : L.length = s.cells.length) (hbase : base ≤ w.heap.size) (h : PsL w base (.slice (some ⟨g1, 0, none⟩) s.cells.length k1) (.slice (some ⟨g2, 0, none⟩) s.tabs.length k2) (.slice A3 s.other.length k3) { s with cells := L }) (hi : ScIn { s with cells := L, wrap := false } r c) (y p P : Nat) (hy : y < r) (hp : p = y * c) (hP : P = p * 3) (yi : Int) (hyi : yi = (y : Int)) :
  Calls Tryz.prog 51 #[.agg (vS s (.slice (some ⟨g1, 0, none⟩) s.cells.length k1) (.slice (some ⟨g2, 0, none⟩) s.tabs.length k2) (.slice A3 s.other.length k3) (.slice A4 n4 k4) (.slice A5 n5 k5) (.slice A6 n6 k6)), .int .i64 yi] w fun e w' => e = .returned (.slice (some ⟨g1, P, none⟩) c (k1 - p)) ∧ Below w.heap.size w w' := by
 have h' := prowOf_any { s with cells := L } r c g1 k1 g2 k2 A3 k3 A4 A5 A6 n4 n5 n6 k4 k5 k6 base w hbase (by show PsL w base (.slice (some ⟨g1, 0, none⟩) L.length k1) _ _ _; rw [hL]; exact h) hi y p P hy hp hP yi hyi
 change Calls _ _ #[.agg (vS s (.slice (some ⟨g1, 0, none⟩) L.length k1) (.slice (some ⟨g2, 0, none⟩) s.tabs.length k2) (.slice A3 s.other.length k3) (.slice A4 n4 k4) (.slice A5 n5 k5) (.slice A6 n6 k6)), _] w _ at h'
 rw [hL] at h'
 exact h'
def EcRel (s : Sc) (r c g1 k1 : Nat) (vt vo : Value) (box : Obj) (F T : Nat) (base : Nat) (w : World) (i : Value) (wr : World) : Prop :=
 ∃ y : Nat, y ≤ r ∧ i = .int .i64 (y : Int) ∧ wr.heap[w.heap.size]? = some box ∧ PsL wr base (.slice (some ⟨g1, 0, none⟩) s.cells.length k1) vt vo { s with cells := eraU s.cells c F T y } ∧ Fr (fun x => x = g1) w wr ∧ w.heap.size < wr.heap.size
theorem peraseC_any (s : Sc) (r c g1 k1 g2 k2 : Nat) (A3 : Option Addr) (k3 : Nat) (A4 A5 A6 : Option Addr) (n4 n5 n6 k4 k5 k6 : Nat) (base : Nat) (w : World) (hbase : base ≤ w.heap.size) (h : PsL w base (.slice (some ⟨g1, 0, none⟩) s.cells.length k1) (.slice (some ⟨g2, 0, none⟩) s.tabs.length k2) (.slice A3 s.other.length k3) s) (hi : ScIn { s with wrap := false } r c) (F T : Nat) (hF : F ≤ 1048576) (hT : T ≤ 1048576) :
  Calls Tryz.prog 163 #[.agg (vS s (.slice (some ⟨g1, 0, none⟩) s.cells.length k1) (.slice (some ⟨g2, 0, none⟩) s.tabs.length k2) (.slice A3 s.other.length k3) (.slice A4 n4 k4) (.slice A5 n5 k5) (.slice A6 n6 k6)), .int .i64 (F : Int), .int .i64 (T : Int)] w (WrPost (eraU s.cells c F T r) base g1 s.cells.length k1 w) := by
 obtain ⟨b1, l1, p1, q1, b2, l2, p2, q2, p3, q3⟩ := h.bounds hi
 have H := Lib.hid h
 have HI := Lib.hid hi
 obtain ⟨hlen, hr1, hr2, hc1, hc2, HR, HCO, hr3, hr4, hc3, hc4, y0, y1, x0, x1, t0, t1, u1⟩ := pIn hi
 clear h hi
 have HG : Hid (GOk s.cells.length r c) := HI.out.g
 have k0 := heap_alloc_new w (.cells (vS s (.slice (some ⟨g1, 0, none⟩) s.cells.length k1) (.slice (some ⟨g2, 0, none⟩) s.tabs.length k2) (.slice A3 s.other.length k3) (.slice A4 n4 k4) (.slice A5 n5 k5) (.slice A6 n6 k6)) 31)
 have K0 := Lib.hid k0
 have HPA := Lib.hid (H.out.alloc (.cells (vS s (.slice (some ⟨g1, 0, none⟩) s.cells.length k1) (.slice (some ⟨g2, 0, none⟩) s.tabs.length k2) (.slice A3 s.other.length k3) (.slice A4 n4 k4) (.slice A5 n5 k5) (.slice A6 n6 k6)) 31))
 have HFA : Hid (Fr (fun x => x = g1) w (w.alloc (.cells (vS s (.slice (some ⟨g1, 0, none⟩) s.cells.length k1) (.slice (some ⟨g2, 0, none⟩) s.tabs.length k2) (.slice A3 s.other.length k3) (.slice A4 n4 k4) (.slice A5 n5 k5) (.slice A6 n6 k6)) 31))) := Fr.of ((Below.refl _ _).alloc (Nat.le_refl _) _) _
 have HSZ : Hid ((w.alloc (.cells (vS s (.slice (some ⟨g1, 0, none⟩) s.cells.length k1) (.slice (some ⟨g2, 0, none⟩) s.tabs.length k2) (.slice A3 s.other.length k3) (.slice A4 n4 k4) (.slice A5 n5 k5) (.slice A6 n6 k6)) 31)).heap.size = w.heap.size + 1) := (by simp : (w.alloc (.cells (vS s (.slice (some ⟨g1, 0, none⟩) s.cells.length k1) (.slice (some ⟨g2, 0, none⟩) s.tabs.length k2) (.slice A3 s.other.length k3) (.slice A4 n4 k4) (.slice A5 n5 k5) (.slice A6 n6 k6)) 31)).heap.size = w.heap.size + 1)
 clear k0
 go_enter Tryz.func163, Tryz.ntmps163
 go_wp2
 go_loopw [11] (fun i wr => EcRel s r c g1 k1 (.slice (some ⟨g2, 0, none⟩) s.tabs.length k2) (.slice A3 s.other.length k3) (.cells (vS s (.slice (some ⟨g1, 0, none⟩) s.cells.length k1) (.slice (some ⟨g2, 0, none⟩) s.tabs.length k2) (.slice A3 s.other.length k3) (.slice A4 n4 k4) (.slice A5 n5 k5) (.slice A6 n6 k6)) 31) F T base w i wr) (fun i _ => r - (intOf i).toNat)
 case atStart => exact ⟨0, Nat.zero_le _, rfl, K0.out, HPA.out, HFA.out, by first | (simp; done) | (have := HSZ.out; omega)⟩
 case round =>
  obtain ⟨y, hy, rfl, hk, hps, hfr, hsz⟩ := hrel
  have HK := Lib.hid hk
  have HPS := Lib.hid hps
  have HFR := Lib.hid hfr
  clear hk hps hfr
  have hR := HR.out
  by_cases hlt : y < r
  ·obtain ⟨p, hp⟩ : ∃ p, p = y * c := ⟨_, rfl⟩
   obtain ⟨P, hP⟩ : ∃ P, P = p * 3 := ⟨_, rfl⟩
   have he := row_end (c := c) hlt
   rw [← hp, ← HG.out.n] at he
   have hq1 : (y : Int) * s.cols = (p : Int) := by rw [HCO.out, hp]; simp
   have hql : (y : Int) < s.rows := by rw [hR]; omega
   obtain ⟨C, hC⟩ : ∃ C, C = s.cols := ⟨_, rfl⟩
   have hCc : C = (c : Int) := by rw [hC]; exact HCO.out
   have hpc : p ≤ 1000000 := by omega
   have HP := Lib.hid hp
   have HPP := Lib.hid hP
   have hstep : eraU s.cells c F T (y + 1) = if (F : Int) < (p : Int) + (c : Int) ∧ (p : Int) < (T : Int) then eraseL (eraU s.cells c F T y) (c : Int) (y : Int) ((F : Int) - (p : Int)) ((T : Int) - (p : Int)) else eraU s.cells c F T y := by
    rw [hp]
    rfl
   have hlen2 : (eraU s.cells c F T y).length = s.cells.length := eraU_len _ _ _
   have hin2 : ScIn { s with cells := eraU s.cells c F T y, wrap := false } r c := HI.out.cells_ _ hlen2 (eraU_ok HI.out.cells c _ _ y)
   have HIN2 := Lib.hid hin2
   have HLEN2 := Lib.hid hlen2
   have HSTEP := Lib.hid hstep
   obtain ⟨d1, -⟩ := cellR (v := .int .i64 s.cols) HK.out 1 rfl
   rw [← hC] at d1 hq1
   rw [hCc] at d1 hq1
   clear hp hP hstep hin2 hlen2 hCc hC hR
   by_cases h1 : (F : Int) < (p : Int) + (c : Int)
   ·by_cases h2 : (p : Int) < (T : Int)
    ·have HST : Hid (eraU s.cells c F T (y + 1) = eraseL (eraU s.cells c F T y) (c : Int) (y : Int) ((F : Int) - (p : Int)) ((T : Int) - (p : Int))) := HSTEP.out.trans (if_pos ⟨h1, h2⟩)
     obtain ⟨L, hL⟩ : ∃ L, L = eraU s.cells c F T y := ⟨_, rfl⟩
     rw [← hL] at HPS HIN2 HLEN2 HST
     clear HSTEP hL
     have hrl := rowL_len (l := L) (by rw [HLEN2.out]; exact HG.out) hlt
     have HRL := Lib.hid hrl
     have HEL : Hid ((eraseL (rowL L c y) (c : Int) 0 ((F : Int) - (p : Int)) ((T : Int) - (p : Int))).length = c) := by
      show _ = _
      rw [eraseL_len, hrl]
     clear hrl
     go_upto_region 6 with fail
     refine wp_region_lit ?_
     refine wpl_loadS rfl (.tmp 3) rfl rfl HK.out rfl ?_
     go_wp2_with fail
     ((with_reducible refine (prowOf_like s r c g1 k1 g2 k2 A3 k3 A4 A5 A6 n4 n5 n6 k4 k5 k6 base _ L HLEN2.out (by omega) HPS.out HIN2.out y p P hlt HP.out HPP.out (y : Int) rfl).mono ?_); rintro e w1 ⟨rfl, b1⟩)
     have e1 := (b1.block _ hsz).trans HK.out
     have z1 := b1.size
     have HPS1 := Lib.hid (HPS.out.below b1)
     have HFR1 := Lib.hid (HFR.out.trans (Fr.of b1 (fun x => x = g1)) (fun x hx => .inl hx))
     have E1 := Lib.hid e1
     obtain ⟨d1, -⟩ := cellR (v := .int .i64 s.cols) e1 1 rfl
     rw [HCO.out] at d1
     have HC := Lib.hid (HPS1.out.c.rowCS (by show GOk L.length r c; rw [HLEN2.out]; exact HG.out) hlt HP.out HPP.out)
     clear e1 b1
     rename_i K hK
     refine hK _ _ ?_
     clear hK
     go_wp2_with (first
      | (go_at_call 175; (with_reducible refine (gerase_any _ (rowL L c y) (c : Int) 0 ((F : Int) - (p : Int)) ((T : Int) - (p : Int)) _ HC.out (by rw [HRL.out]; omega)).mono ?_); rintro e w6 ⟨v6, rfl, o6, b6⟩; obtain ⟨A6', k6', rfl, p6', q6'⟩ := o6.form; rw [HEL.out] at p6'; have HO6 := Lib.hid o6; have HB6 := Lib.hid b6; clear o6 b6)
      | ((with_reducible refine wpl_copyC _ (o := ⟨some 43, _, _, _, _, _⟩) ?_ (.tmp 32) (.tmp 42) ?_ base w6.heap.size g1 s.cells.length k1 P p c (k1 - p) _ L (eraseL (rowL L c y) (c : Int) 0 ((F : Int) - (p : Int)) ((T : Int) - (p : Int))) ?_ ?_ (HPS1.out.c.below HB6.out) HPP.out HO6.out HEL.out (by omega) (by rw [HLEN2.out]; omega) ?_); rfl; rfl; rfl; rfl; intro w7 o7 f7 z7; have O7 := Lib.hid o7; have F7 := Lib.hid f7; have z7' : w6.heap.size = w7.heap.size := z7.symm; clear o7 f7 z7))
     have z6 := HB6.out.size
     go_roundw
     case rel =>
      have e := erase_part (l := L) ((F : Int) - (p : Int)) ((T : Int) - (p : Int)) (by rw [HLEN2.out]; exact HG.out) hlt
      rw [← HP.out] at e
      have o := O7.out
      rw [e, ← HST.out] at o
      have hps6 := HPS1.out.below HB6.out
      have hlt6 := hps6.lt
      refine ⟨y + 1, hlt, by go_num, ?_, ⟨o, ?_, ?_, HPS1.out.ap⟩, ?_, by omega⟩
      ·exact (F7.out.block _ (by omega) (fun e => by have : w.heap.size = g1 := e; omega)).trans ((HB6.out.block _ (by omega)).trans E1.out)
      ·exact own_keep hps6.t (fun b e => F7.out.block b (hlt6 b (.inr (.inl e))).2 (fun e2 => hps6.ct b (by rw [show b = g1 from e2]; rfl) e))
      ·exact own_keep hps6.o (fun b e => F7.out.block b (hlt6 b (.inr (.inr e))).2 (fun e2 => hps6.ap b (by rw [show b = g1 from e2]; rfl) e))
      ·exact (HFR1.out.trans (Fr.of HB6.out (fun x => x = g1)) (fun x hx => .inl hx)).trans F7.out (fun x hx => .inl hx)
     case measure => simp [intOf]; omega
    ·have HST : Hid (eraU s.cells c F T (y + 1) = eraU s.cells c F T y) := HSTEP.out.trans (if_neg (by omega))
     clear HSTEP
     have h3 : (T : Int) ≤ (p : Int) := by omega
     clear h2
     go_wp2_with fail
     go_roundw
     case rel => exact ⟨y + 1, hlt, by go_num, HK.out, by rw [HST.out]; exact HPS.out, HFR.out, hsz⟩
     case measure => simp [intOf]; omega
   ·have HST : Hid (eraU s.cells c F T (y + 1) = eraU s.cells c F T y) := HSTEP.out.trans (if_neg (by omega))
    clear HSTEP
    go_wp2_with fail
    go_roundw
    case rel => exact ⟨y + 1, hlt, by go_num, HK.out, by rw [HST.out]; exact HPS.out, HFR.out, hsz⟩
    case measure => simp [intOf]; omega
  ·obtain rfl : y = r := by omega
   have hql : ¬ (y : Int) < s.rows := by rw [hR]; omega
   clear hR
   go_wp2
   go_end0
   exact ⟨rfl, HPS.out.c, HFR.out⟩
end Go.Proofs.YtlolgfgcgfjdjaaGreatDoor

namespace Go.Proofs.YtlolgfgcgfjdjaaGreatDoor
open Go.RowKit
set_option linter.unusedVariables false
set_option linter.unusedSimpArgs false
set_option maxHeartbeats 400000
set_option maxRecDepth 100000
theorem widthL_cases (r : Int) : widthL r = 0 ∨ widthL r = 1 ∨ widthL r = 2 := by
 unfold widthL
 split
 ·exact .inl rfl
 ·split
  ·exact .inr (.inr rfl)
  ·exact .inr (.inl rfl)
structure PutAt (w : World) (base : Nat) (vc vt vo : Value) (r c : Nat) (Z : Obj) (s : Sc) (g1 k1 g2 k2 : Nat) (A3 : Option Addr) (k3 : Nat) (up ui uu : Value) (W : World) : Prop where
 v : W.heap[w.heap.size]? = some (.cells (vS s (.slice (some ⟨g1, 0, none⟩) s.cells.length k1) (.slice (some ⟨g2, 0, none⟩) s.tabs.length k2) (.slice A3 s.other.length k3) up ui uu) 31)
 z : W.heap[w.heap.size + 1]? = some Z
 p : PsL W base (.slice (some ⟨g1, 0, none⟩) s.cells.length k1) (.slice (some ⟨g2, 0, none⟩) s.tabs.length k2) (.slice A3 s.other.length k3) s
 f : Fr (OwB vc vt vo) w W
 n : w.heap.size + 1 < W.heap.size
 sub : ∀ x, OwB (.slice (some ⟨g1, 0, none⟩) s.cells.length k1) (.slice (some ⟨g2, 0, none⟩) s.tabs.length k2) (.slice A3 s.other.length k3) x → OwB vc vt vo x ∨ w.heap.size + 1 < x
 i : ScIn { s with wrap := false } r c
 sl : Sl up ∧ Sl ui ∧ Sl uu
section
variable {w W : World} {base : Nat} {vc vt vo : Value} {r c : Nat} {Z : Obj} {s : Sc} {g1 k1 g2 k2 : Nat} {A3 : Option Addr} {k3 : Nat} {up ui uu : Value}
theorem PutAt.g1ne (h : PutAt w base vc vt vo r c Z s g1 k1 g2 k2 A3 k3 up ui uu W) (h0 : ∀ x, OwB vc vt vo x → x < w.heap.size) : g1 ≠ w.heap.size ∧ g1 ≠ w.heap.size + 1 := by
 rcases h.sub g1 (.inl rfl) with e | e
 ·have := h0 _ e; omega
 ·omega
theorem PutAt.far (h : PutAt w base vc vt vo r c Z s g1 k1 g2 k2 A3 k3 up ui uu W) (h0 : ∀ x, OwB vc vt vo x → x < w.heap.size) : ¬ OwB (.slice (some ⟨g1, 0, none⟩) s.cells.length k1) (.slice (some ⟨g2, 0, none⟩) s.tabs.length k2) (.slice A3 s.other.length k3) w.heap.size ∧ ¬ OwB (.slice (some ⟨g1, 0, none⟩) s.cells.length k1) (.slice (some ⟨g2, 0, none⟩) s.tabs.length k2) (.slice A3 s.other.length k3) (w.heap.size + 1) := by
 constructor
 ·intro e
  rcases h.sub _ e with e | e
  ·have := h0 _ e; omega
  ·omega
 ·intro e
  rcases h.sub _ e with e | e
  ·have := h0 _ e; omega
  ·omega
theorem PutAt.next {w4 : World} {uc ut uo up' ui' uu' : Value} {s' : Sc} (h : PutAt w base vc vt vo r c Z s g1 k1 g2 k2 A3 k3 up ui uu W) (h0 : ∀ x, OwB vc vt vo x → x < w.heap.size) (hi' : ScIn { s' with wrap := false } r c)
  (hsl : Sl up' ∧ Sl ui' ∧ Sl uu') (hs : PsL w4 base uc ut uo s') (hf : Fr (OwB (.slice (some ⟨g1, 0, none⟩) s.cells.length k1) (.slice (some ⟨g2, 0, none⟩) s.tabs.length k2) (.slice A3 s.other.length k3)) W w4) (hsub : ∀ x, OwB uc ut uo x → OwB (.slice (some ⟨g1, 0, none⟩) s.cells.length k1) (.slice (some ⟨g2, 0, none⟩) s.tabs.length k2) (.slice A3 s.other.length k3) x ∨ W.heap.size ≤ x) :
  ∃ g1' k1' g2' k2' A3' k3', uc = .slice (some ⟨g1', 0, none⟩) s'.cells.length k1' ∧ ut = .slice (some ⟨g2', 0, none⟩) s'.tabs.length k2' ∧ uo = .slice A3' s'.other.length k3' ∧ PutAt w base vc vt vo r c Z s' g1' k1' g2' k2' A3' k3' up' ui' uu' (w4.setRow w.heap.size (vS s' uc ut uo up' ui' uu')) := by
 obtain ⟨g1', k1', g2', k2', A3', k3', rfl, rfl, rfl, -⟩ := hs.open_ hi'
 obtain ⟨n0, n1⟩ := h.far h0
 have hv : w4.heap[w.heap.size]? = _ := (hf.block _ (by have := h.n; omega) n0).trans h.v
 have hz : w4.heap[w.heap.size + 1]? = _ := (hf.block _ h.n n1).trans h.z
 have hn := h.n
 have hsz := hf.size
 have hnew : ∀ x, OwB (.slice (some ⟨g1', 0, none⟩) s'.cells.length k1') (.slice (some ⟨g2', 0, none⟩) s'.tabs.length k2') (.slice A3' s'.other.length k3') x → OwB vc vt vo x ∨ w.heap.size + 1 < x := fun x hx => by
  rcases hsub x hx with e | e
  ·exact h.sub x e
  ·exact .inr (by omega)
 refine ⟨_, _, _, _, _, _, rfl, rfl, rfl, heap_setRow_same hv, (heap_setRow_other (by omega)).trans hz, hs.setRow (fun hx => ?_) _, ?_, by rw [size_setRow]; omega, hnew, hi', hsl⟩
 ·rcases hnew _ hx with e | e
  ·have := h0 _ e; omega
  ·omega
 ·exact fr_setRowG (h.f.trans hf (fun x hx => by
   rcases h.sub x hx with e | e
   ·exact .inl e
   ·exact .inr (by omega))) (Nat.le_refl _) _
end
theorem wrapS_i {s : Sc} {r c : Nat} (hi : ScIn { s with wrap := false } r c) : ScIn { crS s with wrap := false } r c := by
 have h := crS_in hi
 have e : crS { s with wrap := false } = crS s := by
  unfold crS downS
  split
  ·rfl
  ·split <;> rfl
 rw [e] at h
 exact h.noWrap
section
variable {w W w6 : World} {base : Nat} {vc vt vo : Value} {r c : Nat} {Z : Obj} {s : Sc} {g1 k1 g2 k2 : Nat} {A3 : Option Addr} {k3 : Nat} {up ui uu : Value} {l : List Cl}
theorem PutAt.wrote (h : PutAt w base vc vt vo r c Z s g1 k1 g2 k2 A3 k3 up ui uu W) (ho : OC w6 base (.slice (some ⟨g1, 0, none⟩) s.cells.length k1) l) (hf : Fr (fun x => x = g1) W w6) :
  PsL w6 base (.slice (some ⟨g1, 0, none⟩) s.cells.length k1) (.slice (some ⟨g2, 0, none⟩) s.tabs.length k2) (.slice A3 s.other.length k3) { s with cells := l } ∧ Fr (OwB vc vt vo) w w6 := by
 have hlt := h.p.lt
 have hn := h.n
 refine ⟨⟨ho, own_keep h.p.t (fun b e => hf.block b (hlt b (.inr (.inl e))).2 (fun e2 => h.p.ct b (by rw [show b = g1 from e2]; rfl) e)), own_keep h.p.o (fun b e => hf.block b (hlt b (.inr (.inr e))).2 (fun e2 => h.p.ap b (by rw [show b = g1 from e2]; rfl) e)), h.p.ap⟩, h.f.trans hf (fun x hx => ?_)⟩
 have hx' : x = g1 := hx
 subst hx'
 rcases h.sub x (.inl rfl) with e | e
 ·exact .inl e
 ·exact .inr (by omega)
end
theorem putS_ge1 {s : Sc} {rn : Int} (h : s.cols ≤ s.x + 1) : putS s rn 1 = { s with cells := mendL (cells1 s rn) s.cols s.y, x := s.cols - 1, wrap := s.auto } := by unfold putS; rw [if_pos h, if_neg (by decide)]
theorem putS_lt1 {s : Sc} {rn : Int} (h : ¬ s.cols ≤ s.x + 1) : putS s rn 1 = { s with cells := mendL (cells1 s rn) s.cols s.y, x := s.x + 1 } := by unfold putS; rw [if_neg h, if_neg (by decide)]
theorem putS_ge2 {s : Sc} {rn : Int} (h : s.cols ≤ s.x + 2) : putS s rn 2 = { s with cells := mendL (cells2 s rn) s.cols s.y, x := s.cols - 1, wrap := s.auto } := by unfold putS; rw [if_pos h, if_pos rfl]
theorem putS_lt2 {s : Sc} {rn : Int} (h : ¬ s.cols ≤ s.x + 2) : putS s rn 2 = { s with cells := mendL (cells2 s rn) s.cols s.y, x := s.x + 2 } := by unfold putS; rw [if_neg h, if_pos rfl]
end Go.Proofs.YtlolgfgcgfjdjaaGreatDoor
