/- What is proved here: contracts of the landed screen's part, erase; contracts of the landed screen's shiftRows, shiftCells, dropTabs; contracts of the landed screen's shiftCells: cells come or go at the cursor; words for any screen's value in a block: its 24 cells; the contract of the document's word on which cells may be. -/
import Derived.Test.YtlolgfgcgfjdjaaGreatDoorS12
import Derived.Test.YtlolgfgcgfjdjaaGreatDoorS13
import Derived.Test.YtlolgfgcgfjdjaaGreatDoorS10
import Derived.Test.YtlolgfgcgfjdjaaGreatDoorS14
import Derived.Test.YtlolgfgcgfjdjaaGreatDoorS6
import Derived.Test.YtlolgfgcgfjdjaaGreatDoorS5
import Derived.Test.YtlolgfgcgfjdjaaGreatDoorS2
namespace Go.Proofs.YtlolgfgcgfjdjaaGreatDoor
open Go.RowKit
set_option linter.unusedVariables false
set_option linter.unusedSimpArgs false
set_option maxHeartbeats 2000000
set_option maxRecDepth 100000
theorem peraseC_i (s : Sc) (r c g1 k1 g2 k2 : Nat) (A3 : Option Addr) (k3 : Nat) (A4 A5 A6 : Option Addr) (n4 n5 n6 k4 k5 k6 : Nat) (base : Nat) (w : World) (hbase : base ≤ w.heap.size) (h : PsL w base (.slice (some ⟨g1, 0, none⟩) s.cells.length k1) (.slice (some ⟨g2, 0, none⟩) s.tabs.length k2) (.slice A3 s.other.length k3) s) (hi : ScIn { s with wrap := false } r c) (F T : Nat) (hF : F ≤ 1048576) (hT : T ≤ 1048576) (Fi Ti : Int) (hFi : Fi = (F : Int)) (hTi : Ti = (T : Int)) :
  Calls Tryz.prog 163 #[.agg (vS s (.slice (some ⟨g1, 0, none⟩) s.cells.length k1) (.slice (some ⟨g2, 0, none⟩) s.tabs.length k2) (.slice A3 s.other.length k3) (.slice A4 n4 k4) (.slice A5 n5 k5) (.slice A6 n6 k6)), .int .i64 Fi, .int .i64 Ti] w (WrPost (eraU s.cells c F T r) base g1 s.cells.length k1 w) := by
 subst hFi hTi
 exact peraseC_any s r c g1 k1 g2 k2 A3 k3 A4 A5 A6 n4 n5 n6 k4 k5 k6 base w hbase h hi F T hF hT
theorem PutAt.drew {w W WD : World} {base : Nat} {vc vt vo : Value} {r c : Nat} {Z : Obj} {s : Sc} {g1 k1 g2 k2 : Nat} {A3 : Option Addr} {k3 : Nat} {up ui uu : Value} {n : Nat} (h : PutAt w base vc vt vo r c Z s g1 k1 g2 k2 A3 k3 up ui uu W) (hW : W.drewN n = WD) : PutAt w base vc vt vo r c Z s g1 k1 g2 k2 A3 k3 up ui uu WD := by
 subst hW
 exact ⟨h.v, h.z, h.p.keep (fun _ _ => rfl), h.f.trans (Fr.of (⟨rfl, rfl, rfl, Nat.le_refl _, fun _ _ => rfl⟩ : Below W.heap.size W (W.drewN n)) (OwB vc vt vo)) (fun x hx => .inl hx), h.n, h.sub, h.i, h.sl⟩
theorem ppart_0 (cur all : Int) (h0 : 0 ≤ cur) (h1 : cur ≤ 1048576) (w : World) : Calls Tryz.prog 161 #[.int .i64 0, .int .i64 cur, .int .i64 all] w fun e w' => e = .returned (.tuple #[.int .i64 cur, .int .i64 all]) ∧ w' = w := by
 go_enter Tryz.func161, Tryz.ntmps161
 go_wp2
 go_ret2
 exact ⟨rfl, rfl⟩
theorem ppart_1 (cur all : Int) (h0 : 0 ≤ cur) (h1 : cur ≤ 1048576) (w : World) : Calls Tryz.prog 161 #[.int .i64 1, .int .i64 cur, .int .i64 all] w fun e w' => e = .returned (.tuple #[.int .i64 0, .int .i64 (cur + 1)]) ∧ w' = w := by
 go_enter Tryz.func161, Tryz.ntmps161
 go_wp2
 go_ret2
 exact ⟨rfl, rfl⟩
theorem ppart_2 (cur all : Int) (h0 : 0 ≤ cur) (h1 : cur ≤ 1048576) (w : World) : Calls Tryz.prog 161 #[.int .i64 2, .int .i64 cur, .int .i64 all] w fun e w' => e = .returned (.tuple #[.int .i64 0, .int .i64 all]) ∧ w' = w := by
 go_enter Tryz.func161, Tryz.ntmps161
 go_wp2
 go_ret2
 exact ⟨rfl, rfl⟩
theorem ppart_n (cur all : Int) (h0 : 0 ≤ cur) (h1 : cur ≤ 1048576) (w : World) (K : Int) (hK : 2 < K) : Calls Tryz.prog 161 #[.int .i64 K, .int .i64 cur, .int .i64 all] w fun e w' => e = .returned (.tuple #[.int .i64 0, .int .i64 0]) ∧ w' = w := by
 have d0 : (K == 0) = false := by simp; omega
 have d1 : (K == 1) = false := by simp; omega
 have d2 : (K == 2) = false := by simp; omega
 clear hK
 go_enter Tryz.func161, Tryz.ntmps161
 go_wp2
 go_ret2
 exact ⟨rfl, rfl⟩
theorem perase_J0 (s : Sc) (r c : Nat) (vc vt vo : Value) (A4 A5 A6 : Option Addr) (n4 n5 n6 k4 k5 k6 : Nat) (base : Nat) (w : World) (hbase : base ≤ w.heap.size) (h : PsL w base vc vt vo s) (hi : ScIn { s with wrap := false } r c) (vp : Value) (l : List Int) (T : Nat → Prop) (hT : ∀ x, T x → x < w.heap.size) (hl : SL vI w T vp l) (hll : l.length ≤ 1048576) (hw : Whole s.cells r c) (hk : paramL l 0 0 = 0) :
  Calls Tryz.prog 144 #[.agg (vS s vc vt vo (.slice A4 n4 k4) (.slice A5 n5 k5) (.slice A6 n6 k6)), vp, .int .u8 74] w (PsPost base vc vt vo (eraseS s false (paramL l 0 0)) w) := by
 have H0 := Lib.hid (show ∀ x, OwB vc vt vo x → x < w.heap.size from fun x hx => (h.lt x hx).2)
 obtain ⟨g1, k1, g2, k2, A3, k3, rfl, rfl, rfl, ⟨b1, l1, p1, q1⟩, ⟨b2, l2, p2, q2⟩, p3, q3⟩ := h.open_ hi
 have H := Lib.hid h
 have HI := Lib.hid hi
 obtain ⟨hlen, hr1, hr2, hc1, hc2, HR, HCO, hr3, hr4, hc3, hc4, y0, y1, x0, x1, t0, t1, u1⟩ := pIn hi
 clear h hi
 have HT := Lib.hid hT
 obtain ⟨AP, kP, rfl, pP, qP⟩ := hl.form
 have HLI := Lib.hid hl
 clear hT hl
 obtain ⟨Y, hY⟩ : ∃ Y : Nat, s.y = (Y : Int) := ⟨s.y.toNat, by omega⟩
 obtain ⟨X, hX⟩ : ∃ X : Nat, s.x = (X : Int) := ⟨s.x.toNat, by omega⟩
 have hYr : Y < r := by have := HR.out; omega
 have hXc : X < c := by have := HCO.out; omega
 obtain ⟨p, hp⟩ : ∃ p, p = Y * c := ⟨_, rfl⟩
 obtain ⟨N, hN⟩ : ∃ N, N = r * c := ⟨_, rfl⟩
 have he := row_end (c := c) hYr
 rw [← hp, ← hN] at he
 have hNb : N ≤ 1000000 := by rw [hN]; exact rc_le hr2 hc2
 have hq1 : s.y * s.cols = (p : Int) := by rw [HCO.out, hY, hp]; simp
 have hq2 : s.rows * s.cols = (N : Int) := by rw [HCO.out, HR.out, hN]; simp
 have hq3 : (s.y + 1) * s.cols = (p : Int) + (c : Int) := by rw [Int.add_mul, Int.one_mul, hq1, HCO.out]
 have hln : s.cells.length = N := by rw [hN]; exact HI.out.g.n
 obtain ⟨F0, hF0⟩ : ∃ F0, F0 = p + X := ⟨_, rfl⟩
 obtain ⟨T0, hT0⟩ : ∃ T0, T0 = N := ⟨_, rfl⟩
 rw [hk]
 rw [eraS_of HI.out hw hY hYr false 0 (by decide) F0 T0 (hF0 ▸ (by rw [if_pos rfl, hq1, hX]; omega)) (hT0 ▸ (by rw [if_neg (by decide), if_neg (by decide), hln]; omega)) (ho_of (X := X) hYr hXc (by rw [hF0, hT0]; exact .inl ⟨by rw [hp], hN⟩))]
 have HFI : Hid (((p : Int) + (X : Int) : Int) = (F0 : Int)) := (by omega : ((p : Int) + (X : Int) : Int) = (F0 : Int))
 have HTI : Hid (((N : Int) : Int) = (T0 : Int)) := (by omega : ((N : Int) : Int) = (T0 : Int))
 have hFb : F0 ≤ 1048576 := by omega
 have hTb : T0 ≤ 1048576 := by omega
 have hcc : s.cols = (c : Int) := HCO.out
 have hcl : (c : Int) ≤ 1000 := by omega
 have HCC := Lib.hid hcc
 have HY := Lib.hid hY
 have HX := Lib.hid hX
 have hpb : p ≤ 1000000 := by omega
 have hXb : X ≤ 1000 := by omega
 have HK := Lib.hid hk
 clear hF0 hT0 hp hN hln hq3 hw hk hY hX hcc
 go_enter Tryz.func144, Tryz.ntmps144
 go_upto_region 2 with fail
 have HS : Hid (PutAt w base _ _ _ r c (.cells zQ 31) { s with wrap := false } g1 k1 g2 k2 A3 k3 (.slice A4 n4 k4) (.slice A5 n5 k5) (.slice A6 n6 k6) ((w.alloc (.cells #[.int .i64 s.rows, .int .i64 s.cols, .slice (some ⟨g1, 0, none⟩) s.cells.length k1, .int .i64 s.y, .int .i64 s.x, .bool false, .int .u16 (s.attr : Int), .int .i64 s.top, .int .i64 s.bottom, .slice (some ⟨g2, 0, none⟩) s.tabs.length k2, .int .i64 s.sy, .int .i64 s.sx, .int .u16 (s.sattr : Int), .bool s.auto, .bool s.shown, .bool s.alt, .slice A3 s.other.length k3, .int .i64 s.oy, .int .i64 s.ox, .int .i64 (s.p.mode : Int), .int .u8 (s.p.priv : Int), .slice A4 n4 k4, .slice A5 n5 k5, .slice A6 n6 k6] 31)).alloc (.cells zQ 31))) :=
  ⟨heap_a1 w _ _, heap_a2 w _ _, ((H.out.alloc _).alloc _).like rfl rfl rfl, Fr.of (two_new w _ _).1 _, by simp, fun x hx => .inl hx, HI.out, sl3⟩
 have HB : Hid (Below w.heap.size w ((w.alloc (.cells #[.int .i64 s.rows, .int .i64 s.cols, .slice (some ⟨g1, 0, none⟩) s.cells.length k1, .int .i64 s.y, .int .i64 s.x, .bool false, .int .u16 (s.attr : Int), .int .i64 s.top, .int .i64 s.bottom, .slice (some ⟨g2, 0, none⟩) s.tabs.length k2, .int .i64 s.sy, .int .i64 s.sx, .int .u16 (s.sattr : Int), .bool s.auto, .bool s.shown, .bool s.alt, .slice A3 s.other.length k3, .int .i64 s.oy, .int .i64 s.ox, .int .i64 (s.p.mode : Int), .int .u8 (s.p.priv : Int), .slice A4 n4 k4, .slice A5 n5 k5, .slice A6 n6 k6] 31)).alloc (.cells zQ 31))) := (two_new w _ _).1
 generalize World.alloc (World.alloc _ _) _ = W1 at HS HB ⊢
 have HLW := Lib.hid (HLI.out.keep (w' := W1) (fun q hq => HB.out.cell (HT.out _ hq)))
 have HCH : Hid (∀ n, Calls Tryz.prog 162 #[.slice AP l.length kP] (W1.drewN n) (fun e w' => e = .returned (.int .i64 0) ∧ w' = W1.drewN n)) := fun n => (pchoice_any _ l T (W1.drewN n) (HLW.out.keep (fun q _ => rfl)) hll).mono (fun {e w'} h => ⟨by rw [h.1, HK.out], h.2.symm⟩)
 have HPA : Hid (∀ n, Calls Tryz.prog 161 #[.int .i64 0, .int .i64 ((p : Int) + (X : Int)), .int .i64 ((N : Int))] (W1.drewN n) _) := fun n => ppart_0 ((p : Int) + (X : Int)) ((N : Int)) (by omega) (by omega) (W1.drewN n)
 obtain ⟨d0, -⟩ := cellR (v := .int .i64 s.rows) HS.out.v 0 rfl
 obtain ⟨d1, -⟩ := cellR (v := .int .i64 s.cols) HS.out.v 1 rfl
 obtain ⟨d3, -⟩ := cellR (v := .int .i64 s.y) HS.out.v 3 rfl
 obtain ⟨d4, -⟩ := cellR (v := .int .i64 s.x) HS.out.v 4 rfl
 rw [HX.out] at d4
 go_upto_region 5 with fail
 go_quiet ((first
  | (go_at_call 162; exact Calls.quiet_of_same (HCH.out _))
  | (go_at_call 161; exact Calls.quiet_of_same (HPA.out _))))
 clear d0 d1 d3 d4
 generalize hWD : World.drewN _ _ = WD
 replace HS := Lib.hid (HS.out.drew hWD)
 clear hWD
 go_upto_region 6 with fail
 refine wp_region_lit ?_
 refine wpl_loadS rfl (.tmp 3) rfl rfl HS.out.v rfl ?_
 go_wp2_with fail
 ((with_reducible refine (peraseC_i { s with wrap := false } r c g1 k1 g2 k2 A3 k3 A4 A5 A6 n4 n5 n6 k4 k5 k6 base _ (by have := HS.out.n; omega) HS.out.p HS.out.i F0 T0 (by omega) (by omega) _ _ HFI.out HTI.out).mono ?_); rintro e w6 ⟨rfl, o6, f6⟩)
 obtain ⟨ne0, ne1⟩ := HS.out.g1ne H0.out
 have v6 : w6.heap[w.heap.size]? = _ := (f6.block _ (by have := HS.out.n; omega) (fun e => ne0 e.symm)).trans HS.out.v
 have z6 : w6.heap[w.heap.size + 1]? = _ := (f6.block _ HS.out.n (fun e => ne1 e.symm)).trans HS.out.z
 have V6 := Lib.hid v6
 have Z6 := Lib.hid z6
 have HWT := Lib.hid (HS.out.wrote o6 f6)
 have HFAR := Lib.hid (HS.out.far H0.out)
 have HSUB := Lib.hid HS.out.sub
 clear v6 z6 o6 f6
 rename_i K hK
 refine hK _ _ ?_
 clear hK K
 go_upto_region 12 with fail
 refine wp_region_lit ?_
 refine wpl_loadS rfl (.tmp 3) rfl rfl V6.out rfl ?_
 refine wpl_storeS rfl (.tmp 6) (.tmp 78) rfl rfl rfl Z6.out rfl rfl (all24 rfl rfl rfl rfl rfl rfl rfl rfl rfl rfl rfl rfl rfl rfl rfl rfl rfl rfl rfl rfl rfl rfl rfl rfl) ?_
 go_wp2
 refine psEnd (s := { s with wrap := false, cells := eraU s.cells c (F0 : Int) (T0 : Int) r }) (w.heap.size + 1) 6 Tryz.results144 ?_ ?_ Z6.out (by omega) HWT.out.2 sl3 HWT.out.1 HFAR.out.2 (fun x hx => (HSUB.out x hx).imp id (fun h => by omega))
 all_goals rfl
theorem perase_J1 (s : Sc) (r c : Nat) (vc vt vo : Value) (A4 A5 A6 : Option Addr) (n4 n5 n6 k4 k5 k6 : Nat) (base : Nat) (w : World) (hbase : base ≤ w.heap.size) (h : PsL w base vc vt vo s) (hi : ScIn { s with wrap := false } r c) (vp : Value) (l : List Int) (T : Nat → Prop) (hT : ∀ x, T x → x < w.heap.size) (hl : SL vI w T vp l) (hll : l.length ≤ 1048576) (hw : Whole s.cells r c) (hk : paramL l 0 0 = 1) :
  Calls Tryz.prog 144 #[.agg (vS s vc vt vo (.slice A4 n4 k4) (.slice A5 n5 k5) (.slice A6 n6 k6)), vp, .int .u8 74] w (PsPost base vc vt vo (eraseS s false (paramL l 0 0)) w) := by
 have H0 := Lib.hid (show ∀ x, OwB vc vt vo x → x < w.heap.size from fun x hx => (h.lt x hx).2)
 obtain ⟨g1, k1, g2, k2, A3, k3, rfl, rfl, rfl, ⟨b1, l1, p1, q1⟩, ⟨b2, l2, p2, q2⟩, p3, q3⟩ := h.open_ hi
 have H := Lib.hid h
 have HI := Lib.hid hi
 obtain ⟨hlen, hr1, hr2, hc1, hc2, HR, HCO, hr3, hr4, hc3, hc4, y0, y1, x0, x1, t0, t1, u1⟩ := pIn hi
 clear h hi
 have HT := Lib.hid hT
 obtain ⟨AP, kP, rfl, pP, qP⟩ := hl.form
 have HLI := Lib.hid hl
 clear hT hl
 obtain ⟨Y, hY⟩ : ∃ Y : Nat, s.y = (Y : Int) := ⟨s.y.toNat, by omega⟩
 obtain ⟨X, hX⟩ : ∃ X : Nat, s.x = (X : Int) := ⟨s.x.toNat, by omega⟩
 have hYr : Y < r := by have := HR.out; omega
 have hXc : X < c := by have := HCO.out; omega
 obtain ⟨p, hp⟩ : ∃ p, p = Y * c := ⟨_, rfl⟩
 obtain ⟨N, hN⟩ : ∃ N, N = r * c := ⟨_, rfl⟩
 have he := row_end (c := c) hYr
 rw [← hp, ← hN] at he
 have hNb : N ≤ 1000000 := by rw [hN]; exact rc_le hr2 hc2
 have hq1 : s.y * s.cols = (p : Int) := by rw [HCO.out, hY, hp]; simp
 have hq2 : s.rows * s.cols = (N : Int) := by rw [HCO.out, HR.out, hN]; simp
 have hq3 : (s.y + 1) * s.cols = (p : Int) + (c : Int) := by rw [Int.add_mul, Int.one_mul, hq1, HCO.out]
 have hln : s.cells.length = N := by rw [hN]; exact HI.out.g.n
 obtain ⟨F0, hF0⟩ : ∃ F0, F0 = 0 := ⟨_, rfl⟩
 obtain ⟨T0, hT0⟩ : ∃ T0, T0 = p + X + 1 := ⟨_, rfl⟩
 rw [hk]
 rw [eraS_of HI.out hw hY hYr false 1 (by decide) F0 T0 (hF0 ▸ (by rw [if_neg (by decide), if_neg (by decide)]; rfl)) (hT0 ▸ (by rw [if_pos rfl, hq1, hX]; omega)) (ho_of (X := X) hYr hXc (by rw [hF0, hT0]; exact .inr (.inl ⟨rfl, by rw [hp]⟩)))]
 have HFI : Hid (((0 : Int) : Int) = (F0 : Int)) := (by omega : ((0 : Int) : Int) = (F0 : Int))
 have HTI : Hid (((p : Int) + (X : Int) + (1 : Int) : Int) = (T0 : Int)) := (by omega : ((p : Int) + (X : Int) + (1 : Int) : Int) = (T0 : Int))
 have hFb : F0 ≤ 1048576 := by omega
 have hTb : T0 ≤ 1048576 := by omega
 have hcc : s.cols = (c : Int) := HCO.out
 have hcl : (c : Int) ≤ 1000 := by omega
 have HCC := Lib.hid hcc
 have HY := Lib.hid hY
 have HX := Lib.hid hX
 have hpb : p ≤ 1000000 := by omega
 have hXb : X ≤ 1000 := by omega
 have HK := Lib.hid hk
 clear hF0 hT0 hp hN hln hq3 hw hk hY hX hcc
 go_enter Tryz.func144, Tryz.ntmps144
 go_upto_region 2 with fail
 have HS : Hid (PutAt w base _ _ _ r c (.cells zQ 31) { s with wrap := false } g1 k1 g2 k2 A3 k3 (.slice A4 n4 k4) (.slice A5 n5 k5) (.slice A6 n6 k6) ((w.alloc (.cells #[.int .i64 s.rows, .int .i64 s.cols, .slice (some ⟨g1, 0, none⟩) s.cells.length k1, .int .i64 s.y, .int .i64 s.x, .bool false, .int .u16 (s.attr : Int), .int .i64 s.top, .int .i64 s.bottom, .slice (some ⟨g2, 0, none⟩) s.tabs.length k2, .int .i64 s.sy, .int .i64 s.sx, .int .u16 (s.sattr : Int), .bool s.auto, .bool s.shown, .bool s.alt, .slice A3 s.other.length k3, .int .i64 s.oy, .int .i64 s.ox, .int .i64 (s.p.mode : Int), .int .u8 (s.p.priv : Int), .slice A4 n4 k4, .slice A5 n5 k5, .slice A6 n6 k6] 31)).alloc (.cells zQ 31))) :=
  ⟨heap_a1 w _ _, heap_a2 w _ _, ((H.out.alloc _).alloc _).like rfl rfl rfl, Fr.of (two_new w _ _).1 _, by simp, fun x hx => .inl hx, HI.out, sl3⟩
 have HB : Hid (Below w.heap.size w ((w.alloc (.cells #[.int .i64 s.rows, .int .i64 s.cols, .slice (some ⟨g1, 0, none⟩) s.cells.length k1, .int .i64 s.y, .int .i64 s.x, .bool false, .int .u16 (s.attr : Int), .int .i64 s.top, .int .i64 s.bottom, .slice (some ⟨g2, 0, none⟩) s.tabs.length k2, .int .i64 s.sy, .int .i64 s.sx, .int .u16 (s.sattr : Int), .bool s.auto, .bool s.shown, .bool s.alt, .slice A3 s.other.length k3, .int .i64 s.oy, .int .i64 s.ox, .int .i64 (s.p.mode : Int), .int .u8 (s.p.priv : Int), .slice A4 n4 k4, .slice A5 n5 k5, .slice A6 n6 k6] 31)).alloc (.cells zQ 31))) := (two_new w _ _).1
 generalize World.alloc (World.alloc _ _) _ = W1 at HS HB ⊢
 have HLW := Lib.hid (HLI.out.keep (w' := W1) (fun q hq => HB.out.cell (HT.out _ hq)))
 have HCH : Hid (∀ n, Calls Tryz.prog 162 #[.slice AP l.length kP] (W1.drewN n) (fun e w' => e = .returned (.int .i64 1) ∧ w' = W1.drewN n)) := fun n => (pchoice_any _ l T (W1.drewN n) (HLW.out.keep (fun q _ => rfl)) hll).mono (fun {e w'} h => ⟨by rw [h.1, HK.out], h.2.symm⟩)
 have HPA : Hid (∀ n, Calls Tryz.prog 161 #[.int .i64 1, .int .i64 ((p : Int) + (X : Int)), .int .i64 ((N : Int))] (W1.drewN n) _) := fun n => ppart_1 ((p : Int) + (X : Int)) ((N : Int)) (by omega) (by omega) (W1.drewN n)
 obtain ⟨d0, -⟩ := cellR (v := .int .i64 s.rows) HS.out.v 0 rfl
 obtain ⟨d1, -⟩ := cellR (v := .int .i64 s.cols) HS.out.v 1 rfl
 obtain ⟨d3, -⟩ := cellR (v := .int .i64 s.y) HS.out.v 3 rfl
 obtain ⟨d4, -⟩ := cellR (v := .int .i64 s.x) HS.out.v 4 rfl
 rw [HX.out] at d4
 go_upto_region 5 with fail
 go_quiet ((first
  | (go_at_call 162; exact Calls.quiet_of_same (HCH.out _))
  | (go_at_call 161; exact Calls.quiet_of_same (HPA.out _))))
 clear d0 d1 d3 d4
 generalize hWD : World.drewN _ _ = WD
 replace HS := Lib.hid (HS.out.drew hWD)
 clear hWD
 go_upto_region 6 with fail
 refine wp_region_lit ?_
 refine wpl_loadS rfl (.tmp 3) rfl rfl HS.out.v rfl ?_
 go_wp2_with fail
 ((with_reducible refine (peraseC_i { s with wrap := false } r c g1 k1 g2 k2 A3 k3 A4 A5 A6 n4 n5 n6 k4 k5 k6 base _ (by have := HS.out.n; omega) HS.out.p HS.out.i F0 T0 (by omega) (by omega) _ _ HFI.out HTI.out).mono ?_); rintro e w6 ⟨rfl, o6, f6⟩)
 obtain ⟨ne0, ne1⟩ := HS.out.g1ne H0.out
 have v6 : w6.heap[w.heap.size]? = _ := (f6.block _ (by have := HS.out.n; omega) (fun e => ne0 e.symm)).trans HS.out.v
 have z6 : w6.heap[w.heap.size + 1]? = _ := (f6.block _ HS.out.n (fun e => ne1 e.symm)).trans HS.out.z
 have V6 := Lib.hid v6
 have Z6 := Lib.hid z6
 have HWT := Lib.hid (HS.out.wrote o6 f6)
 have HFAR := Lib.hid (HS.out.far H0.out)
 have HSUB := Lib.hid HS.out.sub
 clear v6 z6 o6 f6
 rename_i K hK
 refine hK _ _ ?_
 clear hK K
 go_upto_region 12 with fail
 refine wp_region_lit ?_
 refine wpl_loadS rfl (.tmp 3) rfl rfl V6.out rfl ?_
 refine wpl_storeS rfl (.tmp 6) (.tmp 78) rfl rfl rfl Z6.out rfl rfl (all24 rfl rfl rfl rfl rfl rfl rfl rfl rfl rfl rfl rfl rfl rfl rfl rfl rfl rfl rfl rfl rfl rfl rfl rfl) ?_
 go_wp2
 refine psEnd (s := { s with wrap := false, cells := eraU s.cells c (F0 : Int) (T0 : Int) r }) (w.heap.size + 1) 6 Tryz.results144 ?_ ?_ Z6.out (by omega) HWT.out.2 sl3 HWT.out.1 HFAR.out.2 (fun x hx => (HSUB.out x hx).imp id (fun h => by omega))
 all_goals rfl
theorem perase_J2 (s : Sc) (r c : Nat) (vc vt vo : Value) (A4 A5 A6 : Option Addr) (n4 n5 n6 k4 k5 k6 : Nat) (base : Nat) (w : World) (hbase : base ≤ w.heap.size) (h : PsL w base vc vt vo s) (hi : ScIn { s with wrap := false } r c) (vp : Value) (l : List Int) (T : Nat → Prop) (hT : ∀ x, T x → x < w.heap.size) (hl : SL vI w T vp l) (hll : l.length ≤ 1048576) (hw : Whole s.cells r c) (hk : paramL l 0 0 = 2) :
  Calls Tryz.prog 144 #[.agg (vS s vc vt vo (.slice A4 n4 k4) (.slice A5 n5 k5) (.slice A6 n6 k6)), vp, .int .u8 74] w (PsPost base vc vt vo (eraseS s false (paramL l 0 0)) w) := by
 have H0 := Lib.hid (show ∀ x, OwB vc vt vo x → x < w.heap.size from fun x hx => (h.lt x hx).2)
 obtain ⟨g1, k1, g2, k2, A3, k3, rfl, rfl, rfl, ⟨b1, l1, p1, q1⟩, ⟨b2, l2, p2, q2⟩, p3, q3⟩ := h.open_ hi
 have H := Lib.hid h
 have HI := Lib.hid hi
 obtain ⟨hlen, hr1, hr2, hc1, hc2, HR, HCO, hr3, hr4, hc3, hc4, y0, y1, x0, x1, t0, t1, u1⟩ := pIn hi
 clear h hi
 have HT := Lib.hid hT
 obtain ⟨AP, kP, rfl, pP, qP⟩ := hl.form
 have HLI := Lib.hid hl
 clear hT hl
 obtain ⟨Y, hY⟩ : ∃ Y : Nat, s.y = (Y : Int) := ⟨s.y.toNat, by omega⟩
 obtain ⟨X, hX⟩ : ∃ X : Nat, s.x = (X : Int) := ⟨s.x.toNat, by omega⟩
 have hYr : Y < r := by have := HR.out; omega
 have hXc : X < c := by have := HCO.out; omega
 obtain ⟨p, hp⟩ : ∃ p, p = Y * c := ⟨_, rfl⟩
 obtain ⟨N, hN⟩ : ∃ N, N = r * c := ⟨_, rfl⟩
 have he := row_end (c := c) hYr
 rw [← hp, ← hN] at he
 have hNb : N ≤ 1000000 := by rw [hN]; exact rc_le hr2 hc2
 have hq1 : s.y * s.cols = (p : Int) := by rw [HCO.out, hY, hp]; simp
 have hq2 : s.rows * s.cols = (N : Int) := by rw [HCO.out, HR.out, hN]; simp
 have hq3 : (s.y + 1) * s.cols = (p : Int) + (c : Int) := by rw [Int.add_mul, Int.one_mul, hq1, HCO.out]
 have hln : s.cells.length = N := by rw [hN]; exact HI.out.g.n
 obtain ⟨F0, hF0⟩ : ∃ F0, F0 = 0 := ⟨_, rfl⟩
 obtain ⟨T0, hT0⟩ : ∃ T0, T0 = N := ⟨_, rfl⟩
 rw [hk]
 rw [eraS_of HI.out hw hY hYr false 2 (by decide) F0 T0 (hF0 ▸ (by rw [if_neg (by decide), if_neg (by decide)]; rfl)) (hT0 ▸ (by rw [if_neg (by decide), if_neg (by decide), hln]; omega)) (ho_of (X := X) hYr hXc (by rw [hF0, hT0]; exact .inr (.inr (.inl ⟨rfl, hN⟩))))]
 have HFI : Hid (((0 : Int) : Int) = (F0 : Int)) := (by omega : ((0 : Int) : Int) = (F0 : Int))
 have HTI : Hid (((N : Int) : Int) = (T0 : Int)) := (by omega : ((N : Int) : Int) = (T0 : Int))
 have hFb : F0 ≤ 1048576 := by omega
 have hTb : T0 ≤ 1048576 := by omega
 have hcc : s.cols = (c : Int) := HCO.out
 have hcl : (c : Int) ≤ 1000 := by omega
 have HCC := Lib.hid hcc
 have HY := Lib.hid hY
 have HX := Lib.hid hX
 have hpb : p ≤ 1000000 := by omega
 have hXb : X ≤ 1000 := by omega
 have HK := Lib.hid hk
 clear hF0 hT0 hp hN hln hq3 hw hk hY hX hcc
 go_enter Tryz.func144, Tryz.ntmps144
 go_upto_region 2 with fail
 have HS : Hid (PutAt w base _ _ _ r c (.cells zQ 31) { s with wrap := false } g1 k1 g2 k2 A3 k3 (.slice A4 n4 k4) (.slice A5 n5 k5) (.slice A6 n6 k6) ((w.alloc (.cells #[.int .i64 s.rows, .int .i64 s.cols, .slice (some ⟨g1, 0, none⟩) s.cells.length k1, .int .i64 s.y, .int .i64 s.x, .bool false, .int .u16 (s.attr : Int), .int .i64 s.top, .int .i64 s.bottom, .slice (some ⟨g2, 0, none⟩) s.tabs.length k2, .int .i64 s.sy, .int .i64 s.sx, .int .u16 (s.sattr : Int), .bool s.auto, .bool s.shown, .bool s.alt, .slice A3 s.other.length k3, .int .i64 s.oy, .int .i64 s.ox, .int .i64 (s.p.mode : Int), .int .u8 (s.p.priv : Int), .slice A4 n4 k4, .slice A5 n5 k5, .slice A6 n6 k6] 31)).alloc (.cells zQ 31))) :=
  ⟨heap_a1 w _ _, heap_a2 w _ _, ((H.out.alloc _).alloc _).like rfl rfl rfl, Fr.of (two_new w _ _).1 _, by simp, fun x hx => .inl hx, HI.out, sl3⟩
 have HB : Hid (Below w.heap.size w ((w.alloc (.cells #[.int .i64 s.rows, .int .i64 s.cols, .slice (some ⟨g1, 0, none⟩) s.cells.length k1, .int .i64 s.y, .int .i64 s.x, .bool false, .int .u16 (s.attr : Int), .int .i64 s.top, .int .i64 s.bottom, .slice (some ⟨g2, 0, none⟩) s.tabs.length k2, .int .i64 s.sy, .int .i64 s.sx, .int .u16 (s.sattr : Int), .bool s.auto, .bool s.shown, .bool s.alt, .slice A3 s.other.length k3, .int .i64 s.oy, .int .i64 s.ox, .int .i64 (s.p.mode : Int), .int .u8 (s.p.priv : Int), .slice A4 n4 k4, .slice A5 n5 k5, .slice A6 n6 k6] 31)).alloc (.cells zQ 31))) := (two_new w _ _).1
 generalize World.alloc (World.alloc _ _) _ = W1 at HS HB ⊢
 have HLW := Lib.hid (HLI.out.keep (w' := W1) (fun q hq => HB.out.cell (HT.out _ hq)))
 have HCH : Hid (∀ n, Calls Tryz.prog 162 #[.slice AP l.length kP] (W1.drewN n) (fun e w' => e = .returned (.int .i64 2) ∧ w' = W1.drewN n)) := fun n => (pchoice_any _ l T (W1.drewN n) (HLW.out.keep (fun q _ => rfl)) hll).mono (fun {e w'} h => ⟨by rw [h.1, HK.out], h.2.symm⟩)
 have HPA : Hid (∀ n, Calls Tryz.prog 161 #[.int .i64 2, .int .i64 ((p : Int) + (X : Int)), .int .i64 ((N : Int))] (W1.drewN n) _) := fun n => ppart_2 ((p : Int) + (X : Int)) ((N : Int)) (by omega) (by omega) (W1.drewN n)
 obtain ⟨d0, -⟩ := cellR (v := .int .i64 s.rows) HS.out.v 0 rfl
 obtain ⟨d1, -⟩ := cellR (v := .int .i64 s.cols) HS.out.v 1 rfl
 obtain ⟨d3, -⟩ := cellR (v := .int .i64 s.y) HS.out.v 3 rfl
 obtain ⟨d4, -⟩ := cellR (v := .int .i64 s.x) HS.out.v 4 rfl
 rw [HX.out] at d4
 go_upto_region 5 with fail
 go_quiet ((first
  | (go_at_call 162; exact Calls.quiet_of_same (HCH.out _))
  | (go_at_call 161; exact Calls.quiet_of_same (HPA.out _))))
 clear d0 d1 d3 d4
 generalize hWD : World.drewN _ _ = WD
 replace HS := Lib.hid (HS.out.drew hWD)
 clear hWD
 go_upto_region 6 with fail
 refine wp_region_lit ?_
 refine wpl_loadS rfl (.tmp 3) rfl rfl HS.out.v rfl ?_
 go_wp2_with fail
 ((with_reducible refine (peraseC_i { s with wrap := false } r c g1 k1 g2 k2 A3 k3 A4 A5 A6 n4 n5 n6 k4 k5 k6 base _ (by have := HS.out.n; omega) HS.out.p HS.out.i F0 T0 (by omega) (by omega) _ _ HFI.out HTI.out).mono ?_); rintro e w6 ⟨rfl, o6, f6⟩)
 obtain ⟨ne0, ne1⟩ := HS.out.g1ne H0.out
 have v6 : w6.heap[w.heap.size]? = _ := (f6.block _ (by have := HS.out.n; omega) (fun e => ne0 e.symm)).trans HS.out.v
 have z6 : w6.heap[w.heap.size + 1]? = _ := (f6.block _ HS.out.n (fun e => ne1 e.symm)).trans HS.out.z
 have V6 := Lib.hid v6
 have Z6 := Lib.hid z6
 have HWT := Lib.hid (HS.out.wrote o6 f6)
 have HFAR := Lib.hid (HS.out.far H0.out)
 have HSUB := Lib.hid HS.out.sub
 clear v6 z6 o6 f6
 rename_i K hK
 refine hK _ _ ?_
 clear hK K
 go_upto_region 12 with fail
 refine wp_region_lit ?_
 refine wpl_loadS rfl (.tmp 3) rfl rfl V6.out rfl ?_
 refine wpl_storeS rfl (.tmp 6) (.tmp 78) rfl rfl rfl Z6.out rfl rfl (all24 rfl rfl rfl rfl rfl rfl rfl rfl rfl rfl rfl rfl rfl rfl rfl rfl rfl rfl rfl rfl rfl rfl rfl rfl) ?_
 go_wp2
 refine psEnd (s := { s with wrap := false, cells := eraU s.cells c (F0 : Int) (T0 : Int) r }) (w.heap.size + 1) 6 Tryz.results144 ?_ ?_ Z6.out (by omega) HWT.out.2 sl3 HWT.out.1 HFAR.out.2 (fun x hx => (HSUB.out x hx).imp id (fun h => by omega))
 all_goals rfl
theorem perase_K0 (s : Sc) (r c : Nat) (vc vt vo : Value) (A4 A5 A6 : Option Addr) (n4 n5 n6 k4 k5 k6 : Nat) (base : Nat) (w : World) (hbase : base ≤ w.heap.size) (h : PsL w base vc vt vo s) (hi : ScIn { s with wrap := false } r c) (vp : Value) (l : List Int) (T : Nat → Prop) (hT : ∀ x, T x → x < w.heap.size) (hl : SL vI w T vp l) (hll : l.length ≤ 1048576) (hw : Whole s.cells r c) (hk : paramL l 0 0 = 0) :
  Calls Tryz.prog 144 #[.agg (vS s vc vt vo (.slice A4 n4 k4) (.slice A5 n5 k5) (.slice A6 n6 k6)), vp, .int .u8 75] w (PsPost base vc vt vo (eraseS s true (paramL l 0 0)) w) := by
 have H0 := Lib.hid (show ∀ x, OwB vc vt vo x → x < w.heap.size from fun x hx => (h.lt x hx).2)
 obtain ⟨g1, k1, g2, k2, A3, k3, rfl, rfl, rfl, ⟨b1, l1, p1, q1⟩, ⟨b2, l2, p2, q2⟩, p3, q3⟩ := h.open_ hi
 have H := Lib.hid h
 have HI := Lib.hid hi
 obtain ⟨hlen, hr1, hr2, hc1, hc2, HR, HCO, hr3, hr4, hc3, hc4, y0, y1, x0, x1, t0, t1, u1⟩ := pIn hi
 clear h hi
 have HT := Lib.hid hT
 obtain ⟨AP, kP, rfl, pP, qP⟩ := hl.form
 have HLI := Lib.hid hl
 clear hT hl
 obtain ⟨Y, hY⟩ : ∃ Y : Nat, s.y = (Y : Int) := ⟨s.y.toNat, by omega⟩
 obtain ⟨X, hX⟩ : ∃ X : Nat, s.x = (X : Int) := ⟨s.x.toNat, by omega⟩
 have hYr : Y < r := by have := HR.out; omega
 have hXc : X < c := by have := HCO.out; omega
 obtain ⟨p, hp⟩ : ∃ p, p = Y * c := ⟨_, rfl⟩
 obtain ⟨N, hN⟩ : ∃ N, N = r * c := ⟨_, rfl⟩
 have he := row_end (c := c) hYr
 rw [← hp, ← hN] at he
 have hNb : N ≤ 1000000 := by rw [hN]; exact rc_le hr2 hc2
 have hq1 : s.y * s.cols = (p : Int) := by rw [HCO.out, hY, hp]; simp
 have hq2 : s.rows * s.cols = (N : Int) := by rw [HCO.out, HR.out, hN]; simp
 have hq3 : (s.y + 1) * s.cols = (p : Int) + (c : Int) := by rw [Int.add_mul, Int.one_mul, hq1, HCO.out]
 have hln : s.cells.length = N := by rw [hN]; exact HI.out.g.n
 obtain ⟨F0, hF0⟩ : ∃ F0, F0 = p + X := ⟨_, rfl⟩
 obtain ⟨T0, hT0⟩ : ∃ T0, T0 = p + c := ⟨_, rfl⟩
 rw [hk]
 rw [eraS_of HI.out hw hY hYr true 0 (by decide) F0 T0 (hF0 ▸ (by rw [if_pos rfl, hq1, hX]; omega)) (hT0 ▸ (by rw [if_neg (by decide), if_pos rfl, hq3]; omega)) (ho_of (X := X) hYr hXc (by rw [hF0, hT0]; exact .inr (.inr (.inr (.inl ⟨by rw [hp], by rw [hp]⟩)))))]
 have HFI : Hid (((p : Int) + (X : Int) : Int) = (F0 : Int)) := (by omega : ((p : Int) + (X : Int) : Int) = (F0 : Int))
 have HTI : Hid (((p : Int) + (c : Int) : Int) = (T0 : Int)) := (by omega : ((p : Int) + (c : Int) : Int) = (T0 : Int))
 have hFb : F0 ≤ 1048576 := by omega
 have hTb : T0 ≤ 1048576 := by omega
 have hcc : s.cols = (c : Int) := HCO.out
 have hcl : (c : Int) ≤ 1000 := by omega
 have HCC := Lib.hid hcc
 have HY := Lib.hid hY
 have HX := Lib.hid hX
 have hpb : p ≤ 1000000 := by omega
 have hXb : X ≤ 1000 := by omega
 have HK := Lib.hid hk
 clear hF0 hT0 hp hN hln hq3 hw hk hY hX hcc
 go_enter Tryz.func144, Tryz.ntmps144
 go_upto_region 2 with fail
 have HS : Hid (PutAt w base _ _ _ r c (.cells zQ 31) { s with wrap := false } g1 k1 g2 k2 A3 k3 (.slice A4 n4 k4) (.slice A5 n5 k5) (.slice A6 n6 k6) ((w.alloc (.cells #[.int .i64 s.rows, .int .i64 s.cols, .slice (some ⟨g1, 0, none⟩) s.cells.length k1, .int .i64 s.y, .int .i64 s.x, .bool false, .int .u16 (s.attr : Int), .int .i64 s.top, .int .i64 s.bottom, .slice (some ⟨g2, 0, none⟩) s.tabs.length k2, .int .i64 s.sy, .int .i64 s.sx, .int .u16 (s.sattr : Int), .bool s.auto, .bool s.shown, .bool s.alt, .slice A3 s.other.length k3, .int .i64 s.oy, .int .i64 s.ox, .int .i64 (s.p.mode : Int), .int .u8 (s.p.priv : Int), .slice A4 n4 k4, .slice A5 n5 k5, .slice A6 n6 k6] 31)).alloc (.cells zQ 31))) :=
  ⟨heap_a1 w _ _, heap_a2 w _ _, ((H.out.alloc _).alloc _).like rfl rfl rfl, Fr.of (two_new w _ _).1 _, by simp, fun x hx => .inl hx, HI.out, sl3⟩
 have HB : Hid (Below w.heap.size w ((w.alloc (.cells #[.int .i64 s.rows, .int .i64 s.cols, .slice (some ⟨g1, 0, none⟩) s.cells.length k1, .int .i64 s.y, .int .i64 s.x, .bool false, .int .u16 (s.attr : Int), .int .i64 s.top, .int .i64 s.bottom, .slice (some ⟨g2, 0, none⟩) s.tabs.length k2, .int .i64 s.sy, .int .i64 s.sx, .int .u16 (s.sattr : Int), .bool s.auto, .bool s.shown, .bool s.alt, .slice A3 s.other.length k3, .int .i64 s.oy, .int .i64 s.ox, .int .i64 (s.p.mode : Int), .int .u8 (s.p.priv : Int), .slice A4 n4 k4, .slice A5 n5 k5, .slice A6 n6 k6] 31)).alloc (.cells zQ 31))) := (two_new w _ _).1
 generalize World.alloc (World.alloc _ _) _ = W1 at HS HB ⊢
 have HLW := Lib.hid (HLI.out.keep (w' := W1) (fun q hq => HB.out.cell (HT.out _ hq)))
 have HCH : Hid (∀ n, Calls Tryz.prog 162 #[.slice AP l.length kP] (W1.drewN n) (fun e w' => e = .returned (.int .i64 0) ∧ w' = W1.drewN n)) := fun n => (pchoice_any _ l T (W1.drewN n) (HLW.out.keep (fun q _ => rfl)) hll).mono (fun {e w'} h => ⟨by rw [h.1, HK.out], h.2.symm⟩)
 have HPA : Hid (∀ n, Calls Tryz.prog 161 #[.int .i64 0, .int .i64 ((X : Int)), .int .i64 ((c : Int))] (W1.drewN n) _) := fun n => ppart_0 ((X : Int)) ((c : Int)) (by omega) (by omega) (W1.drewN n)
 obtain ⟨d0, -⟩ := cellR (v := .int .i64 s.rows) HS.out.v 0 rfl
 obtain ⟨d1, -⟩ := cellR (v := .int .i64 s.cols) HS.out.v 1 rfl
 obtain ⟨d3, -⟩ := cellR (v := .int .i64 s.y) HS.out.v 3 rfl
 obtain ⟨d4, -⟩ := cellR (v := .int .i64 s.x) HS.out.v 4 rfl
 rw [HX.out] at d4
 go_upto_region 3 with fail
 rw [HCC.out] at d1
 go_upto_region 8 with fail
 go_quiet ((first
  | (go_at_call 162; exact Calls.quiet_of_same (HCH.out _))
  | (go_at_call 161; exact Calls.quiet_of_same (HPA.out _))))
 clear d0 d1 d3 d4
 generalize hWD : World.drewN _ _ = WD
 replace HS := Lib.hid (HS.out.drew hWD)
 clear hWD
 go_upto_region 9 with fail
 refine wp_region_lit ?_
 refine wpl_loadS rfl (.tmp 3) rfl rfl HS.out.v rfl ?_
 go_wp2_with fail
 ((with_reducible refine (peraseC_i { s with wrap := false } r c g1 k1 g2 k2 A3 k3 A4 A5 A6 n4 n5 n6 k4 k5 k6 base _ (by have := HS.out.n; omega) HS.out.p HS.out.i F0 T0 (by omega) (by omega) _ _ HFI.out HTI.out).mono ?_); rintro e w6 ⟨rfl, o6, f6⟩)
 obtain ⟨ne0, ne1⟩ := HS.out.g1ne H0.out
 have v6 : w6.heap[w.heap.size]? = _ := (f6.block _ (by have := HS.out.n; omega) (fun e => ne0 e.symm)).trans HS.out.v
 have z6 : w6.heap[w.heap.size + 1]? = _ := (f6.block _ HS.out.n (fun e => ne1 e.symm)).trans HS.out.z
 have V6 := Lib.hid v6
 have Z6 := Lib.hid z6
 have HWT := Lib.hid (HS.out.wrote o6 f6)
 have HFAR := Lib.hid (HS.out.far H0.out)
 have HSUB := Lib.hid HS.out.sub
 clear v6 z6 o6 f6
 rename_i K hK
 refine hK _ _ ?_
 clear hK K
 go_upto_region 12 with fail
 refine wp_region_lit ?_
 refine wpl_loadS rfl (.tmp 3) rfl rfl V6.out rfl ?_
 refine wpl_storeS rfl (.tmp 6) (.tmp 78) rfl rfl rfl Z6.out rfl rfl (all24 rfl rfl rfl rfl rfl rfl rfl rfl rfl rfl rfl rfl rfl rfl rfl rfl rfl rfl rfl rfl rfl rfl rfl rfl) ?_
 go_wp2
 refine psEnd (s := { s with wrap := false, cells := eraU s.cells c (F0 : Int) (T0 : Int) r }) (w.heap.size + 1) 6 Tryz.results144 ?_ ?_ Z6.out (by omega) HWT.out.2 sl3 HWT.out.1 HFAR.out.2 (fun x hx => (HSUB.out x hx).imp id (fun h => by omega))
 all_goals rfl
theorem perase_K1 (s : Sc) (r c : Nat) (vc vt vo : Value) (A4 A5 A6 : Option Addr) (n4 n5 n6 k4 k5 k6 : Nat) (base : Nat) (w : World) (hbase : base ≤ w.heap.size) (h : PsL w base vc vt vo s) (hi : ScIn { s with wrap := false } r c) (vp : Value) (l : List Int) (T : Nat → Prop) (hT : ∀ x, T x → x < w.heap.size) (hl : SL vI w T vp l) (hll : l.length ≤ 1048576) (hw : Whole s.cells r c) (hk : paramL l 0 0 = 1) :
  Calls Tryz.prog 144 #[.agg (vS s vc vt vo (.slice A4 n4 k4) (.slice A5 n5 k5) (.slice A6 n6 k6)), vp, .int .u8 75] w (PsPost base vc vt vo (eraseS s true (paramL l 0 0)) w) := by
 have H0 := Lib.hid (show ∀ x, OwB vc vt vo x → x < w.heap.size from fun x hx => (h.lt x hx).2)
 obtain ⟨g1, k1, g2, k2, A3, k3, rfl, rfl, rfl, ⟨b1, l1, p1, q1⟩, ⟨b2, l2, p2, q2⟩, p3, q3⟩ := h.open_ hi
 have H := Lib.hid h
 have HI := Lib.hid hi
 obtain ⟨hlen, hr1, hr2, hc1, hc2, HR, HCO, hr3, hr4, hc3, hc4, y0, y1, x0, x1, t0, t1, u1⟩ := pIn hi
 clear h hi
 have HT := Lib.hid hT
 obtain ⟨AP, kP, rfl, pP, qP⟩ := hl.form
 have HLI := Lib.hid hl
 clear hT hl
 obtain ⟨Y, hY⟩ : ∃ Y : Nat, s.y = (Y : Int) := ⟨s.y.toNat, by omega⟩
 obtain ⟨X, hX⟩ : ∃ X : Nat, s.x = (X : Int) := ⟨s.x.toNat, by omega⟩
 have hYr : Y < r := by have := HR.out; omega
 have hXc : X < c := by have := HCO.out; omega
 obtain ⟨p, hp⟩ : ∃ p, p = Y * c := ⟨_, rfl⟩
 obtain ⟨N, hN⟩ : ∃ N, N = r * c := ⟨_, rfl⟩
 have he := row_end (c := c) hYr
 rw [← hp, ← hN] at he
 have hNb : N ≤ 1000000 := by rw [hN]; exact rc_le hr2 hc2
 have hq1 : s.y * s.cols = (p : Int) := by rw [HCO.out, hY, hp]; simp
 have hq2 : s.rows * s.cols = (N : Int) := by rw [HCO.out, HR.out, hN]; simp
 have hq3 : (s.y + 1) * s.cols = (p : Int) + (c : Int) := by rw [Int.add_mul, Int.one_mul, hq1, HCO.out]
 have hln : s.cells.length = N := by rw [hN]; exact HI.out.g.n
 obtain ⟨F0, hF0⟩ : ∃ F0, F0 = p := ⟨_, rfl⟩
 obtain ⟨T0, hT0⟩ : ∃ T0, T0 = p + X + 1 := ⟨_, rfl⟩
 rw [hk]
 rw [eraS_of HI.out hw hY hYr true 1 (by decide) F0 T0 (hF0 ▸ (by rw [if_neg (by decide), if_pos rfl, hq1]; omega)) (hT0 ▸ (by rw [if_pos rfl, hq1, hX]; omega)) (ho_of (X := X) hYr hXc (by rw [hF0, hT0]; exact .inr (.inr (.inr (.inr (.inl ⟨hp, by rw [hp]⟩))))))]
 have HFI : Hid (((p : Int) : Int) = (F0 : Int)) := (by omega : ((p : Int) : Int) = (F0 : Int))
 have HTI : Hid (((p : Int) + ((X : Int) + 1) : Int) = (T0 : Int)) := (by omega : ((p : Int) + ((X : Int) + 1) : Int) = (T0 : Int))
 have hFb : F0 ≤ 1048576 := by omega
 have hTb : T0 ≤ 1048576 := by omega
 have hcc : s.cols = (c : Int) := HCO.out
 have hcl : (c : Int) ≤ 1000 := by omega
 have HCC := Lib.hid hcc
 have HY := Lib.hid hY
 have HX := Lib.hid hX
 have hpb : p ≤ 1000000 := by omega
 have hXb : X ≤ 1000 := by omega
 have HK := Lib.hid hk
 clear hF0 hT0 hp hN hln hq3 hw hk hY hX hcc
 go_enter Tryz.func144, Tryz.ntmps144
 go_upto_region 2 with fail
 have HS : Hid (PutAt w base _ _ _ r c (.cells zQ 31) { s with wrap := false } g1 k1 g2 k2 A3 k3 (.slice A4 n4 k4) (.slice A5 n5 k5) (.slice A6 n6 k6) ((w.alloc (.cells #[.int .i64 s.rows, .int .i64 s.cols, .slice (some ⟨g1, 0, none⟩) s.cells.length k1, .int .i64 s.y, .int .i64 s.x, .bool false, .int .u16 (s.attr : Int), .int .i64 s.top, .int .i64 s.bottom, .slice (some ⟨g2, 0, none⟩) s.tabs.length k2, .int .i64 s.sy, .int .i64 s.sx, .int .u16 (s.sattr : Int), .bool s.auto, .bool s.shown, .bool s.alt, .slice A3 s.other.length k3, .int .i64 s.oy, .int .i64 s.ox, .int .i64 (s.p.mode : Int), .int .u8 (s.p.priv : Int), .slice A4 n4 k4, .slice A5 n5 k5, .slice A6 n6 k6] 31)).alloc (.cells zQ 31))) :=
  ⟨heap_a1 w _ _, heap_a2 w _ _, ((H.out.alloc _).alloc _).like rfl rfl rfl, Fr.of (two_new w _ _).1 _, by simp, fun x hx => .inl hx, HI.out, sl3⟩
 have HB : Hid (Below w.heap.size w ((w.alloc (.cells #[.int .i64 s.rows, .int .i64 s.cols, .slice (some ⟨g1, 0, none⟩) s.cells.length k1, .int .i64 s.y, .int .i64 s.x, .bool false, .int .u16 (s.attr : Int), .int .i64 s.top, .int .i64 s.bottom, .slice (some ⟨g2, 0, none⟩) s.tabs.length k2, .int .i64 s.sy, .int .i64 s.sx, .int .u16 (s.sattr : Int), .bool s.auto, .bool s.shown, .bool s.alt, .slice A3 s.other.length k3, .int .i64 s.oy, .int .i64 s.ox, .int .i64 (s.p.mode : Int), .int .u8 (s.p.priv : Int), .slice A4 n4 k4, .slice A5 n5 k5, .slice A6 n6 k6] 31)).alloc (.cells zQ 31))) := (two_new w _ _).1
 generalize World.alloc (World.alloc _ _) _ = W1 at HS HB ⊢
 have HLW := Lib.hid (HLI.out.keep (w' := W1) (fun q hq => HB.out.cell (HT.out _ hq)))
 have HCH : Hid (∀ n, Calls Tryz.prog 162 #[.slice AP l.length kP] (W1.drewN n) (fun e w' => e = .returned (.int .i64 1) ∧ w' = W1.drewN n)) := fun n => (pchoice_any _ l T (W1.drewN n) (HLW.out.keep (fun q _ => rfl)) hll).mono (fun {e w'} h => ⟨by rw [h.1, HK.out], h.2.symm⟩)
 have HPA : Hid (∀ n, Calls Tryz.prog 161 #[.int .i64 1, .int .i64 ((X : Int)), .int .i64 ((c : Int))] (W1.drewN n) _) := fun n => ppart_1 ((X : Int)) ((c : Int)) (by omega) (by omega) (W1.drewN n)
 obtain ⟨d0, -⟩ := cellR (v := .int .i64 s.rows) HS.out.v 0 rfl
 obtain ⟨d1, -⟩ := cellR (v := .int .i64 s.cols) HS.out.v 1 rfl
 obtain ⟨d3, -⟩ := cellR (v := .int .i64 s.y) HS.out.v 3 rfl
 obtain ⟨d4, -⟩ := cellR (v := .int .i64 s.x) HS.out.v 4 rfl
 rw [HX.out] at d4
 go_upto_region 3 with fail
 rw [HCC.out] at d1
 go_upto_region 8 with fail
 go_quiet ((first
  | (go_at_call 162; exact Calls.quiet_of_same (HCH.out _))
  | (go_at_call 161; exact Calls.quiet_of_same (HPA.out _))))
 clear d0 d1 d3 d4
 generalize hWD : World.drewN _ _ = WD
 replace HS := Lib.hid (HS.out.drew hWD)
 clear hWD
 go_upto_region 9 with fail
 refine wp_region_lit ?_
 refine wpl_loadS rfl (.tmp 3) rfl rfl HS.out.v rfl ?_
 go_wp2_with fail
 ((with_reducible refine (peraseC_i { s with wrap := false } r c g1 k1 g2 k2 A3 k3 A4 A5 A6 n4 n5 n6 k4 k5 k6 base _ (by have := HS.out.n; omega) HS.out.p HS.out.i F0 T0 (by omega) (by omega) _ _ HFI.out HTI.out).mono ?_); rintro e w6 ⟨rfl, o6, f6⟩)
 obtain ⟨ne0, ne1⟩ := HS.out.g1ne H0.out
 have v6 : w6.heap[w.heap.size]? = _ := (f6.block _ (by have := HS.out.n; omega) (fun e => ne0 e.symm)).trans HS.out.v
 have z6 : w6.heap[w.heap.size + 1]? = _ := (f6.block _ HS.out.n (fun e => ne1 e.symm)).trans HS.out.z
 have V6 := Lib.hid v6
 have Z6 := Lib.hid z6
 have HWT := Lib.hid (HS.out.wrote o6 f6)
 have HFAR := Lib.hid (HS.out.far H0.out)
 have HSUB := Lib.hid HS.out.sub
 clear v6 z6 o6 f6
 rename_i K hK
 refine hK _ _ ?_
 clear hK K
 go_upto_region 12 with fail
 refine wp_region_lit ?_
 refine wpl_loadS rfl (.tmp 3) rfl rfl V6.out rfl ?_
 refine wpl_storeS rfl (.tmp 6) (.tmp 78) rfl rfl rfl Z6.out rfl rfl (all24 rfl rfl rfl rfl rfl rfl rfl rfl rfl rfl rfl rfl rfl rfl rfl rfl rfl rfl rfl rfl rfl rfl rfl rfl) ?_
 go_wp2
 refine psEnd (s := { s with wrap := false, cells := eraU s.cells c (F0 : Int) (T0 : Int) r }) (w.heap.size + 1) 6 Tryz.results144 ?_ ?_ Z6.out (by omega) HWT.out.2 sl3 HWT.out.1 HFAR.out.2 (fun x hx => (HSUB.out x hx).imp id (fun h => by omega))
 all_goals rfl
theorem perase_K2 (s : Sc) (r c : Nat) (vc vt vo : Value) (A4 A5 A6 : Option Addr) (n4 n5 n6 k4 k5 k6 : Nat) (base : Nat) (w : World) (hbase : base ≤ w.heap.size) (h : PsL w base vc vt vo s) (hi : ScIn { s with wrap := false } r c) (vp : Value) (l : List Int) (T : Nat → Prop) (hT : ∀ x, T x → x < w.heap.size) (hl : SL vI w T vp l) (hll : l.length ≤ 1048576) (hw : Whole s.cells r c) (hk : paramL l 0 0 = 2) :
  Calls Tryz.prog 144 #[.agg (vS s vc vt vo (.slice A4 n4 k4) (.slice A5 n5 k5) (.slice A6 n6 k6)), vp, .int .u8 75] w (PsPost base vc vt vo (eraseS s true (paramL l 0 0)) w) := by
 have H0 := Lib.hid (show ∀ x, OwB vc vt vo x → x < w.heap.size from fun x hx => (h.lt x hx).2)
 obtain ⟨g1, k1, g2, k2, A3, k3, rfl, rfl, rfl, ⟨b1, l1, p1, q1⟩, ⟨b2, l2, p2, q2⟩, p3, q3⟩ := h.open_ hi
 have H := Lib.hid h
 have HI := Lib.hid hi
 obtain ⟨hlen, hr1, hr2, hc1, hc2, HR, HCO, hr3, hr4, hc3, hc4, y0, y1, x0, x1, t0, t1, u1⟩ := pIn hi
 clear h hi
 have HT := Lib.hid hT
 obtain ⟨AP, kP, rfl, pP, qP⟩ := hl.form
 have HLI := Lib.hid hl
 clear hT hl
 obtain ⟨Y, hY⟩ : ∃ Y : Nat, s.y = (Y : Int) := ⟨s.y.toNat, by omega⟩
 obtain ⟨X, hX⟩ : ∃ X : Nat, s.x = (X : Int) := ⟨s.x.toNat, by omega⟩
 have hYr : Y < r := by have := HR.out; omega
 have hXc : X < c := by have := HCO.out; omega
 obtain ⟨p, hp⟩ : ∃ p, p = Y * c := ⟨_, rfl⟩
 obtain ⟨N, hN⟩ : ∃ N, N = r * c := ⟨_, rfl⟩
 have he := row_end (c := c) hYr
 rw [← hp, ← hN] at he
 have hNb : N ≤ 1000000 := by rw [hN]; exact rc_le hr2 hc2
 have hq1 : s.y * s.cols = (p : Int) := by rw [HCO.out, hY, hp]; simp
 have hq2 : s.rows * s.cols = (N : Int) := by rw [HCO.out, HR.out, hN]; simp
 have hq3 : (s.y + 1) * s.cols = (p : Int) + (c : Int) := by rw [Int.add_mul, Int.one_mul, hq1, HCO.out]
 have hln : s.cells.length = N := by rw [hN]; exact HI.out.g.n
 obtain ⟨F0, hF0⟩ : ∃ F0, F0 = p := ⟨_, rfl⟩
 obtain ⟨T0, hT0⟩ : ∃ T0, T0 = p + c := ⟨_, rfl⟩
 rw [hk]
 rw [eraS_of HI.out hw hY hYr true 2 (by decide) F0 T0 (hF0 ▸ (by rw [if_neg (by decide), if_pos rfl, hq1]; omega)) (hT0 ▸ (by rw [if_neg (by decide), if_pos rfl, hq3]; omega)) (ho_of (X := X) hYr hXc (by rw [hF0, hT0]; exact .inr (.inr (.inr (.inr (.inr (.inl ⟨hp, by rw [hp]⟩)))))))]
 have HFI : Hid (((p : Int) : Int) = (F0 : Int)) := (by omega : ((p : Int) : Int) = (F0 : Int))
 have HTI : Hid (((p : Int) + (c : Int) : Int) = (T0 : Int)) := (by omega : ((p : Int) + (c : Int) : Int) = (T0 : Int))
 have hFb : F0 ≤ 1048576 := by omega
 have hTb : T0 ≤ 1048576 := by omega
 have hcc : s.cols = (c : Int) := HCO.out
 have hcl : (c : Int) ≤ 1000 := by omega
 have HCC := Lib.hid hcc
 have HY := Lib.hid hY
 have HX := Lib.hid hX
 have hpb : p ≤ 1000000 := by omega
 have hXb : X ≤ 1000 := by omega
 have HK := Lib.hid hk
 clear hF0 hT0 hp hN hln hq3 hw hk hY hX hcc
 go_enter Tryz.func144, Tryz.ntmps144
 go_upto_region 2 with fail
 have HS : Hid (PutAt w base _ _ _ r c (.cells zQ 31) { s with wrap := false } g1 k1 g2 k2 A3 k3 (.slice A4 n4 k4) (.slice A5 n5 k5) (.slice A6 n6 k6) ((w.alloc (.cells #[.int .i64 s.rows, .int .i64 s.cols, .slice (some ⟨g1, 0, none⟩) s.cells.length k1, .int .i64 s.y, .int .i64 s.x, .bool false, .int .u16 (s.attr : Int), .int .i64 s.top, .int .i64 s.bottom, .slice (some ⟨g2, 0, none⟩) s.tabs.length k2, .int .i64 s.sy, .int .i64 s.sx, .int .u16 (s.sattr : Int), .bool s.auto, .bool s.shown, .bool s.alt, .slice A3 s.other.length k3, .int .i64 s.oy, .int .i64 s.ox, .int .i64 (s.p.mode : Int), .int .u8 (s.p.priv : Int), .slice A4 n4 k4, .slice A5 n5 k5, .slice A6 n6 k6] 31)).alloc (.cells zQ 31))) :=
  ⟨heap_a1 w _ _, heap_a2 w _ _, ((H.out.alloc _).alloc _).like rfl rfl rfl, Fr.of (two_new w _ _).1 _, by simp, fun x hx => .inl hx, HI.out, sl3⟩
 have HB : Hid (Below w.heap.size w ((w.alloc (.cells #[.int .i64 s.rows, .int .i64 s.cols, .slice (some ⟨g1, 0, none⟩) s.cells.length k1, .int .i64 s.y, .int .i64 s.x, .bool false, .int .u16 (s.attr : Int), .int .i64 s.top, .int .i64 s.bottom, .slice (some ⟨g2, 0, none⟩) s.tabs.length k2, .int .i64 s.sy, .int .i64 s.sx, .int .u16 (s.sattr : Int), .bool s.auto, .bool s.shown, .bool s.alt, .slice A3 s.other.length k3, .int .i64 s.oy, .int .i64 s.ox, .int .i64 (s.p.mode : Int), .int .u8 (s.p.priv : Int), .slice A4 n4 k4, .slice A5 n5 k5, .slice A6 n6 k6] 31)).alloc (.cells zQ 31))) := (two_new w _ _).1
 generalize World.alloc (World.alloc _ _) _ = W1 at HS HB ⊢
 have HLW := Lib.hid (HLI.out.keep (w' := W1) (fun q hq => HB.out.cell (HT.out _ hq)))
 have HCH : Hid (∀ n, Calls Tryz.prog 162 #[.slice AP l.length kP] (W1.drewN n) (fun e w' => e = .returned (.int .i64 2) ∧ w' = W1.drewN n)) := fun n => (pchoice_any _ l T (W1.drewN n) (HLW.out.keep (fun q _ => rfl)) hll).mono (fun {e w'} h => ⟨by rw [h.1, HK.out], h.2.symm⟩)
 have HPA : Hid (∀ n, Calls Tryz.prog 161 #[.int .i64 2, .int .i64 ((X : Int)), .int .i64 ((c : Int))] (W1.drewN n) _) := fun n => ppart_2 ((X : Int)) ((c : Int)) (by omega) (by omega) (W1.drewN n)
 obtain ⟨d0, -⟩ := cellR (v := .int .i64 s.rows) HS.out.v 0 rfl
 obtain ⟨d1, -⟩ := cellR (v := .int .i64 s.cols) HS.out.v 1 rfl
 obtain ⟨d3, -⟩ := cellR (v := .int .i64 s.y) HS.out.v 3 rfl
 obtain ⟨d4, -⟩ := cellR (v := .int .i64 s.x) HS.out.v 4 rfl
 rw [HX.out] at d4
 go_upto_region 3 with fail
 rw [HCC.out] at d1
 go_upto_region 8 with fail
 go_quiet ((first
  | (go_at_call 162; exact Calls.quiet_of_same (HCH.out _))
  | (go_at_call 161; exact Calls.quiet_of_same (HPA.out _))))
 clear d0 d1 d3 d4
 generalize hWD : World.drewN _ _ = WD
 replace HS := Lib.hid (HS.out.drew hWD)
 clear hWD
 go_upto_region 9 with fail
 refine wp_region_lit ?_
 refine wpl_loadS rfl (.tmp 3) rfl rfl HS.out.v rfl ?_
 go_wp2_with fail
 ((with_reducible refine (peraseC_i { s with wrap := false } r c g1 k1 g2 k2 A3 k3 A4 A5 A6 n4 n5 n6 k4 k5 k6 base _ (by have := HS.out.n; omega) HS.out.p HS.out.i F0 T0 (by omega) (by omega) _ _ HFI.out HTI.out).mono ?_); rintro e w6 ⟨rfl, o6, f6⟩)
 obtain ⟨ne0, ne1⟩ := HS.out.g1ne H0.out
 have v6 : w6.heap[w.heap.size]? = _ := (f6.block _ (by have := HS.out.n; omega) (fun e => ne0 e.symm)).trans HS.out.v
 have z6 : w6.heap[w.heap.size + 1]? = _ := (f6.block _ HS.out.n (fun e => ne1 e.symm)).trans HS.out.z
 have V6 := Lib.hid v6
 have Z6 := Lib.hid z6
 have HWT := Lib.hid (HS.out.wrote o6 f6)
 have HFAR := Lib.hid (HS.out.far H0.out)
 have HSUB := Lib.hid HS.out.sub
 clear v6 z6 o6 f6
 rename_i K hK
 refine hK _ _ ?_
 clear hK K
 go_upto_region 12 with fail
 refine wp_region_lit ?_
 refine wpl_loadS rfl (.tmp 3) rfl rfl V6.out rfl ?_
 refine wpl_storeS rfl (.tmp 6) (.tmp 78) rfl rfl rfl Z6.out rfl rfl (all24 rfl rfl rfl rfl rfl rfl rfl rfl rfl rfl rfl rfl rfl rfl rfl rfl rfl rfl rfl rfl rfl rfl rfl rfl) ?_
 go_wp2
 refine psEnd (s := { s with wrap := false, cells := eraU s.cells c (F0 : Int) (T0 : Int) r }) (w.heap.size + 1) 6 Tryz.results144 ?_ ?_ Z6.out (by omega) HWT.out.2 sl3 HWT.out.1 HFAR.out.2 (fun x hx => (HSUB.out x hx).imp id (fun h => by omega))
 all_goals rfl
theorem perase_Jn (s : Sc) (r c : Nat) (vc vt vo : Value) (A4 A5 A6 : Option Addr) (n4 n5 n6 k4 k5 k6 : Nat) (base : Nat) (w : World) (hbase : base ≤ w.heap.size) (h : PsL w base vc vt vo s) (hi : ScIn { s with wrap := false } r c) (vp : Value) (l : List Int) (T : Nat → Prop) (hT : ∀ x, T x → x < w.heap.size) (hl : SL vI w T vp l) (hll : l.length ≤ 1048576) (hw : Whole s.cells r c) (hk : 2 < paramL l 0 0) :
  Calls Tryz.prog 144 #[.agg (vS s vc vt vo (.slice A4 n4 k4) (.slice A5 n5 k5) (.slice A6 n6 k6)), vp, .int .u8 74] w (PsPost base vc vt vo (eraseS s false (paramL l 0 0)) w) := by
 have H0 := Lib.hid (show ∀ x, OwB vc vt vo x → x < w.heap.size from fun x hx => (h.lt x hx).2)
 obtain ⟨g1, k1, g2, k2, A3, k3, rfl, rfl, rfl, ⟨b1, l1, p1, q1⟩, ⟨b2, l2, p2, q2⟩, p3, q3⟩ := h.open_ hi
 have H := Lib.hid h
 have HI := Lib.hid hi
 obtain ⟨hlen, hr1, hr2, hc1, hc2, HR, HCO, hr3, hr4, hc3, hc4, y0, y1, x0, x1, t0, t1, u1⟩ := pIn hi
 clear h hi
 have HT := Lib.hid hT
 obtain ⟨AP, kP, rfl, pP, qP⟩ := hl.form
 have HLI := Lib.hid hl
 clear hT hl
 obtain ⟨Y, hY⟩ : ∃ Y : Nat, s.y = (Y : Int) := ⟨s.y.toNat, by omega⟩
 obtain ⟨X, hX⟩ : ∃ X : Nat, s.x = (X : Int) := ⟨s.x.toNat, by omega⟩
 have hYr : Y < r := by have := HR.out; omega
 have hXc : X < c := by have := HCO.out; omega
 obtain ⟨p, hp⟩ : ∃ p, p = Y * c := ⟨_, rfl⟩
 obtain ⟨N, hN⟩ : ∃ N, N = r * c := ⟨_, rfl⟩
 have he := row_end (c := c) hYr
 rw [← hp, ← hN] at he
 have hNb : N ≤ 1000000 := by rw [hN]; exact rc_le hr2 hc2
 have hq1 : s.y * s.cols = (p : Int) := by rw [HCO.out, hY, hp]; simp
 have hq2 : s.rows * s.cols = (N : Int) := by rw [HCO.out, HR.out, hN]; simp
 have hq3 : (s.y + 1) * s.cols = (p : Int) + (c : Int) := by rw [Int.add_mul, Int.one_mul, hq1, HCO.out]
 have hln : s.cells.length = N := by rw [hN]; exact HI.out.g.n
 obtain ⟨F0, hF0⟩ : ∃ F0, F0 = 0 := ⟨_, rfl⟩
 obtain ⟨T0, hT0⟩ : ∃ T0, T0 = 0 := ⟨_, rfl⟩
 obtain ⟨K0, hK0⟩ : ∃ K0, paramL l 0 0 = K0 := ⟨_, rfl⟩
 rw [hK0] at hk ⊢
 rw [show eraseS s false K0 = { s with wrap := false, cells := eraU s.cells c F0 T0 r } by
  unfold eraseS
  rw [if_pos hk, eraU_no F0 T0 r (Nat.le_refl _) (fun y hy h => ?_)]
  have h1 : y * c + c ≤ r * c := row_end hy
  rw [hF0, hT0] at h
  omega]
 have HFI : Hid (((0 : Int) : Int) = (F0 : Int)) := (by omega : ((0 : Int) : Int) = (F0 : Int))
 have HTI : Hid (((0 : Int) : Int) = (T0 : Int)) := (by omega : ((0 : Int) : Int) = (T0 : Int))
 have hFb : F0 ≤ 1048576 := by omega
 have hTb : T0 ≤ 1048576 := by omega
 have hcc : s.cols = (c : Int) := HCO.out
 have hcl : (c : Int) ≤ 1000 := by omega
 have HCC := Lib.hid hcc
 have HY := Lib.hid hY
 have HX := Lib.hid hX
 have hpb : p ≤ 1000000 := by omega
 have hXb : X ≤ 1000 := by omega
 have HK := Lib.hid hk
 clear hF0 hT0 hp hN hln hq3 hw hk hY hX hcc
 go_enter Tryz.func144, Tryz.ntmps144
 go_upto_region 2 with fail
 have HS : Hid (PutAt w base _ _ _ r c (.cells zQ 31) { s with wrap := false } g1 k1 g2 k2 A3 k3 (.slice A4 n4 k4) (.slice A5 n5 k5) (.slice A6 n6 k6) ((w.alloc (.cells #[.int .i64 s.rows, .int .i64 s.cols, .slice (some ⟨g1, 0, none⟩) s.cells.length k1, .int .i64 s.y, .int .i64 s.x, .bool false, .int .u16 (s.attr : Int), .int .i64 s.top, .int .i64 s.bottom, .slice (some ⟨g2, 0, none⟩) s.tabs.length k2, .int .i64 s.sy, .int .i64 s.sx, .int .u16 (s.sattr : Int), .bool s.auto, .bool s.shown, .bool s.alt, .slice A3 s.other.length k3, .int .i64 s.oy, .int .i64 s.ox, .int .i64 (s.p.mode : Int), .int .u8 (s.p.priv : Int), .slice A4 n4 k4, .slice A5 n5 k5, .slice A6 n6 k6] 31)).alloc (.cells zQ 31))) :=
  ⟨heap_a1 w _ _, heap_a2 w _ _, ((H.out.alloc _).alloc _).like rfl rfl rfl, Fr.of (two_new w _ _).1 _, by simp, fun x hx => .inl hx, HI.out, sl3⟩
 have HB : Hid (Below w.heap.size w ((w.alloc (.cells #[.int .i64 s.rows, .int .i64 s.cols, .slice (some ⟨g1, 0, none⟩) s.cells.length k1, .int .i64 s.y, .int .i64 s.x, .bool false, .int .u16 (s.attr : Int), .int .i64 s.top, .int .i64 s.bottom, .slice (some ⟨g2, 0, none⟩) s.tabs.length k2, .int .i64 s.sy, .int .i64 s.sx, .int .u16 (s.sattr : Int), .bool s.auto, .bool s.shown, .bool s.alt, .slice A3 s.other.length k3, .int .i64 s.oy, .int .i64 s.ox, .int .i64 (s.p.mode : Int), .int .u8 (s.p.priv : Int), .slice A4 n4 k4, .slice A5 n5 k5, .slice A6 n6 k6] 31)).alloc (.cells zQ 31))) := (two_new w _ _).1
 generalize World.alloc (World.alloc _ _) _ = W1 at HS HB ⊢
 have HLW := Lib.hid (HLI.out.keep (w' := W1) (fun q hq => HB.out.cell (HT.out _ hq)))
 have HKE := Lib.hid hK0
 clear hK0
 have HCH : Hid (∀ n, Calls Tryz.prog 162 #[.slice AP l.length kP] (W1.drewN n) (fun e w' => e = .returned (.int .i64 K0) ∧ w' = W1.drewN n)) := fun n => (pchoice_any _ l T (W1.drewN n) (HLW.out.keep (fun q _ => rfl)) hll).mono (fun {e w'} h => ⟨by rw [h.1, HKE.out], h.2.symm⟩)
 have HPA : Hid (∀ n, Calls Tryz.prog 161 #[.int .i64 K0, .int .i64 ((p : Int) + (X : Int)), .int .i64 ((N : Int))] (W1.drewN n) _) := fun n => ppart_n ((p : Int) + (X : Int)) ((N : Int)) (by omega) (by omega) (W1.drewN n) K0 HK.out
 obtain ⟨d0, -⟩ := cellR (v := .int .i64 s.rows) HS.out.v 0 rfl
 obtain ⟨d1, -⟩ := cellR (v := .int .i64 s.cols) HS.out.v 1 rfl
 obtain ⟨d3, -⟩ := cellR (v := .int .i64 s.y) HS.out.v 3 rfl
 obtain ⟨d4, -⟩ := cellR (v := .int .i64 s.x) HS.out.v 4 rfl
 rw [HX.out] at d4
 go_upto_region 5 with fail
 go_quiet ((first
  | (go_at_call 162; exact Calls.quiet_of_same (HCH.out _))
  | (go_at_call 161; exact Calls.quiet_of_same (HPA.out _))))
 clear d0 d1 d3 d4
 generalize hWD : World.drewN _ _ = WD
 replace HS := Lib.hid (HS.out.drew hWD)
 clear hWD
 go_upto_region 6 with fail
 refine wp_region_lit ?_
 refine wpl_loadS rfl (.tmp 3) rfl rfl HS.out.v rfl ?_
 go_wp2_with fail
 ((with_reducible refine (peraseC_i { s with wrap := false } r c g1 k1 g2 k2 A3 k3 A4 A5 A6 n4 n5 n6 k4 k5 k6 base _ (by have := HS.out.n; omega) HS.out.p HS.out.i F0 T0 (by omega) (by omega) _ _ HFI.out HTI.out).mono ?_); rintro e w6 ⟨rfl, o6, f6⟩)
 obtain ⟨ne0, ne1⟩ := HS.out.g1ne H0.out
 have v6 : w6.heap[w.heap.size]? = _ := (f6.block _ (by have := HS.out.n; omega) (fun e => ne0 e.symm)).trans HS.out.v
 have z6 : w6.heap[w.heap.size + 1]? = _ := (f6.block _ HS.out.n (fun e => ne1 e.symm)).trans HS.out.z
 have V6 := Lib.hid v6
 have Z6 := Lib.hid z6
 have HWT := Lib.hid (HS.out.wrote o6 f6)
 have HFAR := Lib.hid (HS.out.far H0.out)
 have HSUB := Lib.hid HS.out.sub
 clear v6 z6 o6 f6
 rename_i K hK
 refine hK _ _ ?_
 clear hK K
 go_upto_region 12 with fail
 refine wp_region_lit ?_
 refine wpl_loadS rfl (.tmp 3) rfl rfl V6.out rfl ?_
 refine wpl_storeS rfl (.tmp 6) (.tmp 78) rfl rfl rfl Z6.out rfl rfl (all24 rfl rfl rfl rfl rfl rfl rfl rfl rfl rfl rfl rfl rfl rfl rfl rfl rfl rfl rfl rfl rfl rfl rfl rfl) ?_
 go_wp2
 refine psEnd (s := { s with wrap := false, cells := eraU s.cells c (F0 : Int) (T0 : Int) r }) (w.heap.size + 1) 6 Tryz.results144 ?_ ?_ Z6.out (by omega) HWT.out.2 sl3 HWT.out.1 HFAR.out.2 (fun x hx => (HSUB.out x hx).imp id (fun h => by omega))
 all_goals rfl
theorem perase_Kn (s : Sc) (r c : Nat) (vc vt vo : Value) (A4 A5 A6 : Option Addr) (n4 n5 n6 k4 k5 k6 : Nat) (base : Nat) (w : World) (hbase : base ≤ w.heap.size) (h : PsL w base vc vt vo s) (hi : ScIn { s with wrap := false } r c) (vp : Value) (l : List Int) (T : Nat → Prop) (hT : ∀ x, T x → x < w.heap.size) (hl : SL vI w T vp l) (hll : l.length ≤ 1048576) (hw : Whole s.cells r c) (hk : 2 < paramL l 0 0) :
  Calls Tryz.prog 144 #[.agg (vS s vc vt vo (.slice A4 n4 k4) (.slice A5 n5 k5) (.slice A6 n6 k6)), vp, .int .u8 75] w (PsPost base vc vt vo (eraseS s true (paramL l 0 0)) w) := by
 have H0 := Lib.hid (show ∀ x, OwB vc vt vo x → x < w.heap.size from fun x hx => (h.lt x hx).2)
 obtain ⟨g1, k1, g2, k2, A3, k3, rfl, rfl, rfl, ⟨b1, l1, p1, q1⟩, ⟨b2, l2, p2, q2⟩, p3, q3⟩ := h.open_ hi
 have H := Lib.hid h
 have HI := Lib.hid hi
 obtain ⟨hlen, hr1, hr2, hc1, hc2, HR, HCO, hr3, hr4, hc3, hc4, y0, y1, x0, x1, t0, t1, u1⟩ := pIn hi
 clear h hi
 have HT := Lib.hid hT
 obtain ⟨AP, kP, rfl, pP, qP⟩ := hl.form
 have HLI := Lib.hid hl
 clear hT hl
 obtain ⟨Y, hY⟩ : ∃ Y : Nat, s.y = (Y : Int) := ⟨s.y.toNat, by omega⟩
 obtain ⟨X, hX⟩ : ∃ X : Nat, s.x = (X : Int) := ⟨s.x.toNat, by omega⟩
 have hYr : Y < r := by have := HR.out; omega
 have hXc : X < c := by have := HCO.out; omega
 obtain ⟨p, hp⟩ : ∃ p, p = Y * c := ⟨_, rfl⟩
 obtain ⟨N, hN⟩ : ∃ N, N = r * c := ⟨_, rfl⟩
 have he := row_end (c := c) hYr
 rw [← hp, ← hN] at he
 have hNb : N ≤ 1000000 := by rw [hN]; exact rc_le hr2 hc2
 have hq1 : s.y * s.cols = (p : Int) := by rw [HCO.out, hY, hp]; simp
 have hq2 : s.rows * s.cols = (N : Int) := by rw [HCO.out, HR.out, hN]; simp
 have hq3 : (s.y + 1) * s.cols = (p : Int) + (c : Int) := by rw [Int.add_mul, Int.one_mul, hq1, HCO.out]
 have hln : s.cells.length = N := by rw [hN]; exact HI.out.g.n
 obtain ⟨F0, hF0⟩ : ∃ F0, F0 = p := ⟨_, rfl⟩
 obtain ⟨T0, hT0⟩ : ∃ T0, T0 = p := ⟨_, rfl⟩
 obtain ⟨K0, hK0⟩ : ∃ K0, paramL l 0 0 = K0 := ⟨_, rfl⟩
 rw [hK0] at hk ⊢
 rw [show eraseS s true K0 = { s with wrap := false, cells := eraU s.cells c F0 T0 r } by
  unfold eraseS
  rw [if_pos hk, eraU_no F0 T0 r (Nat.le_refl _) (fun y hy h => ?_)]
  have h1 : y * c + c ≤ r * c := row_end hy
  rw [hF0, hT0] at h
  rcases Nat.lt_or_ge y Y with g | g
  ·have h3 : y * c + c ≤ Y * c := row_end g
   rw [← hp] at h3
   omega
  ·have h3 : Y * c ≤ y * c := Nat.mul_le_mul_right c g
   rw [← hp] at h3
   omega]
 have HFI : Hid (((p : Int) : Int) = (F0 : Int)) := (by omega : ((p : Int) : Int) = (F0 : Int))
 have HTI : Hid (((p : Int) : Int) = (T0 : Int)) := (by omega : ((p : Int) : Int) = (T0 : Int))
 have hFb : F0 ≤ 1048576 := by omega
 have hTb : T0 ≤ 1048576 := by omega
 have hcc : s.cols = (c : Int) := HCO.out
 have hcl : (c : Int) ≤ 1000 := by omega
 have HCC := Lib.hid hcc
 have HY := Lib.hid hY
 have HX := Lib.hid hX
 have hpb : p ≤ 1000000 := by omega
 have hXb : X ≤ 1000 := by omega
 have HK := Lib.hid hk
 clear hF0 hT0 hp hN hln hq3 hw hk hY hX hcc
 go_enter Tryz.func144, Tryz.ntmps144
 go_upto_region 2 with fail
 have HS : Hid (PutAt w base _ _ _ r c (.cells zQ 31) { s with wrap := false } g1 k1 g2 k2 A3 k3 (.slice A4 n4 k4) (.slice A5 n5 k5) (.slice A6 n6 k6) ((w.alloc (.cells #[.int .i64 s.rows, .int .i64 s.cols, .slice (some ⟨g1, 0, none⟩) s.cells.length k1, .int .i64 s.y, .int .i64 s.x, .bool false, .int .u16 (s.attr : Int), .int .i64 s.top, .int .i64 s.bottom, .slice (some ⟨g2, 0, none⟩) s.tabs.length k2, .int .i64 s.sy, .int .i64 s.sx, .int .u16 (s.sattr : Int), .bool s.auto, .bool s.shown, .bool s.alt, .slice A3 s.other.length k3, .int .i64 s.oy, .int .i64 s.ox, .int .i64 (s.p.mode : Int), .int .u8 (s.p.priv : Int), .slice A4 n4 k4, .slice A5 n5 k5, .slice A6 n6 k6] 31)).alloc (.cells zQ 31))) :=
  ⟨heap_a1 w _ _, heap_a2 w _ _, ((H.out.alloc _).alloc _).like rfl rfl rfl, Fr.of (two_new w _ _).1 _, by simp, fun x hx => .inl hx, HI.out, sl3⟩
 have HB : Hid (Below w.heap.size w ((w.alloc (.cells #[.int .i64 s.rows, .int .i64 s.cols, .slice (some ⟨g1, 0, none⟩) s.cells.length k1, .int .i64 s.y, .int .i64 s.x, .bool false, .int .u16 (s.attr : Int), .int .i64 s.top, .int .i64 s.bottom, .slice (some ⟨g2, 0, none⟩) s.tabs.length k2, .int .i64 s.sy, .int .i64 s.sx, .int .u16 (s.sattr : Int), .bool s.auto, .bool s.shown, .bool s.alt, .slice A3 s.other.length k3, .int .i64 s.oy, .int .i64 s.ox, .int .i64 (s.p.mode : Int), .int .u8 (s.p.priv : Int), .slice A4 n4 k4, .slice A5 n5 k5, .slice A6 n6 k6] 31)).alloc (.cells zQ 31))) := (two_new w _ _).1
 generalize World.alloc (World.alloc _ _) _ = W1 at HS HB ⊢
 have HLW := Lib.hid (HLI.out.keep (w' := W1) (fun q hq => HB.out.cell (HT.out _ hq)))
 have HKE := Lib.hid hK0
 clear hK0
 have HCH : Hid (∀ n, Calls Tryz.prog 162 #[.slice AP l.length kP] (W1.drewN n) (fun e w' => e = .returned (.int .i64 K0) ∧ w' = W1.drewN n)) := fun n => (pchoice_any _ l T (W1.drewN n) (HLW.out.keep (fun q _ => rfl)) hll).mono (fun {e w'} h => ⟨by rw [h.1, HKE.out], h.2.symm⟩)
 have HPA : Hid (∀ n, Calls Tryz.prog 161 #[.int .i64 K0, .int .i64 ((X : Int)), .int .i64 ((c : Int))] (W1.drewN n) _) := fun n => ppart_n ((X : Int)) ((c : Int)) (by omega) (by omega) (W1.drewN n) K0 HK.out
 obtain ⟨d0, -⟩ := cellR (v := .int .i64 s.rows) HS.out.v 0 rfl
 obtain ⟨d1, -⟩ := cellR (v := .int .i64 s.cols) HS.out.v 1 rfl
 obtain ⟨d3, -⟩ := cellR (v := .int .i64 s.y) HS.out.v 3 rfl
 obtain ⟨d4, -⟩ := cellR (v := .int .i64 s.x) HS.out.v 4 rfl
 rw [HX.out] at d4
 go_upto_region 3 with fail
 rw [HCC.out] at d1
 go_upto_region 8 with fail
 go_quiet ((first
  | (go_at_call 162; exact Calls.quiet_of_same (HCH.out _))
  | (go_at_call 161; exact Calls.quiet_of_same (HPA.out _))))
 clear d0 d1 d3 d4
 generalize hWD : World.drewN _ _ = WD
 replace HS := Lib.hid (HS.out.drew hWD)
 clear hWD
 go_upto_region 9 with fail
 refine wp_region_lit ?_
 refine wpl_loadS rfl (.tmp 3) rfl rfl HS.out.v rfl ?_
 go_wp2_with fail
 ((with_reducible refine (peraseC_i { s with wrap := false } r c g1 k1 g2 k2 A3 k3 A4 A5 A6 n4 n5 n6 k4 k5 k6 base _ (by have := HS.out.n; omega) HS.out.p HS.out.i F0 T0 (by omega) (by omega) _ _ HFI.out HTI.out).mono ?_); rintro e w6 ⟨rfl, o6, f6⟩)
 obtain ⟨ne0, ne1⟩ := HS.out.g1ne H0.out
 have v6 : w6.heap[w.heap.size]? = _ := (f6.block _ (by have := HS.out.n; omega) (fun e => ne0 e.symm)).trans HS.out.v
 have z6 : w6.heap[w.heap.size + 1]? = _ := (f6.block _ HS.out.n (fun e => ne1 e.symm)).trans HS.out.z
 have V6 := Lib.hid v6
 have Z6 := Lib.hid z6
 have HWT := Lib.hid (HS.out.wrote o6 f6)
 have HFAR := Lib.hid (HS.out.far H0.out)
 have HSUB := Lib.hid HS.out.sub
 clear v6 z6 o6 f6
 rename_i K hK
 refine hK _ _ ?_
 clear hK K
 go_upto_region 12 with fail
 refine wp_region_lit ?_
 refine wpl_loadS rfl (.tmp 3) rfl rfl V6.out rfl ?_
 refine wpl_storeS rfl (.tmp 6) (.tmp 78) rfl rfl rfl Z6.out rfl rfl (all24 rfl rfl rfl rfl rfl rfl rfl rfl rfl rfl rfl rfl rfl rfl rfl rfl rfl rfl rfl rfl rfl rfl rfl rfl) ?_
 go_wp2
 refine psEnd (s := { s with wrap := false, cells := eraU s.cells c (F0 : Int) (T0 : Int) r }) (w.heap.size + 1) 6 Tryz.results144 ?_ ?_ Z6.out (by omega) HWT.out.2 sl3 HWT.out.1 HFAR.out.2 (fun x hx => (HSUB.out x hx).imp id (fun h => by omega))
 all_goals rfl
theorem perase_X (s : Sc) (r c : Nat) (vc vt vo : Value) (A4 A5 A6 : Option Addr) (n4 n5 n6 k4 k5 k6 : Nat) (base : Nat) (w : World) (hbase : base ≤ w.heap.size) (h : PsL w base vc vt vo s) (hi : ScIn { s with wrap := false } r c) (vp : Value) (l : List Int) (T : Nat → Prop) (hT : ∀ x, T x → x < w.heap.size) (hl : SL vI w T vp l) (hll : l.length ≤ 1048576) (hw : Whole s.cells r c) (hn : 0 ≤ paramL l 0 1) :
  Calls Tryz.prog 144 #[.agg (vS s vc vt vo (.slice A4 n4 k4) (.slice A5 n5 k5) (.slice A6 n6 k6)), vp, .int .u8 88] w (PsPost base vc vt vo ({ s with cells := eraseL s.cells s.cols s.y s.x (s.x + paramL l 0 1), wrap := false }) w) := by
 have H0 := Lib.hid (show ∀ x, OwB vc vt vo x → x < w.heap.size from fun x hx => (h.lt x hx).2)
 obtain ⟨g1, k1, g2, k2, A3, k3, rfl, rfl, rfl, ⟨b1, l1, p1, q1⟩, ⟨b2, l2, p2, q2⟩, p3, q3⟩ := h.open_ hi
 have H := Lib.hid h
 have HI := Lib.hid hi
 obtain ⟨hlen, hr1, hr2, hc1, hc2, HR, HCO, hr3, hr4, hc3, hc4, y0, y1, x0, x1, t0, t1, u1⟩ := pIn hi
 clear h hi
 have HT := Lib.hid hT
 obtain ⟨AP, kP, rfl, pP, qP⟩ := hl.form
 have HLI := Lib.hid hl
 clear hT hl
 obtain ⟨Y, hY⟩ : ∃ Y : Nat, s.y = (Y : Int) := ⟨s.y.toNat, by omega⟩
 obtain ⟨X, hX⟩ : ∃ X : Nat, s.x = (X : Int) := ⟨s.x.toNat, by omega⟩
 have hYr : Y < r := by have := HR.out; omega
 have hXc : X < c := by have := HCO.out; omega
 obtain ⟨p, hp⟩ : ∃ p, p = Y * c := ⟨_, rfl⟩
 obtain ⟨N, hN⟩ : ∃ N, N = r * c := ⟨_, rfl⟩
 have he := row_end (c := c) hYr
 rw [← hp, ← hN] at he
 have hNb : N ≤ 1000000 := by rw [hN]; exact rc_le hr2 hc2
 have hq1 : s.y * s.cols = (p : Int) := by rw [HCO.out, hY, hp]; simp
 have hq2 : s.rows * s.cols = (N : Int) := by rw [HCO.out, HR.out, hN]; simp
 have hq3 : (s.y + 1) * s.cols = (p : Int) + (c : Int) := by rw [Int.add_mul, Int.one_mul, hq1, HCO.out]
 have hln : s.cells.length = N := by rw [hN]; exact HI.out.g.n
 obtain ⟨E, hE⟩ : ∃ E : Nat, (E : Int) = min (s.x + clipN (paramL l 0 1)) s.cols := ⟨(min (s.x + clipN (paramL l 0 1)) s.cols).toNat, by unfold clipN; omega⟩
 rw [eraX_of HI.out hw hY hX hYr hXc (paramL l 0 1) hn E hE]
 have hcl := clip_bd (paramL l 0 1)
 have hcn : 0 ≤ clipN (paramL l 0 1) := by unfold clipN; omega
 obtain ⟨N0, hN0⟩ : ∃ N0, clipN (paramL l 0 1) = N0 := ⟨_, rfl⟩
 rw [hN0] at hE hcl hcn
 obtain ⟨F0, hF0⟩ : ∃ F0, F0 = Y * c + X := ⟨_, rfl⟩
 obtain ⟨T0, hT0⟩ : ∃ T0, T0 = Y * c + E := ⟨_, rfl⟩
 rw [← hF0, ← hT0]
 have hEc : E ≤ c := by have := HCO.out; omega
 have HFI : Hid ((p : Int) + (X : Int) = (F0 : Int)) := (by rw [hF0, hp]; omega : (p : Int) + (X : Int) = (F0 : Int))
 have HTI : Hid ((p : Int) + (E : Int) = (T0 : Int)) := (by rw [hT0, hp]; omega : (p : Int) + (E : Int) = (T0 : Int))
 have hFb : F0 ≤ 1048576 := by have := HFI.out; omega
 have hTb : T0 ≤ 1048576 := by have := HTI.out; omega
 have hcc : s.cols = (c : Int) := HCO.out
 have hcl2 : (c : Int) ≤ 1000 := by omega
 rw [hX, hcc] at hE
 have HCC := Lib.hid hcc
 have HX := Lib.hid hX
 have HE := Lib.hid hE
 have hpb : p ≤ 1000000 := by omega
 have hXb : X ≤ 1000 := by omega
 have HN0 := Lib.hid hN0
 clear hF0 hT0 hp hN hln hq2 hq3 hw hn hE hN0 hY hX hcc
 go_enter Tryz.func144, Tryz.ntmps144
 go_upto_region 2 with fail
 have HS : Hid (PutAt w base _ _ _ r c (.cells zQ 31) { s with wrap := false } g1 k1 g2 k2 A3 k3 (.slice A4 n4 k4) (.slice A5 n5 k5) (.slice A6 n6 k6) ((w.alloc (.cells #[.int .i64 s.rows, .int .i64 s.cols, .slice (some ⟨g1, 0, none⟩) s.cells.length k1, .int .i64 s.y, .int .i64 s.x, .bool false, .int .u16 (s.attr : Int), .int .i64 s.top, .int .i64 s.bottom, .slice (some ⟨g2, 0, none⟩) s.tabs.length k2, .int .i64 s.sy, .int .i64 s.sx, .int .u16 (s.sattr : Int), .bool s.auto, .bool s.shown, .bool s.alt, .slice A3 s.other.length k3, .int .i64 s.oy, .int .i64 s.ox, .int .i64 (s.p.mode : Int), .int .u8 (s.p.priv : Int), .slice A4 n4 k4, .slice A5 n5 k5, .slice A6 n6 k6] 31)).alloc (.cells zQ 31))) :=
  ⟨heap_a1 w _ _, heap_a2 w _ _, ((H.out.alloc _).alloc _).like rfl rfl rfl, Fr.of (two_new w _ _).1 _, by simp, fun x hx => .inl hx, HI.out, sl3⟩
 have HB : Hid (Below w.heap.size w ((w.alloc (.cells #[.int .i64 s.rows, .int .i64 s.cols, .slice (some ⟨g1, 0, none⟩) s.cells.length k1, .int .i64 s.y, .int .i64 s.x, .bool false, .int .u16 (s.attr : Int), .int .i64 s.top, .int .i64 s.bottom, .slice (some ⟨g2, 0, none⟩) s.tabs.length k2, .int .i64 s.sy, .int .i64 s.sx, .int .u16 (s.sattr : Int), .bool s.auto, .bool s.shown, .bool s.alt, .slice A3 s.other.length k3, .int .i64 s.oy, .int .i64 s.ox, .int .i64 (s.p.mode : Int), .int .u8 (s.p.priv : Int), .slice A4 n4 k4, .slice A5 n5 k5, .slice A6 n6 k6] 31)).alloc (.cells zQ 31))) := (two_new w _ _).1
 generalize World.alloc (World.alloc _ _) _ = W1 at HS HB ⊢
 have HLW := Lib.hid (HLI.out.keep (w' := W1) (fun q hq => HB.out.cell (HT.out _ hq)))
 have HNU : Hid (Calls Tryz.prog 160 #[.slice AP l.length kP, .int .i64 0] W1.drew (fun e w' => e = .returned (.int .i64 N0) ∧ w' = W1.drew)) := (pnumber_0 _ l T W1.drew (HLW.out.keep (fun q _ => rfl)) hll N0 HN0.out).mono (fun {e w'} h => ⟨h.1, h.2.symm⟩)
 obtain ⟨d1, -⟩ := cellR (v := .int .i64 s.cols) HS.out.v 1 rfl
 obtain ⟨d3, -⟩ := cellR (v := .int .i64 s.y) HS.out.v 3 rfl
 obtain ⟨d4, -⟩ := cellR (v := .int .i64 s.x) HS.out.v 4 rfl
 rw [HX.out] at d4
 go_upto_region 3 with fail
 rw [HCC.out] at d1
 go_upto_region 11 with fail
 have D1 : W1.drew.cell? _ = _ := d1
 have D4 : W1.drew.cell? _ = _ := d4
 have hS2 : PutAt w base _ _ _ r c _ { s with wrap := false } g1 k1 g2 k2 A3 k3 (.slice A4 n4 k4) (.slice A5 n5 k5) (.slice A6 n6 k6) W1.drew := HS.out.drew (n := 1) rfl
 have HS2 := Lib.hid hS2
 clear d1 d3 d4 hS2
 have qw : IntKind.i64.wrap ((X : Int) + N0) = (X : Int) + N0 := by rw [IntKind.wrap_i64]; omega
 have qm : (if (c : Int) < (X : Int) + N0 then (c : Int) else (X : Int) + N0) = (E : Int) := by have := HE.out; split <;> omega
 have qx : IntKind.i64.wrap ((p : Int) + (X : Int)) = (p : Int) + (X : Int) := by rw [IntKind.wrap_i64]; omega
 have qe : IntKind.i64.wrap ((p : Int) + (E : Int)) = (p : Int) + (E : Int) := by rw [IntKind.wrap_i64]; omega
 refine wp_region_still_tail 15 (by kernel_rfl) (by kernel_rfl) ?_
 simp only [List.take_succ_cons, List.take_zero, List.drop_succ_cons, List.drop_zero]
 refine wpStill_loadS rfl (.tmp 3) rfl rfl HS2.out.v rfl ?_
 repeat still_step
 still_call HNU.out
 repeat still_step
 refine wpStill_nil ?_
 go_simp
 go_wp2_with fail
 ((with_reducible refine (peraseC_i { s with wrap := false } r c g1 k1 g2 k2 A3 k3 A4 A5 A6 n4 n5 n6 k4 k5 k6 base _ (by have := HS2.out.n; omega) HS2.out.p HS2.out.i F0 T0 (by omega) (by omega) _ _ HFI.out HTI.out).mono ?_); rintro e w6 ⟨rfl, o6, f6⟩)
 obtain ⟨ne0, ne1⟩ := HS2.out.g1ne H0.out
 have v6 : w6.heap[w.heap.size]? = _ := (f6.block _ (by have := HS2.out.n; omega) (fun e => ne0 e.symm)).trans HS2.out.v
 have z6 : w6.heap[w.heap.size + 1]? = _ := (f6.block _ HS2.out.n (fun e => ne1 e.symm)).trans HS2.out.z
 have V6 := Lib.hid v6
 have Z6 := Lib.hid z6
 have HWT := Lib.hid (HS2.out.wrote o6 f6)
 have HFAR := Lib.hid (HS2.out.far H0.out)
 have HSUB := Lib.hid HS2.out.sub
 clear v6 z6 o6 f6
 rename_i K hK
 refine hK _ _ ?_
 clear hK K
 go_upto_region 12 with fail
 refine wp_region_lit ?_
 refine wpl_loadS rfl (.tmp 3) rfl rfl V6.out rfl ?_
 refine wpl_storeS rfl (.tmp 6) (.tmp 78) rfl rfl rfl Z6.out rfl rfl (all24 rfl rfl rfl rfl rfl rfl rfl rfl rfl rfl rfl rfl rfl rfl rfl rfl rfl rfl rfl rfl rfl rfl rfl rfl) ?_
 go_wp2
 refine psEnd (s := { s with wrap := false, cells := eraU s.cells c (F0 : Int) (T0 : Int) r }) (w.heap.size + 1) 6 Tryz.results144 ?_ ?_ Z6.out (by omega) HWT.out.2 sl3 HWT.out.1 HFAR.out.2 (fun x hx => (HSUB.out x hx).imp id (fun h => by omega))
 all_goals rfl
end Go.Proofs.YtlolgfgcgfjdjaaGreatDoor

namespace Go.Proofs.YtlolgfgcgfjdjaaGreatDoor
open Go.RowKit
set_option linter.unusedVariables false
set_option linter.unusedSimpArgs false
set_option maxHeartbeats 2000000
set_option maxRecDepth 100000
theorem capN_clip (n : Int) : capN (clipN n) = capN n := by unfold capN clipN; omega
theorem upL_clip (l : List Cl) (cols top bottom n : Int) : upL l cols top bottom (clipN n) = upL l cols top bottom n := by unfold upL; rw [capN_clip]
theorem downL_clip (l : List Cl) (cols top bottom n : Int) : downL l cols top bottom (clipN n) = downL l cols top bottom n := by unfold downL; rw [capN_clip]
theorem insertL_clip (l : List Cl) (cols y x n : Int) : insertL l cols y x (clipN n) = insertL l cols y x n := by unfold insertL; rw [capN_clip]
theorem deleteL_clip (l : List Cl) (cols y x n : Int) : deleteL l cols y x (clipN n) = deleteL l cols y x n := by unfold deleteL; rw [capN_clip]
theorem pshift_83 (s : Sc) (r c : Nat) (vc vt vo : Value) (A4 A5 A6 : Option Addr) (n4 n5 n6 k4 k5 k6 : Nat) (base : Nat) (w : World) (hbase : base ≤ w.heap.size) (h : PsL w base vc vt vo s) (hi : ScIn { s with wrap := false } r c) (vp : Value) (l : List Int) (T : Nat → Prop) (hT : ∀ x, T x → x < w.heap.size) (hl : SL vI w T vp l) (hll : l.length ≤ 1048576)  :
  Calls Tryz.prog 145 #[.agg (vS s vc vt vo (.slice A4 n4 k4) (.slice A5 n5 k5) (.slice A6 n6 k6)), vp, .int .u8 83] w (PsPost base vc vt vo ({ s with cells := upL s.cells s.cols s.top s.bottom (paramL l 0 1), wrap := false }) w) := by
 have H0 := Lib.hid (show ∀ x, OwB vc vt vo x → x < w.heap.size from fun x hx => (h.lt x hx).2)
 obtain ⟨g1, k1, g2, k2, A3, k3, rfl, rfl, rfl, ⟨b1, l1, p1, q1⟩, ⟨b2, l2, p2, q2⟩, p3, q3⟩ := h.open_ hi
 have H := Lib.hid h
 have HI := Lib.hid hi
 obtain ⟨hlen, hr1, hr2, hc1, hc2, HR, HCO, hr3, hr4, hc3, hc4, y0, y1, x0, x1, t0, t1, u1⟩ := pIn hi
 clear h hi
 have HT := Lib.hid hT
 obtain ⟨AP, kP, rfl, pP, qP⟩ := hl.form
 have HLI := Lib.hid hl
 clear hT hl
 rw [← upL_clip]
 have h2 := two_new w (.cells (vS s (.slice (some ⟨g1, 0, none⟩) s.cells.length k1) (.slice (some ⟨g2, 0, none⟩) s.tabs.length k2) (.slice A3 s.other.length k3) (.slice A4 n4 k4) (.slice A5 n5 k5) (.slice A6 n6 k6)) 31) (.cells zQ 31)
 have HLW := Lib.hid (HLI.out.keep (w' := (w.alloc (.cells (vS s (.slice (some ⟨g1, 0, none⟩) s.cells.length k1) (.slice (some ⟨g2, 0, none⟩) s.tabs.length k2) (.slice A3 s.other.length k3) (.slice A4 n4 k4) (.slice A5 n5 k5) (.slice A6 n6 k6)) 31)).alloc (.cells zQ 31)) (fun q hq => h2.1.cell (HT.out _ hq)))
 have H2 := Lib.hid h2
 obtain ⟨N0, hN0⟩ : ∃ N0, clipN (paramL l 0 1) = N0 := ⟨_, rfl⟩
 have HN0 := Lib.hid hN0
 rw [hN0]
 clear h2 hN0
 go_enter Tryz.func145, Tryz.ntmps145
 go_upto_region 5 with ((with_reducible refine (pnumber_0 _ l T _ HLW.out hll N0 HN0.out).mono ?_); rintro e w' ⟨rfl, rfl⟩)
 refine wp_region_lit ?_
 refine wpl_loadS rfl (.tmp 3) rfl rfl (heap_a1 w _ _) rfl ?_
 go_wp2_with fail
 ((with_reducible refine (pup_any { s with wrap := false } r c _ _ _ A4 A5 A6 n4 n5 n6 k4 k5 k6 base _ (by simp; omega) (((H.out.alloc _).alloc _).like rfl rfl rfl) HI.out s.top N0).mono ?_); rintro e w4 ⟨uc, ut, uo, up, ui, uu, rfl, hsl, hs4, hf4, hsub4⟩)
 have f1 := hf4.var (heap_a2 w _ _) (H.out.far (by omega))
 rename_i K hK
 refine hK _ _ ?_
 refine wpl_storeS rfl (.tmp 6) (.tmp 18) rfl rfl rfl f1 rfl rfl (hs4.one hsl) ?_
 go_wp2
 refine psEndV (w.heap.size + 1) 6 Tryz.results145 rfl rfl f1 (by omega) (by simp) (H.out.far (by omega)) (Fr.of (two_new w _ _).1 _) (fun x hx => .inl hx) hsl hs4 hf4 hsub4
theorem pshift_84 (s : Sc) (r c : Nat) (vc vt vo : Value) (A4 A5 A6 : Option Addr) (n4 n5 n6 k4 k5 k6 : Nat) (base : Nat) (w : World) (hbase : base ≤ w.heap.size) (h : PsL w base vc vt vo s) (hi : ScIn { s with wrap := false } r c) (vp : Value) (l : List Int) (T : Nat → Prop) (hT : ∀ x, T x → x < w.heap.size) (hl : SL vI w T vp l) (hll : l.length ≤ 1048576)  :
  Calls Tryz.prog 145 #[.agg (vS s vc vt vo (.slice A4 n4 k4) (.slice A5 n5 k5) (.slice A6 n6 k6)), vp, .int .u8 84] w (PsPost base vc vt vo ({ s with cells := downL s.cells s.cols s.top s.bottom (paramL l 0 1), wrap := false }) w) := by
 have H0 := Lib.hid (show ∀ x, OwB vc vt vo x → x < w.heap.size from fun x hx => (h.lt x hx).2)
 obtain ⟨g1, k1, g2, k2, A3, k3, rfl, rfl, rfl, ⟨b1, l1, p1, q1⟩, ⟨b2, l2, p2, q2⟩, p3, q3⟩ := h.open_ hi
 have H := Lib.hid h
 have HI := Lib.hid hi
 obtain ⟨hlen, hr1, hr2, hc1, hc2, HR, HCO, hr3, hr4, hc3, hc4, y0, y1, x0, x1, t0, t1, u1⟩ := pIn hi
 clear h hi
 have HT := Lib.hid hT
 obtain ⟨AP, kP, rfl, pP, qP⟩ := hl.form
 have HLI := Lib.hid hl
 clear hT hl
 rw [← downL_clip]
 have h2 := two_new w (.cells (vS s (.slice (some ⟨g1, 0, none⟩) s.cells.length k1) (.slice (some ⟨g2, 0, none⟩) s.tabs.length k2) (.slice A3 s.other.length k3) (.slice A4 n4 k4) (.slice A5 n5 k5) (.slice A6 n6 k6)) 31) (.cells zQ 31)
 have HLW := Lib.hid (HLI.out.keep (w' := (w.alloc (.cells (vS s (.slice (some ⟨g1, 0, none⟩) s.cells.length k1) (.slice (some ⟨g2, 0, none⟩) s.tabs.length k2) (.slice A3 s.other.length k3) (.slice A4 n4 k4) (.slice A5 n5 k5) (.slice A6 n6 k6)) 31)).alloc (.cells zQ 31)) (fun q hq => h2.1.cell (HT.out _ hq)))
 have H2 := Lib.hid h2
 obtain ⟨N0, hN0⟩ : ∃ N0, clipN (paramL l 0 1) = N0 := ⟨_, rfl⟩
 have HN0 := Lib.hid hN0
 rw [hN0]
 clear h2 hN0
 go_enter Tryz.func145, Tryz.ntmps145
 go_upto_region 7 with ((with_reducible refine (pnumber_0 _ l T _ HLW.out hll N0 HN0.out).mono ?_); rintro e w' ⟨rfl, rfl⟩)
 refine wp_region_lit ?_
 refine wpl_loadS rfl (.tmp 3) rfl rfl (heap_a1 w _ _) rfl ?_
 go_wp2_with fail
 ((with_reducible refine (pdown_any { s with wrap := false } r c _ _ _ A4 A5 A6 n4 n5 n6 k4 k5 k6 base _ (by simp; omega) (((H.out.alloc _).alloc _).like rfl rfl rfl) HI.out s.top N0).mono ?_); rintro e w4 ⟨uc, ut, uo, up, ui, uu, rfl, hsl, hs4, hf4, hsub4⟩)
 have f1 := hf4.var (heap_a2 w _ _) (H.out.far (by omega))
 rename_i K hK
 refine hK _ _ ?_
 refine wpl_storeS rfl (.tmp 6) (.tmp 25) rfl rfl rfl f1 rfl rfl (hs4.one hsl) ?_
 go_wp2
 refine psEndV (w.heap.size + 1) 6 Tryz.results145 rfl rfl f1 (by omega) (by simp) (H.out.far (by omega)) (Fr.of (two_new w _ _).1 _) (fun x hx => .inl hx) hsl hs4 hf4 hsub4
theorem pshift_76 (s : Sc) (r c : Nat) (vc vt vo : Value) (A4 A5 A6 : Option Addr) (n4 n5 n6 k4 k5 k6 : Nat) (base : Nat) (w : World) (hbase : base ≤ w.heap.size) (h : PsL w base vc vt vo s) (hi : ScIn { s with wrap := false } r c) (vp : Value) (l : List Int) (T : Nat → Prop) (hT : ∀ x, T x → x < w.heap.size) (hl : SL vI w T vp l) (hll : l.length ≤ 1048576) (hin : s.top ≤ s.y ∧ s.y ≤ s.bottom) :
  Calls Tryz.prog 145 #[.agg (vS s vc vt vo (.slice A4 n4 k4) (.slice A5 n5 k5) (.slice A6 n6 k6)), vp, .int .u8 76] w (PsPost base vc vt vo ({ s with wrap := false, x := 0, cells := downL s.cells s.cols s.y s.bottom (paramL l 0 1) }) w) := by
 have H0 := Lib.hid (show ∀ x, OwB vc vt vo x → x < w.heap.size from fun x hx => (h.lt x hx).2)
 obtain ⟨g1, k1, g2, k2, A3, k3, rfl, rfl, rfl, ⟨b1, l1, p1, q1⟩, ⟨b2, l2, p2, q2⟩, p3, q3⟩ := h.open_ hi
 have H := Lib.hid h
 have HI := Lib.hid hi
 obtain ⟨hlen, hr1, hr2, hc1, hc2, HR, HCO, hr3, hr4, hc3, hc4, y0, y1, x0, x1, t0, t1, u1⟩ := pIn hi
 clear h hi
 have HT := Lib.hid hT
 obtain ⟨AP, kP, rfl, pP, qP⟩ := hl.form
 have HLI := Lib.hid hl
 clear hT hl
 obtain ⟨hin1, hin2⟩ := hin
 have HI2 : Hid (ScIn { s with x := 0, wrap := false } r c) := HI.out.at_ s.y 0 HI.out.y0 HI.out.y1 (by omega) (by omega)
 rw [← downL_clip]
 have h2 := two_new w (.cells (vS s (.slice (some ⟨g1, 0, none⟩) s.cells.length k1) (.slice (some ⟨g2, 0, none⟩) s.tabs.length k2) (.slice A3 s.other.length k3) (.slice A4 n4 k4) (.slice A5 n5 k5) (.slice A6 n6 k6)) 31) (.cells zQ 31)
 have HLW := Lib.hid (HLI.out.keep (w' := (w.alloc (.cells (vS s (.slice (some ⟨g1, 0, none⟩) s.cells.length k1) (.slice (some ⟨g2, 0, none⟩) s.tabs.length k2) (.slice A3 s.other.length k3) (.slice A4 n4 k4) (.slice A5 n5 k5) (.slice A6 n6 k6)) 31)).alloc (.cells zQ 31)) (fun q hq => h2.1.cell (HT.out _ hq)))
 have H2 := Lib.hid h2
 obtain ⟨N0, hN0⟩ : ∃ N0, clipN (paramL l 0 1) = N0 := ⟨_, rfl⟩
 have HN0 := Lib.hid hN0
 rw [hN0]
 clear h2 hN0
 go_enter Tryz.func145, Tryz.ntmps145
 go_upto_region 12 with ((with_reducible refine (pnumber_0 _ l T _ HLW.out hll N0 HN0.out).mono ?_); rintro e w' ⟨rfl, rfl⟩)
 refine wp_region_lit ?_
 refine wpl_loadS rfl (.tmp 3) rfl rfl (heap_a1 w _ _) rfl ?_
 go_wp2_with fail
 ((with_reducible refine (pdown_any { s with wrap := false, x := 0 } r c _ _ _ A4 A5 A6 n4 n5 n6 k4 k5 k6 base _ (by simp; omega) (((H.out.alloc _).alloc _).like rfl rfl rfl) HI2.out s.y N0).mono ?_); rintro e w4 ⟨uc, ut, uo, up, ui, uu, rfl, hsl, hs4, hf4, hsub4⟩)
 have f1 := hf4.var (heap_a2 w _ _) (H.out.far (by omega))
 rename_i K hK
 refine hK _ _ ?_
 refine wpl_storeS rfl (.tmp 6) (.tmp 46) rfl rfl rfl f1 rfl rfl (hs4.one hsl) ?_
 go_wp2
 refine psEndV (w.heap.size + 1) 6 Tryz.results145 rfl rfl f1 (by omega) (by simp) (H.out.far (by omega)) (Fr.of (two_new w _ _).1 _) (fun x hx => .inl hx) hsl hs4 hf4 hsub4
theorem pshift_76n (s : Sc) (r c : Nat) (vc vt vo : Value) (A4 A5 A6 : Option Addr) (n4 n5 n6 k4 k5 k6 : Nat) (base : Nat) (w : World) (hbase : base ≤ w.heap.size) (h : PsL w base vc vt vo s) (hi : ScIn { s with wrap := false } r c) (vp : Value) (l : List Int) (T : Nat → Prop) (hT : ∀ x, T x → x < w.heap.size) (hl : SL vI w T vp l) (hll : l.length ≤ 1048576) (hin : ¬ (s.top ≤ s.y ∧ s.y ≤ s.bottom)) :
  Calls Tryz.prog 145 #[.agg (vS s vc vt vo (.slice A4 n4 k4) (.slice A5 n5 k5) (.slice A6 n6 k6)), vp, .int .u8 76] w (PsPost base vc vt vo ({ s with wrap := false }) w) := by
 have H0 := Lib.hid (show ∀ x, OwB vc vt vo x → x < w.heap.size from fun x hx => (h.lt x hx).2)
 obtain ⟨g1, k1, g2, k2, A3, k3, rfl, rfl, rfl, ⟨b1, l1, p1, q1⟩, ⟨b2, l2, p2, q2⟩, p3, q3⟩ := h.open_ hi
 have H := Lib.hid h
 have HI := Lib.hid hi
 obtain ⟨hlen, hr1, hr2, hc1, hc2, HR, HCO, hr3, hr4, hc3, hc4, y0, y1, x0, x1, t0, t1, u1⟩ := pIn hi
 clear h hi
 have HT := Lib.hid hT
 obtain ⟨AP, kP, rfl, pP, qP⟩ := hl.form
 have HLI := Lib.hid hl
 clear hT hl
 have h2 := two_new w (.cells (vS s (.slice (some ⟨g1, 0, none⟩) s.cells.length k1) (.slice (some ⟨g2, 0, none⟩) s.tabs.length k2) (.slice A3 s.other.length k3) (.slice A4 n4 k4) (.slice A5 n5 k5) (.slice A6 n6 k6)) 31) (.cells zQ 31)
 have HLW := Lib.hid (HLI.out.keep (w' := (w.alloc (.cells (vS s (.slice (some ⟨g1, 0, none⟩) s.cells.length k1) (.slice (some ⟨g2, 0, none⟩) s.tabs.length k2) (.slice A3 s.other.length k3) (.slice A4 n4 k4) (.slice A5 n5 k5) (.slice A6 n6 k6)) 31)).alloc (.cells zQ 31)) (fun q hq => h2.1.cell (HT.out _ hq)))
 have H2 := Lib.hid h2
 obtain ⟨N0, hN0⟩ : ∃ N0, clipN (paramL l 0 1) = N0 := ⟨_, rfl⟩
 have HN0 := Lib.hid hN0
 clear h2 hN0
 by_cases hin1 : s.y < s.top
 ·clear hin
  go_enter Tryz.func145, Tryz.ntmps145
  go_upto_region 9 with ((with_reducible refine (pnumber_0 _ l T _ HLW.out hll N0 HN0.out).mono ?_); rintro e w' ⟨rfl, rfl⟩)
  refine wp_region_lit ?_
  refine wpl_loadS rfl (.tmp 3) rfl rfl (heap_a1 w _ _) rfl ?_
  refine wpl_storeS rfl (.tmp 6) (.tmp 38) rfl rfl rfl (heap_a2 w _ _) rfl rfl (all24 rfl rfl rfl rfl rfl rfl rfl rfl rfl rfl rfl rfl rfl rfl rfl rfl rfl rfl rfl rfl rfl rfl rfl rfl) ?_
  go_wp2
  refine psEnd0 (w.heap.size + 1) 6 Tryz.results145 ?_ ?_ (heap_a2 w _ _) (by omega) (two_new w _ _).1 sl3 H.out ?_ ?_ ?_
  all_goals rfl
 ·have hin2 : s.bottom < s.y := by omega
  clear hin
  go_enter Tryz.func145, Tryz.ntmps145
  go_upto_region 9 with ((with_reducible refine (pnumber_0 _ l T _ HLW.out hll N0 HN0.out).mono ?_); rintro e w' ⟨rfl, rfl⟩)
  refine wp_region_lit ?_
  refine wpl_loadS rfl (.tmp 3) rfl rfl (heap_a1 w _ _) rfl ?_
  refine wpl_storeS rfl (.tmp 6) (.tmp 38) rfl rfl rfl (heap_a2 w _ _) rfl rfl (all24 rfl rfl rfl rfl rfl rfl rfl rfl rfl rfl rfl rfl rfl rfl rfl rfl rfl rfl rfl rfl rfl rfl rfl rfl) ?_
  go_wp2
  refine psEnd0 (w.heap.size + 1) 6 Tryz.results145 ?_ ?_ (heap_a2 w _ _) (by omega) (two_new w _ _).1 sl3 H.out ?_ ?_ ?_
  all_goals rfl
theorem pshift_77 (s : Sc) (r c : Nat) (vc vt vo : Value) (A4 A5 A6 : Option Addr) (n4 n5 n6 k4 k5 k6 : Nat) (base : Nat) (w : World) (hbase : base ≤ w.heap.size) (h : PsL w base vc vt vo s) (hi : ScIn { s with wrap := false } r c) (vp : Value) (l : List Int) (T : Nat → Prop) (hT : ∀ x, T x → x < w.heap.size) (hl : SL vI w T vp l) (hll : l.length ≤ 1048576) (hin : s.top ≤ s.y ∧ s.y ≤ s.bottom) :
  Calls Tryz.prog 145 #[.agg (vS s vc vt vo (.slice A4 n4 k4) (.slice A5 n5 k5) (.slice A6 n6 k6)), vp, .int .u8 77] w (PsPost base vc vt vo ({ s with wrap := false, x := 0, cells := upL s.cells s.cols s.y s.bottom (paramL l 0 1) }) w) := by
 have H0 := Lib.hid (show ∀ x, OwB vc vt vo x → x < w.heap.size from fun x hx => (h.lt x hx).2)
 obtain ⟨g1, k1, g2, k2, A3, k3, rfl, rfl, rfl, ⟨b1, l1, p1, q1⟩, ⟨b2, l2, p2, q2⟩, p3, q3⟩ := h.open_ hi
 have H := Lib.hid h
 have HI := Lib.hid hi
 obtain ⟨hlen, hr1, hr2, hc1, hc2, HR, HCO, hr3, hr4, hc3, hc4, y0, y1, x0, x1, t0, t1, u1⟩ := pIn hi
 clear h hi
 have HT := Lib.hid hT
 obtain ⟨AP, kP, rfl, pP, qP⟩ := hl.form
 have HLI := Lib.hid hl
 clear hT hl
 obtain ⟨hin1, hin2⟩ := hin
 have HI2 : Hid (ScIn { s with x := 0, wrap := false } r c) := HI.out.at_ s.y 0 HI.out.y0 HI.out.y1 (by omega) (by omega)
 rw [← upL_clip]
 have h2 := two_new w (.cells (vS s (.slice (some ⟨g1, 0, none⟩) s.cells.length k1) (.slice (some ⟨g2, 0, none⟩) s.tabs.length k2) (.slice A3 s.other.length k3) (.slice A4 n4 k4) (.slice A5 n5 k5) (.slice A6 n6 k6)) 31) (.cells zQ 31)
 have HLW := Lib.hid (HLI.out.keep (w' := (w.alloc (.cells (vS s (.slice (some ⟨g1, 0, none⟩) s.cells.length k1) (.slice (some ⟨g2, 0, none⟩) s.tabs.length k2) (.slice A3 s.other.length k3) (.slice A4 n4 k4) (.slice A5 n5 k5) (.slice A6 n6 k6)) 31)).alloc (.cells zQ 31)) (fun q hq => h2.1.cell (HT.out _ hq)))
 have H2 := Lib.hid h2
 obtain ⟨N0, hN0⟩ : ∃ N0, clipN (paramL l 0 1) = N0 := ⟨_, rfl⟩
 have HN0 := Lib.hid hN0
 rw [hN0]
 clear h2 hN0
 go_enter Tryz.func145, Tryz.ntmps145
 go_upto_region 13 with ((with_reducible refine (pnumber_0 _ l T _ HLW.out hll N0 HN0.out).mono ?_); rintro e w' ⟨rfl, rfl⟩)
 refine wp_region_lit ?_
 refine wpl_loadS rfl (.tmp 3) rfl rfl (heap_a1 w _ _) rfl ?_
 go_wp2_with fail
 ((with_reducible refine (pup_any { s with wrap := false, x := 0 } r c _ _ _ A4 A5 A6 n4 n5 n6 k4 k5 k6 base _ (by simp; omega) (((H.out.alloc _).alloc _).like rfl rfl rfl) HI2.out s.y N0).mono ?_); rintro e w4 ⟨uc, ut, uo, up, ui, uu, rfl, hsl, hs4, hf4, hsub4⟩)
 have f1 := hf4.var (heap_a2 w _ _) (H.out.far (by omega))
 rename_i K hK
 refine hK _ _ ?_
 refine wpl_storeS rfl (.tmp 6) (.tmp 51) rfl rfl rfl f1 rfl rfl (hs4.one hsl) ?_
 go_wp2
 refine psEndV (w.heap.size + 1) 6 Tryz.results145 rfl rfl f1 (by omega) (by simp) (H.out.far (by omega)) (Fr.of (two_new w _ _).1 _) (fun x hx => .inl hx) hsl hs4 hf4 hsub4
theorem pshift_77n (s : Sc) (r c : Nat) (vc vt vo : Value) (A4 A5 A6 : Option Addr) (n4 n5 n6 k4 k5 k6 : Nat) (base : Nat) (w : World) (hbase : base ≤ w.heap.size) (h : PsL w base vc vt vo s) (hi : ScIn { s with wrap := false } r c) (vp : Value) (l : List Int) (T : Nat → Prop) (hT : ∀ x, T x → x < w.heap.size) (hl : SL vI w T vp l) (hll : l.length ≤ 1048576) (hin : ¬ (s.top ≤ s.y ∧ s.y ≤ s.bottom)) :
  Calls Tryz.prog 145 #[.agg (vS s vc vt vo (.slice A4 n4 k4) (.slice A5 n5 k5) (.slice A6 n6 k6)), vp, .int .u8 77] w (PsPost base vc vt vo ({ s with wrap := false }) w) := by
 have H0 := Lib.hid (show ∀ x, OwB vc vt vo x → x < w.heap.size from fun x hx => (h.lt x hx).2)
 obtain ⟨g1, k1, g2, k2, A3, k3, rfl, rfl, rfl, ⟨b1, l1, p1, q1⟩, ⟨b2, l2, p2, q2⟩, p3, q3⟩ := h.open_ hi
 have H := Lib.hid h
 have HI := Lib.hid hi
 obtain ⟨hlen, hr1, hr2, hc1, hc2, HR, HCO, hr3, hr4, hc3, hc4, y0, y1, x0, x1, t0, t1, u1⟩ := pIn hi
 clear h hi
 have HT := Lib.hid hT
 obtain ⟨AP, kP, rfl, pP, qP⟩ := hl.form
 have HLI := Lib.hid hl
 clear hT hl
 have h2 := two_new w (.cells (vS s (.slice (some ⟨g1, 0, none⟩) s.cells.length k1) (.slice (some ⟨g2, 0, none⟩) s.tabs.length k2) (.slice A3 s.other.length k3) (.slice A4 n4 k4) (.slice A5 n5 k5) (.slice A6 n6 k6)) 31) (.cells zQ 31)
 have HLW := Lib.hid (HLI.out.keep (w' := (w.alloc (.cells (vS s (.slice (some ⟨g1, 0, none⟩) s.cells.length k1) (.slice (some ⟨g2, 0, none⟩) s.tabs.length k2) (.slice A3 s.other.length k3) (.slice A4 n4 k4) (.slice A5 n5 k5) (.slice A6 n6 k6)) 31)).alloc (.cells zQ 31)) (fun q hq => h2.1.cell (HT.out _ hq)))
 have H2 := Lib.hid h2
 obtain ⟨N0, hN0⟩ : ∃ N0, clipN (paramL l 0 1) = N0 := ⟨_, rfl⟩
 have HN0 := Lib.hid hN0
 clear h2 hN0
 by_cases hin1 : s.y < s.top
 ·clear hin
  go_enter Tryz.func145, Tryz.ntmps145
  go_upto_region 9 with ((with_reducible refine (pnumber_0 _ l T _ HLW.out hll N0 HN0.out).mono ?_); rintro e w' ⟨rfl, rfl⟩)
  refine wp_region_lit ?_
  refine wpl_loadS rfl (.tmp 3) rfl rfl (heap_a1 w _ _) rfl ?_
  refine wpl_storeS rfl (.tmp 6) (.tmp 38) rfl rfl rfl (heap_a2 w _ _) rfl rfl (all24 rfl rfl rfl rfl rfl rfl rfl rfl rfl rfl rfl rfl rfl rfl rfl rfl rfl rfl rfl rfl rfl rfl rfl rfl) ?_
  go_wp2
  refine psEnd0 (w.heap.size + 1) 6 Tryz.results145 ?_ ?_ (heap_a2 w _ _) (by omega) (two_new w _ _).1 sl3 H.out ?_ ?_ ?_
  all_goals rfl
 ·have hin2 : s.bottom < s.y := by omega
  clear hin
  go_enter Tryz.func145, Tryz.ntmps145
  go_upto_region 9 with ((with_reducible refine (pnumber_0 _ l T _ HLW.out hll N0 HN0.out).mono ?_); rintro e w' ⟨rfl, rfl⟩)
  refine wp_region_lit ?_
  refine wpl_loadS rfl (.tmp 3) rfl rfl (heap_a1 w _ _) rfl ?_
  refine wpl_storeS rfl (.tmp 6) (.tmp 38) rfl rfl rfl (heap_a2 w _ _) rfl rfl (all24 rfl rfl rfl rfl rfl rfl rfl rfl rfl rfl rfl rfl rfl rfl rfl rfl rfl rfl rfl rfl rfl rfl rfl rfl) ?_
  go_wp2
  refine psEnd0 (w.heap.size + 1) 6 Tryz.results145 ?_ ?_ (heap_a2 w _ _) (by omega) (two_new w _ _).1 sl3 H.out ?_ ?_ ?_
  all_goals rfl
theorem pdrop_0 (s : Sc) (r c : Nat) (vc vt vo : Value) (A4 A5 A6 : Option Addr) (n4 n5 n6 k4 k5 k6 : Nat) (base : Nat) (w : World) (hbase : base ≤ w.heap.size) (h : PsL w base vc vt vo s) (hi : ScIn { s with wrap := false } r c) (vp : Value) (l : List Int) (T : Nat → Prop) (hT : ∀ x, T x → x < w.heap.size) (hl : SL vI w T vp l) (hll : l.length ≤ 1048576) (hk : paramL l 0 0 = 0) :
  Calls Tryz.prog 148 #[.agg (vS s vc vt vo (.slice A4 n4 k4) (.slice A5 n5 k5) (.slice A6 n6 k6)), vp] w (PsPost base vc vt vo ({ s with tabs := s.tabs.set s.x.toNat false }) w) := by
 have H0 := Lib.hid (show ∀ x, OwB vc vt vo x → x < w.heap.size from fun x hx => (h.lt x hx).2)
 obtain ⟨g1, k1, g2, k2, A3, k3, rfl, rfl, rfl, ⟨b1, l1, p1, q1⟩, ⟨b2, l2, p2, q2⟩, p3, q3⟩ := h.open_ hi
 have H := Lib.hid h
 have HI := Lib.hid hi
 obtain ⟨hlen, hr1, hr2, hc1, hc2, HR, HCO, hr3, hr4, hc3, hc4, y0, y1, x0, x1, t0, t1, u1⟩ := pIn hi
 clear h hi
 have HT := Lib.hid hT
 obtain ⟨AP, kP, rfl, pP, qP⟩ := hl.form
 have HLI := Lib.hid hl
 clear hT hl
 have HK := Lib.hid hk
 clear hk
 obtain ⟨xx, hxx⟩ : ∃ xx : Nat, xx = s.x.toNat := ⟨_, rfl⟩
 rw [← hxx]
 have hxs : s.x = (xx : Int) := by omega
 have hxt : xx < s.tabs.length := by rw [show s.tabs.length = c from HI.out.tabs]; have := HCO.out; omega
 obtain ⟨q, s0, f0⟩ := H.out.t.spot xx hxt
 clear hxx
 go_enter Tryz.func148, Tryz.ntmps148
 go_upto_region 2 with (refine (pchoice_any _ l T _ (HLI.out.keep (fun q hq => (two_new w _ _).1.cell (HT.out _ hq))) hll).mono ?_; rintro e w' ⟨rfl, rfl⟩; rw [HK.out])
 go_upto_region 6 with fail
 refine wp_region_lit ?_
 refine wpl_loadS rfl (.tmp 2) rfl rfl (heap_s1 w _ _ _ _) rfl ?_
 refine wpl_storeS rfl (.tmp 4) (.tmp 18) rfl rfl rfl (heap_s2 w _ _ _ _) rfl rfl (all24 rfl rfl rfl rfl rfl rfl rfl rfl rfl rfl rfl rfl rfl rfl rfl rfl rfl rfl rfl rfl rfl rfl rfl rfl) ?_
 go_wp2
 refine psEndT (w.heap.size + 1) 4 Tryz.results148 ?_ ?_ rfl (heap_s2 w _ _ _ _) (by omega) sl3 H.out ?_ ?_ ?_
 all_goals rfl
theorem pdrop_3 (s : Sc) (r c : Nat) (vc vt vo : Value) (A4 A5 A6 : Option Addr) (n4 n5 n6 k4 k5 k6 : Nat) (base : Nat) (w : World) (hbase : base ≤ w.heap.size) (h : PsL w base vc vt vo s) (hi : ScIn { s with wrap := false } r c) (vp : Value) (l : List Int) (T : Nat → Prop) (hT : ∀ x, T x → x < w.heap.size) (hl : SL vI w T vp l) (hll : l.length ≤ 1048576) (hk : paramL l 0 0 = 3) :
  Calls Tryz.prog 148 #[.agg (vS s vc vt vo (.slice A4 n4 k4) (.slice A5 n5 k5) (.slice A6 n6 k6)), vp] w (PsPost base vc vt vo ({ s with tabs := List.replicate s.cols.toNat false }) w) := by
 have H0 := Lib.hid (show ∀ x, OwB vc vt vo x → x < w.heap.size from fun x hx => (h.lt x hx).2)
 obtain ⟨g1, k1, g2, k2, A3, k3, rfl, rfl, rfl, ⟨b1, l1, p1, q1⟩, ⟨b2, l2, p2, q2⟩, p3, q3⟩ := h.open_ hi
 have H := Lib.hid h
 have HI := Lib.hid hi
 obtain ⟨hlen, hr1, hr2, hc1, hc2, HR, HCO, hr3, hr4, hc3, hc4, y0, y1, x0, x1, t0, t1, u1⟩ := pIn hi
 clear h hi
 have HT := Lib.hid hT
 obtain ⟨AP, kP, rfl, pP, qP⟩ := hl.form
 have HLI := Lib.hid hl
 clear hT hl
 have h2 := two_new w (.cells (vS s (.slice (some ⟨g1, 0, none⟩) s.cells.length k1) (.slice (some ⟨g2, 0, none⟩) s.tabs.length k2) (.slice A3 s.other.length k3) (.slice A4 n4 k4) (.slice A5 n5 k5) (.slice A6 n6 k6)) 31) (.cells zQ 31)
 have HLW := Lib.hid (HLI.out.keep (w' := (w.alloc (.cells (vS s (.slice (some ⟨g1, 0, none⟩) s.cells.length k1) (.slice (some ⟨g2, 0, none⟩) s.tabs.length k2) (.slice A3 s.other.length k3) (.slice A4 n4 k4) (.slice A5 n5 k5) (.slice A6 n6 k6)) 31)).alloc (.cells zQ 31)) (fun q hq => h2.1.cell (HT.out _ hq)))
 have HCH := Lib.hid (pchoice_any _ l T ((w.alloc (.cells (vS s (.slice (some ⟨g1, 0, none⟩) s.cells.length k1) (.slice (some ⟨g2, 0, none⟩) s.tabs.length k2) (.slice A3 s.other.length k3) (.slice A4 n4 k4) (.slice A5 n5 k5) (.slice A6 n6 k6)) 31)).alloc (.cells zQ 31)) HLW.out hll)
 rw [hk] at HCH
 clear hk
 have H2 := Lib.hid h2
 clear h2
 have hxt : 0 < s.tabs.length := by rw [show s.tabs.length = c from HI.out.tabs]; omega
 have hst : s.cols.toNat = s.tabs.length := by rw [show s.tabs.length = c from HI.out.tabs, HCO.out]; omega
 rw [hst]
 clear hst
 have HTW := Lib.hid ((H.out.t.alloc (.cells (vS s (.slice (some ⟨g1, 0, none⟩) s.cells.length k1) (.slice (some ⟨g2, 0, none⟩) s.tabs.length k2) (.slice A3 s.other.length k3) (.slice A4 n4 k4) (.slice A5 n5 k5) (.slice A6 n6 k6)) 31)).alloc (.cells zQ 31))
 have HXT := Lib.hid hxt
 have HP2 := Lib.hid ((H.out.alloc (.cells (vS s (.slice (some ⟨g1, 0, none⟩) s.cells.length k1) (.slice (some ⟨g2, 0, none⟩) s.tabs.length k2) (.slice A3 s.other.length k3) (.slice A4 n4 k4) (.slice A5 n5 k5) (.slice A6 n6 k6)) 31)).alloc (.cells zQ 31))
 have K0 : Hid (((w.alloc (.cells (vS s (.slice (some ⟨g1, 0, none⟩) s.cells.length k1) (.slice (some ⟨g2, 0, none⟩) s.tabs.length k2) (.slice A3 s.other.length k3) (.slice A4 n4 k4) (.slice A5 n5 k5) (.slice A6 n6 k6)) 31)).alloc (.cells zQ 31)).heap[w.heap.size]? = some (.cells (vS s (.slice (some ⟨g1, 0, none⟩) s.cells.length k1) (.slice (some ⟨g2, 0, none⟩) s.tabs.length k2) (.slice A3 s.other.length k3) (.slice A4 n4 k4) (.slice A5 n5 k5) (.slice A6 n6 k6)) 31)) := heap_a1 w _ _
 have K1 : Hid (((w.alloc (.cells (vS s (.slice (some ⟨g1, 0, none⟩) s.cells.length k1) (.slice (some ⟨g2, 0, none⟩) s.tabs.length k2) (.slice A3 s.other.length k3) (.slice A4 n4 k4) (.slice A5 n5 k5) (.slice A6 n6 k6)) 31)).alloc (.cells zQ 31)).heap[w.heap.size + 1]? = some (.cells zQ 31)) := heap_a2 w _ _
 go_enter Tryz.func148, Tryz.ntmps148
 go_upto_region 6 with (first
  | ((with_reducible refine HCH.out.mono ?_); rintro e w' ⟨rfl, rfl⟩)
  | ((with_reducible refine wpl_clearT _ (o := ⟨none, .call _, _, _, _, _⟩) ?_ (.tmp 17) ?_ base g2 s.tabs.length k2 k2 s.tabs ?_ HTW.out HXT.out ?_); rfl; rfl; rfl; intro w4 o4 f4 z4; have O4 := Lib.hid o4; have F4 := Lib.hid f4; have Z4 := Lib.hid z4; clear o4 f4 z4))
 have hz := H2.out.2
 have ne0 : w.heap.size ≠ g2 := by omega
 have ne1 : w.heap.size + 1 ≠ g2 := by omega
 have e0 := (F4.out.block _ (by omega) ne0).trans K0.out
 have e1 := (F4.out.block _ (by omega) ne1).trans K1.out
 have hfr : Fr (OwB (.slice (some ⟨g1, 0, none⟩) s.cells.length k1) (.slice (some ⟨g2, 0, none⟩) s.tabs.length k2) (.slice A3 s.other.length k3)) w w4 := (Fr.of H2.out.1 _).trans F4.out (fun x hx => .inl (.inr (.inl (by rw [show x = g2 from hx]; rfl))))
 have hps : PsL w4 base (.slice (some ⟨g1, 0, none⟩) s.cells.length k1) (.slice (some ⟨g2, 0, none⟩) s.tabs.length k2) (.slice A3 s.other.length k3) { s with tabs := List.replicate s.tabs.length false } :=
  ⟨own_keep HP2.out.c (fun b e => F4.out.block b (World.ownsRow.lt HP2.out.c b e).2 (fun e2 => HP2.out.ct b e (by rw [show b = g2 from e2]; rfl))), by have := O4.out; unfold OT at this ⊢; rw [List.length_replicate] at this ⊢; exact this, own_keep HP2.out.o (fun b e => F4.out.block b (World.ownsRow.lt HP2.out.o b e).2 (fun e2 => HP2.out.ot b e (by rw [show b = g2 from e2]; rfl))), HP2.out.ap⟩
 refine wp_region_lit ?_
 refine wpl_loadS rfl (.tmp 2) rfl rfl e0 rfl ?_
 refine wpl_storeS rfl (.tmp 4) (.tmp 18) rfl rfl rfl e1 rfl rfl (all24 rfl rfl rfl rfl rfl rfl rfl rfl rfl rfl rfl rfl rfl rfl rfl rfl rfl rfl rfl rfl rfl rfl rfl rfl) ?_
 go_wp2
 refine psEnd (w.heap.size + 1) 4 Tryz.results148 ?_ ?_ e1 (by omega) hfr sl3 hps (H.out.far (by omega)) (fun x hx => .inl hx)
 all_goals rfl
theorem pdrop_n (s : Sc) (r c : Nat) (vc vt vo : Value) (A4 A5 A6 : Option Addr) (n4 n5 n6 k4 k5 k6 : Nat) (base : Nat) (w : World) (hbase : base ≤ w.heap.size) (h : PsL w base vc vt vo s) (hi : ScIn { s with wrap := false } r c) (vp : Value) (l : List Int) (T : Nat → Prop) (hT : ∀ x, T x → x < w.heap.size) (hl : SL vI w T vp l) (hll : l.length ≤ 1048576) (hk : ¬ paramL l 0 0 = 0) (hk3 : ¬ paramL l 0 0 = 3) :
  Calls Tryz.prog 148 #[.agg (vS s vc vt vo (.slice A4 n4 k4) (.slice A5 n5 k5) (.slice A6 n6 k6)), vp] w (PsPost base vc vt vo (s) w) := by
 have H0 := Lib.hid (show ∀ x, OwB vc vt vo x → x < w.heap.size from fun x hx => (h.lt x hx).2)
 obtain ⟨g1, k1, g2, k2, A3, k3, rfl, rfl, rfl, ⟨b1, l1, p1, q1⟩, ⟨b2, l2, p2, q2⟩, p3, q3⟩ := h.open_ hi
 have H := Lib.hid h
 have HI := Lib.hid hi
 obtain ⟨hlen, hr1, hr2, hc1, hc2, HR, HCO, hr3, hr4, hc3, hc4, y0, y1, x0, x1, t0, t1, u1⟩ := pIn hi
 clear h hi
 have HT := Lib.hid hT
 obtain ⟨AP, kP, rfl, pP, qP⟩ := hl.form
 have HLI := Lib.hid hl
 clear hT hl
 have h2 := two_new w (.cells (vS s (.slice (some ⟨g1, 0, none⟩) s.cells.length k1) (.slice (some ⟨g2, 0, none⟩) s.tabs.length k2) (.slice A3 s.other.length k3) (.slice A4 n4 k4) (.slice A5 n5 k5) (.slice A6 n6 k6)) 31) (.cells zQ 31)
 have HLW := Lib.hid (HLI.out.keep (w' := (w.alloc (.cells (vS s (.slice (some ⟨g1, 0, none⟩) s.cells.length k1) (.slice (some ⟨g2, 0, none⟩) s.tabs.length k2) (.slice A3 s.other.length k3) (.slice A4 n4 k4) (.slice A5 n5 k5) (.slice A6 n6 k6)) 31)).alloc (.cells zQ 31)) (fun q hq => h2.1.cell (HT.out _ hq)))
 have HCH := Lib.hid (pchoice_any _ l T ((w.alloc (.cells (vS s (.slice (some ⟨g1, 0, none⟩) s.cells.length k1) (.slice (some ⟨g2, 0, none⟩) s.tabs.length k2) (.slice A3 s.other.length k3) (.slice A4 n4 k4) (.slice A5 n5 k5) (.slice A6 n6 k6)) 31)).alloc (.cells zQ 31)) HLW.out hll)
 obtain ⟨K0, hK0⟩ : ∃ K0, paramL l 0 0 = K0 := ⟨_, rfl⟩
 rw [hK0] at HCH hk hk3
 have d0 : (K0 == 0) = false := by simpa using hk
 have d3 : (K0 == 3) = false := by simpa using hk3
 clear hk hk3 hK0
 have H2 := Lib.hid h2
 clear h2
 go_enter Tryz.func148, Tryz.ntmps148
 go_upto_region 6 with ((with_reducible refine HCH.out.mono ?_); rintro e w' ⟨rfl, rfl⟩)
 refine wp_region_lit ?_
 refine wpl_loadS rfl (.tmp 2) rfl rfl (heap_a1 w _ _) rfl ?_
 refine wpl_storeS rfl (.tmp 4) (.tmp 18) rfl rfl rfl (heap_a2 w _ _) rfl rfl (all24 rfl rfl rfl rfl rfl rfl rfl rfl rfl rfl rfl rfl rfl rfl rfl rfl rfl rfl rfl rfl rfl rfl rfl rfl) ?_
 go_wp2
 refine psEnd0 (w.heap.size + 1) 4 Tryz.results148 ?_ ?_ (heap_a2 w _ _) (by omega) (two_new w _ _).1 sl3 H.out ?_ ?_ ?_
 all_goals rfl
end Go.Proofs.YtlolgfgcgfjdjaaGreatDoor

namespace Go.Proofs.YtlolgfgcgfjdjaaGreatDoor
open Go.RowKit
set_option linter.unusedVariables false
set_option linter.unusedSimpArgs false
set_option maxHeartbeats 2000000
set_option maxRecDepth 100000
theorem pshiftC_64 (s : Sc) (r c : Nat) (vc vt vo : Value) (A4 A5 A6 : Option Addr) (n4 n5 n6 k4 k5 k6 : Nat) (base : Nat) (w : World) (hbase : base ≤ w.heap.size) (h : PsL w base vc vt vo s) (hi : ScIn { s with wrap := false } r c) (vp : Value) (l : List Int) (T : Nat → Prop) (hT : ∀ x, T x → x < w.heap.size) (hl : SL vI w T vp l) (hll : l.length ≤ 1048576)  :
  Calls Tryz.prog 146 #[.agg (vS s vc vt vo (.slice A4 n4 k4) (.slice A5 n5 k5) (.slice A6 n6 k6)), vp, .int .u8 64] w (PsPost base vc vt vo ({ s with cells := insertL s.cells s.cols s.y s.x (paramL l 0 1), wrap := false }) w) := by
 have H0 := Lib.hid (show ∀ x, OwB vc vt vo x → x < w.heap.size from fun x hx => (h.lt x hx).2)
 obtain ⟨g1, k1, g2, k2, A3, k3, rfl, rfl, rfl, ⟨b1, l1, p1, q1⟩, ⟨b2, l2, p2, q2⟩, p3, q3⟩ := h.open_ hi
 have H := Lib.hid h
 have HI := Lib.hid hi
 obtain ⟨hlen, hr1, hr2, hc1, hc2, HR, HCO, hr3, hr4, hc3, hc4, y0, y1, x0, x1, t0, t1, u1⟩ := pIn hi
 clear h hi
 have HT := Lib.hid hT
 obtain ⟨AP, kP, rfl, pP, qP⟩ := hl.form
 have HLI := Lib.hid hl
 clear hT hl
 rw [← insertL_clip]
 obtain ⟨N0, hN0⟩ : ∃ N0, clipN (paramL l 0 1) = N0 := ⟨_, rfl⟩
 rw [hN0]
 obtain ⟨Y, hY⟩ : ∃ Y : Nat, s.y = (Y : Int) := ⟨s.y.toNat, by omega⟩
 obtain ⟨X, hX⟩ : ∃ X : Nat, s.x = (X : Int) := ⟨s.x.toNat, by omega⟩
 have hYr : Y < r := by have := HR.out; omega
 have hXc : X < c := by have := HCO.out; omega
 obtain ⟨p, hp⟩ : ∃ p, p = Y * c := ⟨_, rfl⟩
 obtain ⟨P, hP⟩ : ∃ P, P = p * 3 := ⟨_, rfl⟩
 have hG : GOk s.cells.length r c := HI.out.g
 have he := row_end (c := c) hYr
 rw [← hG.n, ← hp] at he
 have HG := Lib.hid hG
 have hrl := rowL_len hG hYr
 have hel : (insertL (rowL s.cells c Y) (c : Int) 0 (X : Int) N0).length = c := by rw [insertL_len, hrl]
 have hpart := insert_part N0 hG hYr (show X ≤ c by omega)
 rw [← hp] at hpart
 have HPART := Lib.hid hpart
 have HEL := Lib.hid hel
 have HRL := Lib.hid hrl
 have HY := Lib.hid hY
 have HX := Lib.hid hX
 have HP := Lib.hid hp
 have HPP := Lib.hid hP
 have hcc : s.cols = (c : Int) := HCO.out
 rw [show insertL s.cells s.cols s.y s.x N0 = insertL s.cells (c : Int) (Y : Int) (X : Int) N0 by rw [hY, hX, hcc]]
 have HCC := Lib.hid hcc
 have h2w := two_new w (.cells (vS s (.slice (some ⟨g1, 0, none⟩) s.cells.length k1) (.slice (some ⟨g2, 0, none⟩) s.tabs.length k2) (.slice A3 s.other.length k3) (.slice A4 n4 k4) (.slice A5 n5 k5) (.slice A6 n6 k6)) 31) (.cells zQ 31)
 have HLW := Lib.hid (HLI.out.keep (w' := (w.alloc (.cells (vS s (.slice (some ⟨g1, 0, none⟩) s.cells.length k1) (.slice (some ⟨g2, 0, none⟩) s.tabs.length k2) (.slice A3 s.other.length k3) (.slice A4 n4 k4) (.slice A5 n5 k5) (.slice A6 n6 k6)) 31)).alloc (.cells zQ 31)) (fun q hq => h2w.1.cell (HT.out _ hq)))
 have HN0 := Lib.hid hN0
 clear h2w hN0 hp hP hG hrl hel hpart hY hX hcc
 go_enter Tryz.func146, Tryz.ntmps146
 go_upto_region 3 with ((with_reducible refine (pnumber_0 _ l T _ HLW.out hll N0 HN0.out).mono ?_); rintro e w' ⟨rfl, rfl⟩)
 have HS : Hid (PutAt w base _ _ _ r c (.cells zQ 31) { s with wrap := false } g1 k1 g2 k2 A3 k3 (.slice A4 n4 k4) (.slice A5 n5 k5) (.slice A6 n6 k6) ((w.alloc (.cells #[.int .i64 s.rows, .int .i64 s.cols, .slice (some ⟨g1, 0, none⟩) s.cells.length k1, .int .i64 s.y, .int .i64 s.x, .bool false, .int .u16 (s.attr : Int), .int .i64 s.top, .int .i64 s.bottom, .slice (some ⟨g2, 0, none⟩) s.tabs.length k2, .int .i64 s.sy, .int .i64 s.sx, .int .u16 (s.sattr : Int), .bool s.auto, .bool s.shown, .bool s.alt, .slice A3 s.other.length k3, .int .i64 s.oy, .int .i64 s.ox, .int .i64 (s.p.mode : Int), .int .u8 (s.p.priv : Int), .slice A4 n4 k4, .slice A5 n5 k5, .slice A6 n6 k6] 31)).alloc (.cells zQ 31))) :=
  ⟨heap_a1 w _ _, heap_a2 w _ _, ((H.out.alloc _).alloc _).like rfl rfl rfl, Fr.of (two_new w _ _).1 _, by simp, fun x hx => .inl hx, HI.out, sl3⟩
 generalize World.alloc (World.alloc _ _) _ = W1 at HS ⊢
 refine wp_region_lit ?_
 refine wpl_loadS rfl (.tmp 3) rfl rfl HS.out.v rfl ?_
 obtain ⟨d3, -⟩ := cellR (v := .int .i64 s.y) HS.out.v 3 rfl
 go_wp2_with fail
 ((with_reducible refine (prowOf_any { s with wrap := false } r c g1 k1 g2 k2 A3 k3 A4 A5 A6 n4 n5 n6 k4 k5 k6 base _ (by have := HS.out.n; omega) HS.out.p HS.out.i Y p P hYr HP.out HPP.out s.y HY.out).mono ?_); rintro e w2 ⟨rfl, b2⟩)
 have v2 : w2.heap[w.heap.size]? = _ := (b2.block _ (by have := HS.out.n; omega)).trans HS.out.v
 have z2 : w2.heap[w.heap.size + 1]? = _ := (b2.block _ HS.out.n).trans HS.out.z
 have HS2 : Hid (PutAt w base _ _ _ r c (.cells zQ 31) { s with wrap := false } g1 k1 g2 k2 A3 k3 (.slice A4 n4 k4) (.slice A5 n5 k5) (.slice A6 n6 k6) w2) :=
  ⟨v2, z2, HS.out.p.below b2, HS.out.f.trans (Fr.of b2 (OwB _ _ _)) (fun x hx => .inl hx), by have := HS.out.n; have := b2.size; omega, HS.out.sub, HS.out.i, HS.out.sl⟩
 obtain ⟨d1, -⟩ := cellR (v := .int .i64 s.cols) v2 1 rfl
 obtain ⟨d4, -⟩ := cellR (v := .int .i64 s.x) v2 4 rfl
 rw [HCC.out] at d1
 rw [HX.out] at d4
 have HC := Lib.hid (HS2.out.p.c.rowCS HG.out hYr HP.out HPP.out)
 clear v2 z2 b2 HS d3
 rename_i K hK
 refine hK _ _ ?_
 clear hK K
 go_upto_region 9 with (first
  | (go_at_call 164; (with_reducible refine (ginsert_any _ (rowL s.cells c Y) (c : Int) 0 (X : Int) N0 _ HC.out (by rw [HRL.out]; omega)).mono ?_); rintro e w5 ⟨v5, rfl, o5, b5⟩; obtain ⟨A5', k5', rfl, p5', q5'⟩ := o5.form; rw [HEL.out] at p5'; have HO5 := Lib.hid o5; have HB5 := Lib.hid b5; clear o5 b5)
  | ((with_reducible refine wpl_copyC _ (o := ⟨some 27, _, _, _, _, _⟩) ?_ (.tmp 19) (.tmp 26) ?_ base w5.heap.size g1 s.cells.length k1 P p c (k1 - p) _ s.cells (insertL (rowL s.cells c Y) (c : Int) 0 (X : Int) N0) ?_ ?_ (HS2.out.p.c.below HB5.out) HPP.out HO5.out HEL.out (by omega) (by omega) ?_); rfl; rfl; rfl; rfl; intro w6 o7 f7 z7; have O7 := Lib.hid o7; have F7 := Lib.hid f7; clear o7 f7 z7))
 have o6 : OC w6 base (.slice (some ⟨g1, 0, none⟩) s.cells.length k1) (insertL s.cells (c : Int) (Y : Int) (X : Int) N0) := by
  have o := O7.out
  rw [HPART.out] at o
  exact o
 have f6 : Fr (fun x => x = g1) w2 w6 := (Fr.of HB5.out (fun x => x = g1)).trans F7.out (fun x hx => .inl hx)
 clear d1 d4
 obtain ⟨ne0, ne1⟩ := HS2.out.g1ne H0.out
 have v6 : w6.heap[w.heap.size]? = _ := (f6.block _ (by have := HS2.out.n; omega) (fun e => ne0 e.symm)).trans HS2.out.v
 have z6 : w6.heap[w.heap.size + 1]? = _ := (f6.block _ HS2.out.n (fun e => ne1 e.symm)).trans HS2.out.z
 have HWT := Lib.hid (HS2.out.wrote o6 f6)
 have HFAR := Lib.hid (HS2.out.far H0.out)
 have HSUB := Lib.hid HS2.out.sub
 refine wp_region_lit ?_
 refine wpl_loadS rfl (.tmp 3) rfl rfl v6 rfl ?_
 refine wpl_storeS rfl (.tmp 6) (.tmp 39) rfl rfl rfl z6 rfl rfl (all24 rfl rfl rfl rfl rfl rfl rfl rfl rfl rfl rfl rfl rfl rfl rfl rfl rfl rfl rfl rfl rfl rfl rfl rfl) ?_
 go_wp2
 refine psEnd (s := { s with cells := insertL s.cells (c : Int) (Y : Int) (X : Int) N0, wrap := false }) (w.heap.size + 1) 6 Tryz.results146 ?_ ?_ z6 (by omega) HWT.out.2 sl3 HWT.out.1 HFAR.out.2 (fun x hx => (HSUB.out x hx).imp id (fun h => by omega))
 all_goals rfl
theorem pshiftC_80 (s : Sc) (r c : Nat) (vc vt vo : Value) (A4 A5 A6 : Option Addr) (n4 n5 n6 k4 k5 k6 : Nat) (base : Nat) (w : World) (hbase : base ≤ w.heap.size) (h : PsL w base vc vt vo s) (hi : ScIn { s with wrap := false } r c) (vp : Value) (l : List Int) (T : Nat → Prop) (hT : ∀ x, T x → x < w.heap.size) (hl : SL vI w T vp l) (hll : l.length ≤ 1048576)  :
  Calls Tryz.prog 146 #[.agg (vS s vc vt vo (.slice A4 n4 k4) (.slice A5 n5 k5) (.slice A6 n6 k6)), vp, .int .u8 80] w (PsPost base vc vt vo ({ s with cells := deleteL s.cells s.cols s.y s.x (paramL l 0 1), wrap := false }) w) := by
 have H0 := Lib.hid (show ∀ x, OwB vc vt vo x → x < w.heap.size from fun x hx => (h.lt x hx).2)
 obtain ⟨g1, k1, g2, k2, A3, k3, rfl, rfl, rfl, ⟨b1, l1, p1, q1⟩, ⟨b2, l2, p2, q2⟩, p3, q3⟩ := h.open_ hi
 have H := Lib.hid h
 have HI := Lib.hid hi
 obtain ⟨hlen, hr1, hr2, hc1, hc2, HR, HCO, hr3, hr4, hc3, hc4, y0, y1, x0, x1, t0, t1, u1⟩ := pIn hi
 clear h hi
 have HT := Lib.hid hT
 obtain ⟨AP, kP, rfl, pP, qP⟩ := hl.form
 have HLI := Lib.hid hl
 clear hT hl
 rw [← deleteL_clip]
 obtain ⟨N0, hN0⟩ : ∃ N0, clipN (paramL l 0 1) = N0 := ⟨_, rfl⟩
 rw [hN0]
 obtain ⟨Y, hY⟩ : ∃ Y : Nat, s.y = (Y : Int) := ⟨s.y.toNat, by omega⟩
 obtain ⟨X, hX⟩ : ∃ X : Nat, s.x = (X : Int) := ⟨s.x.toNat, by omega⟩
 have hYr : Y < r := by have := HR.out; omega
 have hXc : X < c := by have := HCO.out; omega
 obtain ⟨p, hp⟩ : ∃ p, p = Y * c := ⟨_, rfl⟩
 obtain ⟨P, hP⟩ : ∃ P, P = p * 3 := ⟨_, rfl⟩
 have hG : GOk s.cells.length r c := HI.out.g
 have he := row_end (c := c) hYr
 rw [← hG.n, ← hp] at he
 have HG := Lib.hid hG
 have hrl := rowL_len hG hYr
 have hel : (deleteL (rowL s.cells c Y) (c : Int) 0 (X : Int) N0).length = c := by rw [deleteL_len, hrl]
 have hpart := delete_part N0 hG hYr (show X ≤ c by omega)
 rw [← hp] at hpart
 have HPART := Lib.hid hpart
 have HEL := Lib.hid hel
 have HRL := Lib.hid hrl
 have HY := Lib.hid hY
 have HX := Lib.hid hX
 have HP := Lib.hid hp
 have HPP := Lib.hid hP
 have hcc : s.cols = (c : Int) := HCO.out
 rw [show deleteL s.cells s.cols s.y s.x N0 = deleteL s.cells (c : Int) (Y : Int) (X : Int) N0 by rw [hY, hX, hcc]]
 have HCC := Lib.hid hcc
 have h2w := two_new w (.cells (vS s (.slice (some ⟨g1, 0, none⟩) s.cells.length k1) (.slice (some ⟨g2, 0, none⟩) s.tabs.length k2) (.slice A3 s.other.length k3) (.slice A4 n4 k4) (.slice A5 n5 k5) (.slice A6 n6 k6)) 31) (.cells zQ 31)
 have HLW := Lib.hid (HLI.out.keep (w' := (w.alloc (.cells (vS s (.slice (some ⟨g1, 0, none⟩) s.cells.length k1) (.slice (some ⟨g2, 0, none⟩) s.tabs.length k2) (.slice A3 s.other.length k3) (.slice A4 n4 k4) (.slice A5 n5 k5) (.slice A6 n6 k6)) 31)).alloc (.cells zQ 31)) (fun q hq => h2w.1.cell (HT.out _ hq)))
 have HN0 := Lib.hid hN0
 clear h2w hN0 hp hP hG hrl hel hpart hY hX hcc
 go_enter Tryz.func146, Tryz.ntmps146
 go_upto_region 3 with ((with_reducible refine (pnumber_0 _ l T _ HLW.out hll N0 HN0.out).mono ?_); rintro e w' ⟨rfl, rfl⟩)
 have HS : Hid (PutAt w base _ _ _ r c (.cells zQ 31) { s with wrap := false } g1 k1 g2 k2 A3 k3 (.slice A4 n4 k4) (.slice A5 n5 k5) (.slice A6 n6 k6) ((w.alloc (.cells #[.int .i64 s.rows, .int .i64 s.cols, .slice (some ⟨g1, 0, none⟩) s.cells.length k1, .int .i64 s.y, .int .i64 s.x, .bool false, .int .u16 (s.attr : Int), .int .i64 s.top, .int .i64 s.bottom, .slice (some ⟨g2, 0, none⟩) s.tabs.length k2, .int .i64 s.sy, .int .i64 s.sx, .int .u16 (s.sattr : Int), .bool s.auto, .bool s.shown, .bool s.alt, .slice A3 s.other.length k3, .int .i64 s.oy, .int .i64 s.ox, .int .i64 (s.p.mode : Int), .int .u8 (s.p.priv : Int), .slice A4 n4 k4, .slice A5 n5 k5, .slice A6 n6 k6] 31)).alloc (.cells zQ 31))) :=
  ⟨heap_a1 w _ _, heap_a2 w _ _, ((H.out.alloc _).alloc _).like rfl rfl rfl, Fr.of (two_new w _ _).1 _, by simp, fun x hx => .inl hx, HI.out, sl3⟩
 generalize World.alloc (World.alloc _ _) _ = W1 at HS ⊢
 refine wp_region_lit ?_
 refine wpl_loadS rfl (.tmp 3) rfl rfl HS.out.v rfl ?_
 obtain ⟨d3, -⟩ := cellR (v := .int .i64 s.y) HS.out.v 3 rfl
 go_wp2_with fail
 ((with_reducible refine (prowOf_any { s with wrap := false } r c g1 k1 g2 k2 A3 k3 A4 A5 A6 n4 n5 n6 k4 k5 k6 base _ (by have := HS.out.n; omega) HS.out.p HS.out.i Y p P hYr HP.out HPP.out s.y HY.out).mono ?_); rintro e w2 ⟨rfl, b2⟩)
 have v2 : w2.heap[w.heap.size]? = _ := (b2.block _ (by have := HS.out.n; omega)).trans HS.out.v
 have z2 : w2.heap[w.heap.size + 1]? = _ := (b2.block _ HS.out.n).trans HS.out.z
 have HS2 : Hid (PutAt w base _ _ _ r c (.cells zQ 31) { s with wrap := false } g1 k1 g2 k2 A3 k3 (.slice A4 n4 k4) (.slice A5 n5 k5) (.slice A6 n6 k6) w2) :=
  ⟨v2, z2, HS.out.p.below b2, HS.out.f.trans (Fr.of b2 (OwB _ _ _)) (fun x hx => .inl hx), by have := HS.out.n; have := b2.size; omega, HS.out.sub, HS.out.i, HS.out.sl⟩
 obtain ⟨d1, -⟩ := cellR (v := .int .i64 s.cols) v2 1 rfl
 obtain ⟨d4, -⟩ := cellR (v := .int .i64 s.x) v2 4 rfl
 rw [HCC.out] at d1
 rw [HX.out] at d4
 have HC := Lib.hid (HS2.out.p.c.rowCS HG.out hYr HP.out HPP.out)
 clear v2 z2 b2 HS d3
 rename_i K hK
 refine hK _ _ ?_
 clear hK K
 go_upto_region 9 with (first
  | (go_at_call 165; (with_reducible refine (gdelete_any _ (rowL s.cells c Y) (c : Int) 0 (X : Int) N0 _ HC.out (by rw [HRL.out]; omega)).mono ?_); rintro e w5 ⟨v5, rfl, o5, b5⟩; obtain ⟨A5', k5', rfl, p5', q5'⟩ := o5.form; rw [HEL.out] at p5'; have HO5 := Lib.hid o5; have HB5 := Lib.hid b5; clear o5 b5)
  | ((with_reducible refine wpl_copyC _ (o := ⟨some 38, _, _, _, _, _⟩) ?_ (.tmp 30) (.tmp 37) ?_ base w5.heap.size g1 s.cells.length k1 P p c (k1 - p) _ s.cells (deleteL (rowL s.cells c Y) (c : Int) 0 (X : Int) N0) ?_ ?_ (HS2.out.p.c.below HB5.out) HPP.out HO5.out HEL.out (by omega) (by omega) ?_); rfl; rfl; rfl; rfl; intro w6 o7 f7 z7; have O7 := Lib.hid o7; have F7 := Lib.hid f7; clear o7 f7 z7))
 have o6 : OC w6 base (.slice (some ⟨g1, 0, none⟩) s.cells.length k1) (deleteL s.cells (c : Int) (Y : Int) (X : Int) N0) := by
  have o := O7.out
  rw [HPART.out] at o
  exact o
 have f6 : Fr (fun x => x = g1) w2 w6 := (Fr.of HB5.out (fun x => x = g1)).trans F7.out (fun x hx => .inl hx)
 clear d1 d4
 obtain ⟨ne0, ne1⟩ := HS2.out.g1ne H0.out
 have v6 : w6.heap[w.heap.size]? = _ := (f6.block _ (by have := HS2.out.n; omega) (fun e => ne0 e.symm)).trans HS2.out.v
 have z6 : w6.heap[w.heap.size + 1]? = _ := (f6.block _ HS2.out.n (fun e => ne1 e.symm)).trans HS2.out.z
 have HWT := Lib.hid (HS2.out.wrote o6 f6)
 have HFAR := Lib.hid (HS2.out.far H0.out)
 have HSUB := Lib.hid HS2.out.sub
 refine wp_region_lit ?_
 refine wpl_loadS rfl (.tmp 3) rfl rfl v6 rfl ?_
 refine wpl_storeS rfl (.tmp 6) (.tmp 39) rfl rfl rfl z6 rfl rfl (all24 rfl rfl rfl rfl rfl rfl rfl rfl rfl rfl rfl rfl rfl rfl rfl rfl rfl rfl rfl rfl rfl rfl rfl rfl) ?_
 go_wp2
 refine psEnd (s := { s with cells := deleteL s.cells (c : Int) (Y : Int) (X : Int) N0, wrap := false }) (w.heap.size + 1) 6 Tryz.results146 ?_ ?_ z6 (by omega) HWT.out.2 sl3 HWT.out.1 HFAR.out.2 (fun x hx => (HSUB.out x hx).imp id (fun h => by omega))
 all_goals rfl
end Go.Proofs.YtlolgfgcgfjdjaaGreatDoor

namespace Go.Proofs.YtlolgfgcgfjdjaaGreatDoor
open Go.RowKit
set_option linter.unusedVariables false
set_option linter.unusedSimpArgs false
set_option maxHeartbeats 400000
set_option maxRecDepth 100000
@[reducible] def vRaw (m : Int) (s : Sc) (vc vt vo vp vi vu : Value) : Array Value :=
 #[.int .i64 s.rows, .int .i64 s.cols, vc, .int .i64 s.y, .int .i64 s.x, .bool s.wrap, .int .u16 (s.attr : Int), .int .i64 s.top, .int .i64 s.bottom, vt, .int .i64 s.sy, .int .i64 s.sx, .int .u16 (s.sattr : Int), .bool s.auto, .bool s.shown, .bool s.alt, vo, .int .i64 s.oy, .int .i64 s.ox, .int .i64 m, .int .u8 (s.p.priv : Int), vp, vi, vu]
theorem vRaw_cells {w : World} {g : Nat} {t : TypeId} {m : Int} {s : Sc} {vc vt vo vp vi vu : Value} (h : w.heap[g]? = some (.cells (vRaw m s vc vt vo vp vi vu) t)) :
  w.cell? ⟨g, 0, none⟩ = some (.int .i64 s.rows) ∧ w.cell? ⟨g, 1, none⟩ = some (.int .i64 s.cols) ∧ w.cell? ⟨g, 2, none⟩ = some (vc) ∧ w.cell? ⟨g, 3, none⟩ = some (.int .i64 s.y) ∧ w.cell? ⟨g, 4, none⟩ = some (.int .i64 s.x) ∧ w.cell? ⟨g, 5, none⟩ = some (.bool s.wrap) ∧ w.cell? ⟨g, 6, none⟩ = some (.int .u16 (s.attr : Int)) ∧ w.cell? ⟨g, 7, none⟩ = some (.int .i64 s.top) ∧ w.cell? ⟨g, 8, none⟩ = some (.int .i64 s.bottom) ∧ w.cell? ⟨g, 9, none⟩ = some (vt) ∧ w.cell? ⟨g, 10, none⟩ = some (.int .i64 s.sy) ∧ w.cell? ⟨g, 11, none⟩ = some (.int .i64 s.sx) ∧ w.cell? ⟨g, 12, none⟩ = some (.int .u16 (s.sattr : Int)) ∧ w.cell? ⟨g, 13, none⟩ = some (.bool s.auto) ∧ w.cell? ⟨g, 14, none⟩ = some (.bool s.shown) ∧ w.cell? ⟨g, 15, none⟩ = some (.bool s.alt) ∧ w.cell? ⟨g, 16, none⟩ = some (vo) ∧ w.cell? ⟨g, 17, none⟩ = some (.int .i64 s.oy) ∧ w.cell? ⟨g, 18, none⟩ = some (.int .i64 s.ox) ∧ w.cell? ⟨g, 19, none⟩ = some (.int .i64 m) ∧ w.cell? ⟨g, 20, none⟩ = some (.int .u8 (s.p.priv : Int)) ∧ w.cell? ⟨g, 21, none⟩ = some (vp) ∧ w.cell? ⟨g, 22, none⟩ = some (vi) ∧ w.cell? ⟨g, 23, none⟩ = some (vu) :=
 ⟨(cellR h 0 rfl).1, (cellR h 1 rfl).1, (cellR h 2 rfl).1, (cellR h 3 rfl).1, (cellR h 4 rfl).1, (cellR h 5 rfl).1, (cellR h 6 rfl).1, (cellR h 7 rfl).1, (cellR h 8 rfl).1, (cellR h 9 rfl).1, (cellR h 10 rfl).1, (cellR h 11 rfl).1, (cellR h 12 rfl).1, (cellR h 13 rfl).1, (cellR h 14 rfl).1, (cellR h 15 rfl).1, (cellR h 16 rfl).1, (cellR h 17 rfl).1, (cellR h 18 rfl).1, (cellR h 19 rfl).1, (cellR h 20 rfl).1, (cellR h 21 rfl).1, (cellR h 22 rfl).1, (cellR h 23 rfl).1⟩
theorem blk_below {w1 w2 : World} {o : Obj} {g : Nat} (h : w1.heap[g]? = some o) (hb : Below w1.heap.size w1 w2) : w2.heap[g]? = some o := by
 refine (hb.block g ?_).trans h
 exact (Array.getElem?_eq_some_iff.1 h).1
end Go.Proofs.YtlolgfgcgfjdjaaGreatDoor

namespace Go.Proofs.YtlolgfgcgfjdjaaGreatDoor
open Go.RowKit
set_option linter.unusedVariables false
set_option linter.unusedSimpArgs false
set_option maxHeartbeats 400000
set_option maxRecDepth 100000
theorem andT8 : (List.range 4096).all (fun a => bits BinOp.and IntKind.u16 (a : Int) 8 == ((a / 8 % 2 * 8 : Nat) : Int)) = true := by kernel_rfl
theorem andT4 : (List.range 4096).all (fun a => bits BinOp.and IntKind.u16 ((a : Int) / 16) 15 == ((a / 16 % 16 : Nat) : Int)) = true := by kernel_rfl
theorem andT2 : (List.range 4096).all (fun a => bits BinOp.and IntKind.u16 ((a : Int) / 256) 15 == ((a / 256 % 16 : Nat) : Int)) = true := by kernel_rfl
theorem andU {f : Nat → Bool} (h : (List.range 4096).all f = true) (a : Nat) (ha : a < 4096) : f a = true := (List.all_eq_true.1 h) a (List.mem_range.2 ha)
end Go.Proofs.YtlolgfgcgfjdjaaGreatDoor
