/- What is proved here: parts of the proofs of the laws of layer 10. -/
import Derived.Test.YthncoigjfhmldaaGreatS28
import Derived.Test.YthncoigjfhmldaaGreatS21
namespace Go.Proofs.YthncoigjfhmldaaGreat
open Go.RowKit
set_option linter.unusedVariables false
set_option linter.unusedSimpArgs false
set_option maxHeartbeats 8000000
set_option maxRecDepth 100000
def PutSPost (m : Int) (s : Sc) (w : World) (e : Ending) (w' : World) : Prop := ∃ u er, e = .returned (.tuple #[u, .int .i64 er]) ∧ Below w.heap.size w w' ∧ ((RightS m s ∧ er = 0 ∧ OB w' w.heap.size u (snapL s)) ∨ (¬ RightS m s ∧ er = 27 ∧ u = .slice none 0 0))
theorem parserB_len {m : Int} {p : Pr} (h : RightP m p.priv p.params p.inter p.utf) : (parserB p).length ≤ 300 := by
 obtain ⟨⟨-, m7, k16, i2, huf⟩, hps, -, hpv, -, -⟩ := h
 have hul : p.utf.length ≤ 3 := by
  rcases Nat.eq_zero_or_pos p.utf.length with h | h
  ·omega
  ·exact (beginsL_len _ (huf h).2).2
 have l1 := snumL_len [p.mode, p.priv, p.params.length]
 have l2 := snumL_len (p.params.map Int.toNat)
 have l3 := (lebP_length p.inter.length).2
 have l4 := (lebP_length p.utf.length).2
 simp only [List.length_map, List.length_cons, List.length_nil] at l1 l2
 simp only [parserB, putB, List.length_append]
 omega
theorem snap_parts (s : Sc) : snumL (headN s) ++ tabsB s.tabs ++ bytL s.cells ++ otherB s ++ parserB s.p = snapL s := by simp [snapL]
theorem pPut_any (m : Int) (s : Sc) (vc vt vo vp vi vu : Value) (S : Nat → Prop) (w : World) (hS : ∀ x, S x → x < w.heap.size) (hs : SSl w S s vc vt vo vp vi vu) (hf : FitS m s) (hm : RightS m s → m = (s.p.mode : Int)) : Calls Tryz.prog 9 #[.agg (vRaw m s vc vt vo vp vi vu)] w (PutSPost m s w) := by
 have HSS := Lib.hid hS
 have HS := Lib.hid hs
 obtain ⟨A1, kk1, A2, k2, A3, k3, A4, k4, A5, k5, A6, k6, rfl, rfl, rfl, rfl, rfl, rfl, p1, q1, p2, q2, p3, q3, p4, q4, p5, q5, p6, q6⟩ := sslSix hs
 obtain ⟨X, hX⟩ : ∃ X, vMq m s A1 A2 A3 A4 A5 A6 kk1 k2 k3 k4 k5 k6 = X := ⟨_, rfl⟩
 have hb0 : (w.alloc (.cells (vMq m s A1 A2 A3 A4 A5 A6 kk1 k2 k3 k4 k5 k6) 30)).heap[w.heap.size]? = some (.cells (vMq m s A1 A2 A3 A4 A5 A6 kk1 k2 k3 k4 k5 k6) 30) := heap_one w _
 have K0 := Lib.hid hb0
 have BW := Lib.hid ((Below.refl w.heap.size w).alloc (Nat.le_refl _) (.cells (vMq m s A1 A2 A3 A4 A5 A6 kk1 k2 k3 k4 k5 k6) 30))
 have ZW : w.heap.size < (w.alloc (.cells (vMq m s A1 A2 A3 A4 A5 A6 kk1 k2 k3 k4 k5 k6) 30)).heap.size := by simp
 clear hb0 hX
 have HFIT := Lib.hid hf
 go_enter Tryz.func9, Tryz.ntmps9
 go_upto_region 1 with fail
 generalize World.alloc w _ = W at K0 BW ZW ⊢
 have HSW := Lib.hid (HS.out.below HSS.out BW.out)
 have hR := pRight_any m s _ _ _ _ _ _ S W (fun x hx => by have := HSS.out x hx; omega) HSW.out hf
 refine wp_region_lit ?_
 refine wpl_loadS rfl (.tmp 1) rfl rfl K0.out rfl ?_
 go_wp2_with fail
 refine hR.mono ?_
 rintro e w1 ⟨b, rfl, hb, b1⟩
 have HB := Lib.hid hb
 have K1 := Lib.hid ((b1.block _ ZW).trans K0.out)
 have B1 := Lib.hid (BW.out.trans (b1.mono (by omega)))
 have z1 := b1.size
 have HS1 := Lib.hid (HSW.out.below (B := W.heap.size) (fun x hx => by have := HSS.out x hx; omega) b1)
 clear hR hb b1 K0 BW HSW
 rename_i K hK
 refine hK _ _ ?_
 clear hK K
 cases b
 ·have HN := Lib.hid (show ¬ RightS m s from fun h => by have := HB.out.2 h; cases this)
  go_wp2
  go_ret2
  exact ⟨_, _, rfl, B1.out, .inr ⟨HN.out, rfl, rfl⟩⟩
 ·have HR := Lib.hid (HB.out.1 rfl)
  have hmm := hm HR.out
  subst hmm
  clear hm HB
  go_upto_region 3 with fail
  refine puAt s _ A1 A2 A3 A4 A5 A6 _ _ _ _ _ _ kk1 k2 k3 k4 k5 k6 w.heap.size w1 K1.out HR.out _ fun VB f wf hbf ob => ?_
  obtain ⟨r1, r2, c1, c2, tl, oy0, oy1, ox0, ox1⟩ : 1 ≤ s.rows ∧ s.rows ≤ 1000 ∧ 1 ≤ s.cols ∧ s.cols ≤ 1000 ∧ (s.tabs.length : Int) = s.cols ∧ 0 ≤ s.oy ∧ s.oy < s.rows ∧ 0 ≤ s.ox ∧ s.ox < s.cols := ⟨HR.out.r1, HR.out.r2, HR.out.c1, HR.out.c2, HR.out.tabs, HR.out.oy0, HR.out.oy1, HR.out.ox0, HR.out.ox1⟩
  have n0 := snumL_len (headN s)
  have n1 := snumL_len (s.tabs.map fun b => bN b 1)
  have n2 := bytL_len s.cells
  have n3 := bytL_len s.other
  have n4 := parserB_len HR.out.p
  have n5 := snumL_len [s.oy.toNat, s.ox.toNat]
  have n6 := HFIT.out.nc
  have n7 := HFIT.out.no
  simp only [headN, List.length_map, List.length_cons, List.length_nil] at n0 n1 n5
  have HCL : Hid (∀ W, Below w1.heap.size w1 W → (∀ x, S x → x < W.heap.size) ∧ TS W W.heap.size (.slice A2 s.tabs.length k2) s.tabs ∧ CS W W.heap.size (.slice A1 s.cells.length kk1) s.cells ∧ CS W W.heap.size (.slice A3 s.other.length k3) s.other ∧ SSl W S s (.slice A1 s.cells.length kk1) (.slice A2 s.tabs.length k2) (.slice A3 s.other.length k3) (.slice A4 s.p.params.length k4) (.slice A5 s.p.inter.length k5) (.slice A6 s.p.utf.length k6)) := fun W hW => by
   have hSW : ∀ x, S x → x < W.heap.size := fun x hx => by have := HSS.out x hx; have := hW.size; omega
   have hs := HS1.out.below (B := w1.heap.size) (fun x hx => by have := HSS.out x hx; omega) hW
   exact ⟨hSW, hs.2.1.mono hSW, hs.1.cs hSW, hs.2.2.1.cs hSW, hs⟩
  obtain ⟨M0, hM0⟩ : ∃ M, snumL (headN s) = M := ⟨_, rfl⟩
  obtain ⟨M1, hM1⟩ : ∃ M, M0 ++ tabsB s.tabs = M := ⟨_, rfl⟩
  obtain ⟨M2, hM2⟩ : ∃ M, M1 ++ bytL s.cells = M := ⟨_, rfl⟩
  obtain ⟨M3, hM3⟩ : ∃ M, M2 ++ otherB s = M := ⟨_, rfl⟩
  obtain ⟨N0, hN0⟩ : ∃ M, M2 ++ snumL [s.oy.toNat, s.ox.toNat] = M := ⟨_, rfl⟩
  have q0 : M0.length ≤ 200 := by rw [← hM0]; simp only [headN]; omega
  have q1 : M1.length ≤ 20000 := by rw [← hM1, List.length_append]; unfold tabsB; omega
  have q2 : M2.length ≤ 100000000 := by rw [← hM2, List.length_append]; omega
  have q3 : N0.length ≤ 100001000 := by rw [← hN0, List.length_append]; omega
  have q4 : M3.length ≤ 300000000 := by rw [← hM3, List.length_append]; unfold otherB; split <;> simp only [List.length_append, List.length_nil] <;> omega
  have n8 : (tabsB s.tabs).length ≤ 20000 := by unfold tabsB; omega
  rw [hM0] at ob
  have HM := Lib.hid (And.intro hM0 (And.intro hM1 (And.intro hM2 (And.intro hM3 hN0))))
  clear hM0 hM1 hM2 hM3 hN0 n0
  have P := Lib.hid ob
  obtain ⟨B9, c9, hv, -, -⟩ := ob.sl.form
  subst hv
  have C := Lib.hid hbf
  have z0 := hbf.size
  have L := Lib.hid ((hbf.block _ (by omega)).trans K1.out)
  clear ob hbf
  go_simp
  obtain ⟨d9, -⟩ := cellR (v := .slice A2 s.tabs.length k2) L.out 9 rfl
  go_wp2_with fail
  refine (putTabs_any _ s.tabs _ (HCL.out _ C.out).2.1 (by omega)).mono ?_
  rintro e x1 ⟨v1, rfl, o1, b1⟩
  have zb1 := b1.size
  have L := Lib.hid ((b1.block _ (by have := C.out.size; omega)).trans L.out)
  have P := Lib.hid ((show OB _ w1.heap.size _ _ from P.out).below b1)
  have C := Lib.hid (C.out.trans (b1.mono C.out.size))
  have zc1 := C.out.size
  have N := Lib.hid o1
  obtain ⟨E1, f1, hv, -, -⟩ := o1.sl.form
  subst hv
  clear d9 o1 b1
  go_wp2_with (at_builtin; refine wpl_app _ rfl (.tmp 34) (.tmp 37) rfl w1.heap.size _ _ _ _ _ rfl rfl P.out N.out.bs (by omega) (by omega) ?_; intro y1 u1 ho hg hb hat; rw [HM.out.2.1] at ho; have P := Lib.hid ho; have C := Lib.hid (C.out.trans hb); have L := Lib.hid ((hb.block _ (by omega)).trans L.out); have zu1 := hb.size; obtain ⟨G1, g1, hv, -, -⟩ := ho.sl.form; subst hv; obtain ⟨d2, -⟩ := cellR (v := .slice A1 s.cells.length kk1) L.out 2 rfl; clear ho hg hb hat)
  refine (putCells_any _ s.cells _ (HCL.out _ C.out).2.2.1 (by omega) HR.out.cells.2.1).mono ?_
  rintro e x2 ⟨v2, rfl, o1, b1⟩
  have zb2 := b1.size
  have L := Lib.hid ((b1.block _ (by have := C.out.size; omega)).trans L.out)
  have P := Lib.hid ((show OB _ w1.heap.size _ _ from P.out).below b1)
  have C := Lib.hid (C.out.trans (b1.mono C.out.size))
  have zc2 := C.out.size
  have N := Lib.hid o1
  obtain ⟨E2, f2, hv, -, -⟩ := o1.sl.form
  subst hv
  clear d2 o1 b1
  cases halt : s.alt
  focus
   have hM3 := HM.out.2.2.2.1
   rw [show otherB s = [] by simp [otherB, halt], List.append_nil] at hM3
   have HF := Lib.hid (show M2 ++ parserB s.p = snapL s by have h := snap_parts s; rw [HM.out.1, HM.out.2.1, HM.out.2.2.1, HM.out.2.2.2.1, ← hM3] at h; exact h)
   clear hM3
   go_wp2_with (at_builtin; refine wpl_app _ rfl (.tmp 39) (.tmp 42) rfl w1.heap.size _ _ _ _ _ rfl rfl P.out N.out.bs (by omega) (by omega) ?_; intro y2 u2 ho hg hb hat; rw [HM.out.2.2.1] at ho; have P := Lib.hid ho; have C := Lib.hid (C.out.trans hb); have L := Lib.hid ((hb.block _ (by omega)).trans L.out); have zu2 := hb.size; obtain ⟨G2, g2, hv, -, -⟩ := ho.sl.form; subst hv; obtain ⟨d15, -⟩ := cellR (v := .bool s.alt) L.out 15 rfl; obtain ⟨d19, -⟩ := cellR (v := .int .i64 (s.p.mode : Int)) L.out 19 rfl; obtain ⟨d20, -⟩ := cellR (v := .int .u8 (s.p.priv : Int)) L.out 20 rfl; obtain ⟨d21, -⟩ := cellR (v := .slice A4 s.p.params.length k4) L.out 21 rfl; obtain ⟨d22, -⟩ := cellR (v := .slice A5 s.p.inter.length k5) L.out 22 rfl; obtain ⟨d23, -⟩ := cellR (v := .slice A6 s.p.utf.length k6) L.out 23 rfl; rw [halt] at d15; clear ho hg hb hat)
  rotate_left
  focus
   go_wp2_with (at_builtin; refine wpl_app _ rfl (.tmp 39) (.tmp 42) rfl w1.heap.size _ _ _ _ _ rfl rfl P.out N.out.bs (by omega) (by omega) ?_; intro y2 u2 ho hg hb hat; rw [HM.out.2.2.1] at ho; have P := Lib.hid ho; have C := Lib.hid (C.out.trans hb); have L := Lib.hid ((hb.block _ (by omega)).trans L.out); have zu2 := hb.size; obtain ⟨G2, g2, hv, -, -⟩ := ho.sl.form; subst hv; obtain ⟨d15, -⟩ := cellR (v := .bool s.alt) L.out 15 rfl; obtain ⟨d17, -⟩ := cellR (v := .int .i64 s.oy) L.out 17 rfl; obtain ⟨d18, -⟩ := cellR (v := .int .i64 s.ox) L.out 18 rfl; rw [halt] at d15; clear ho hg hb hat)
   have hlit := IS.lit u2 [s.oy, s.ox] 2 _ 3 rfl rfl (by simp)
   refine (putNumbers_any _ [s.oy, s.ox] _ (hlit.more (by simp)) (by simp) (by simp; omega)).mono ?_
   rintro e x3 ⟨v3, rfl, o1, b1⟩
   have zb3 := b1.size
   have hzz : (u2.alloc (.cells #[.int .i64 s.oy, .int .i64 s.ox] 3)).heap.size = u2.heap.size + 1 := by simp
   have bA : Below u2.heap.size u2 x3 := ((Below.refl _ _).alloc (Nat.le_refl _) _).trans (b1.mono (by simp))
   have L := Lib.hid ((bA.block _ (by have := C.out.size; omega)).trans L.out)
   have P := Lib.hid ((show OB _ w1.heap.size _ _ from P.out).below bA)
   have C := Lib.hid (C.out.trans (bA.mono C.out.size))
   have zc3 := C.out.size
   have N := Lib.hid (show OB _ _ _ (snumL [s.oy.toNat, s.ox.toNat]) from o1)
   obtain ⟨E3, f3, hv, -, -⟩ := o1.sl.form
   subst hv
   have HN5 := Lib.hid n5
   have n9 : (snumL ([s.oy, s.ox].map Int.toNat)).length ≤ 20 := n5
   clear d17 d18 o1 b1 bA hlit
   generalize hZ5 : snumL [s.oy.toNat, s.ox.toNat] = Z5 at *
   have HZ5 := Lib.hid hZ5
   clear hZ5
   have n9 : Z5.length ≤ 20 := HN5.out
   go_wp2_with (at_builtin; refine wpl_app _ rfl (.tmp 46) (.tmp 52) rfl w1.heap.size _ _ _ _ _ rfl rfl P.out N.out.bs (by omega) (by omega) ?_; intro y3 u3 ho hg hb hat; rw [HM.out.2.2.2.2] at ho; have P := Lib.hid ho; have C := Lib.hid (C.out.trans hb); have L := Lib.hid ((hb.block _ (by omega)).trans L.out); have zu3 := hb.size; obtain ⟨G3, g3, hv, -, -⟩ := ho.sl.form; subst hv; obtain ⟨d16, -⟩ := cellR (v := .slice A3 s.other.length k3) L.out 16 rfl; clear ho hg hb hat)
   refine (putCells_any _ s.other _ (HCL.out _ C.out).2.2.2.1 (by omega) (HR.out.other halt).2.1).mono ?_
   rintro e x4 ⟨v4, rfl, o1, b1⟩
   have zb4 := b1.size
   have L := Lib.hid ((b1.block _ (by have := C.out.size; omega)).trans L.out)
   have P := Lib.hid ((show OB _ w1.heap.size _ _ from P.out).below b1)
   have C := Lib.hid (C.out.trans (b1.mono C.out.size))
   have zc4 := C.out.size
   have N := Lib.hid o1
   obtain ⟨E4, f4, hv, -, -⟩ := o1.sl.form
   subst hv
   clear d16 o1 b1
   have HO := Lib.hid (show N0 ++ bytL s.other = M3 by have h1 := HM.out.2.2.2.1; have h2 := HM.out.2.2.2.2; rw [show otherB s = Z5 ++ bytL s.other by rw [← HZ5.out]; simp [otherB, halt], ← List.append_assoc, h2] at h1; exact h1)
   have HF := Lib.hid (show M3 ++ parserB s.p = snapL s by have h := snap_parts s; rw [HM.out.1, HM.out.2.1, HM.out.2.2.1, HM.out.2.2.2.1] at h; exact h)
   go_wp2_with (at_builtin; refine wpl_app _ rfl (.tmp 54) (.tmp 57) rfl w1.heap.size _ _ _ _ _ rfl rfl P.out N.out.bs (by omega) (by omega) ?_; intro y4 u4 ho hg hb hat; rw [HO.out] at ho; have P := Lib.hid ho; have C := Lib.hid (C.out.trans hb); have L := Lib.hid ((hb.block _ (by omega)).trans L.out); have zu4 := hb.size; obtain ⟨G4, g4, hv, -, -⟩ := ho.sl.form; subst hv; obtain ⟨d19, -⟩ := cellR (v := .int .i64 (s.p.mode : Int)) L.out 19 rfl; obtain ⟨d20, -⟩ := cellR (v := .int .u8 (s.p.priv : Int)) L.out 20 rfl; obtain ⟨d21, -⟩ := cellR (v := .slice A4 s.p.params.length k4) L.out 21 rfl; obtain ⟨d22, -⟩ := cellR (v := .slice A5 s.p.inter.length k5) L.out 22 rfl; obtain ⟨d23, -⟩ := cellR (v := .slice A6 s.p.utf.length k6) L.out 23 rfl; clear ho hg hb hat)
  all_goals
   have hs9 := (HCL.out _ C.out).2.2.2.2
   refine (putParser_any s.p _ _ _ S _ (HCL.out _ C.out).1 hs9.2.2.2.1 hs9.2.2.2.2.1 hs9.2.2.2.2.2 HR.out.p).mono ?_
   rintro e x9 ⟨v9, rfl, o1, b1⟩
   have P := Lib.hid ((show OB _ w1.heap.size _ _ from P.out).below b1)
   have C := Lib.hid (C.out.trans (b1.mono C.out.size))
   have zc9 := C.out.size
   have zb9 := b1.size
   have N := Lib.hid o1
   obtain ⟨E9, f9, hv, -, -⟩ := o1.sl.form
   subst hv
   clear o1 b1 hs9
   go_wp2_with (at_builtin; refine wpl_app _ rfl (.tmp 59) (.tmp 62) rfl w1.heap.size _ _ _ _ _ rfl rfl P.out N.out.bs (by omega) (by omega) ?_; intro y9 u9 ho hg hb hat; rw [HF.out] at ho)
   go_ret2
   exact ⟨_, _, rfl, B1.out.trans ((C.out.trans hb).mono (by omega)), .inl ⟨HR.out, rfl, own_lowS ho (by omega)⟩⟩
@[reducible] def fixV (m : Int) (s : Sc) : Array Value := #[.int .i64 s.rows, .int .i64 s.cols, .int .i64 s.y, .int .i64 s.x, .bool s.wrap, .bool s.auto, .bool s.shown, .bool s.alt, .int .u16 (s.attr : Int), .int .u16 (s.sattr : Int), .int .i64 s.top, .int .i64 s.bottom, .int .i64 s.sy, .int .i64 s.sx, .int .i64 s.oy, .int .i64 s.ox, .int .i64 m, .int .u8 (s.p.priv : Int)]
theorem fixSize : (Tryz.prog.info? 61).map (·.size) = some 18 := by kernel_rfl
theorem resultF {fn : Func} {p : Tmp} (h : fn.results = #[.cell p 61]) {tmps : Array Value} {w : World} {g : Nat} {xs : Array Value} (ht : tmps.getD p undef = .pointer (some ⟨g, 0, none⟩)) (hg : w.heap[g]? = some (.cells xs 61)) (hn : xs.size = 18) :
  (results fn tmps).run Tryz.prog w = .ok (.agg xs) w := by
 simp only [results, h]
 have := run_loadVar_row (P := Tryz.prog) w g _ 61 xs (0, 0) _ hg Tryz.underlying61 rfl (by rw [fixSize, hn])
 have ht2 : tmps[p]?.getD undef = .pointer (some ⟨g, 0, none⟩) := by simpa using ht
 simp [ht2, asAddr, this]
theorem fixedOf_any (s : Sc) (m : Int) (A1 A2 A3 A4 A5 A6 : Option Addr) (n1 n2 n3 n4 n5 n6 k1 k2 k3 k4 k5 k6 : Nat) (w : World) : Calls Tryz.prog 29 #[.agg (vNq m s A1 A2 A3 A4 A5 A6 n1 n2 n3 n4 n5 n6 k1 k2 k3 k4 k5 k6)] w fun e w' => e = .returned (.agg (fixV m s)) ∧ Below w.heap.size w w' := by
 have hb0 : (w.alloc (.cells (vNq m s A1 A2 A3 A4 A5 A6 n1 n2 n3 n4 n5 n6 k1 k2 k3 k4 k5 k6) 30)).heap[w.heap.size]? = some (.cells (vNq m s A1 A2 A3 A4 A5 A6 n1 n2 n3 n4 n5 n6 k1 k2 k3 k4 k5 k6) 30) := heap_one w _
 go_enter Tryz.func29, Tryz.ntmps29
 go_wp2
 refine bodyPost_ret (v := .agg (fixV m s)) (resultF Tryz.results29 rfl (two_keptB (w := w) (x := .cells (vNq m s A1 A2 A3 A4 A5 A6 n1 n2 n3 n4 n5 n6 k1 k2 k3 k4 k5 k6) 30) (y := .cells (fixV m s) 61) (Below.refl _ _)).2 rfl) rfl ⟨rfl, (two_new w _ _).1⟩
end Go.Proofs.YthncoigjfhmldaaGreat
