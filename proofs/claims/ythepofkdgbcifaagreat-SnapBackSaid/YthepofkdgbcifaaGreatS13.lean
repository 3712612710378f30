/- What is proved here: parts of layer 10's proofs. -/
import Derived.Test.YthepofkdgbcifaaGreatS12
namespace Go.Proofs.YthepofkdgbcifaaGreat
open Go.RowKit
set_option linter.unusedVariables false
set_option linter.unusedSimpArgs false
set_option maxHeartbeats 2000000
set_option maxRecDepth 100000
theorem eraser_big (v : Value) (s : Sc) (r c : Nat) (S : Nat → Prop) (w : World) (hS : ∀ x, S x → x < w.heap.size) (h : SCV w S v s) (hi : ScIn s r c) (row : Bool) (k : Int) (hk : 2 < k) : Calls Tryz.prog 103 #[v, .bool row, .int .i64 k] w (ScPost S { s with wrap := false } w) := by
 have HSS := Lh hS
 clear hS
 obtain ⟨vc, vt, vo, vp, vi, vu, rfl, hs⟩ := h
 have HS := Lh hs
 obtain ⟨A1, kk1, A2, k2, A3, k3, A4, k4, A5, k5, A6, k6, rfl, rfl, rfl, rfl, rfl, rfl, p1, q1, p2, q2, p3, q3, p4, q4, p5, q5, p6, q6⟩ := sslSix hs
 have HI := Lh hi
 obtain ⟨y0, y1, x0, x1, hcl, hrl, c2, r2, hlen⟩ := dIn hi
 obtain ⟨yy, hyy⟩ : ∃ yy : Nat, s.y = yy := ⟨s.y.toNat, by omega⟩
 obtain ⟨xx, hxx⟩ : ∃ xx : Nat, s.x = xx := ⟨s.x.toNat, by omega⟩
 have hm : s.y * s.cols = ((yy * c : Nat) : Int) := by rw [hyy, hcl, Int.natCast_mul]
 have hm1 : (s.y + 1) * s.cols = ((yy * c + c : Nat) : Int) := by rw [Int.add_mul, Int.one_mul, hm, hcl]; omega
 have hle : yy * c + c ≤ s.cells.length := by
  rw [hi.g.n]
  have : (yy + 1) * c ≤ r * c := Nat.mul_le_mul_right _ (by omega)
  rw [Nat.add_mul, Nat.one_mul] at this
  exact this
 have hpos : 0 < s.cells.length := by rw [hi.g.n]; exact Nat.mul_pos hi.g.r1 hi.g.c1
 have m0 : 0 ≤ s.y * s.cols := by omega
 have m1 : s.y * s.cols ≤ 1000000 := by omega
 have m2 : 0 ≤ (s.y + 1) * s.cols := by omega
 have m3 : (s.y + 1) * s.cols ≤ 1000000 := by omega
 have c3 : s.cols ≤ 1000 := by omega
 have c4 : s.x < s.cols := by omega
 have HM := Lh hm
 have HM1 := Lh hm1
 have HY := Lh hyy
 have HX := Lh hxx
 have HCL := Lh hcl
 clear hi hcl hrl hm hm1 hyy hxx
 go_enter Tryz.func103, Tryz.ntmps103
 go_upto_region 3 with fail
 refine wp_region_lit ?_
 refine wpl_loadS rfl (.tmp 3) rfl rfl (heap_a1 w _ _) rfl ?_
 refine wpl_storeS rfl (.tmp 6) (.tmp 14) rfl rfl rfl (heap_a2 w _ _) rfl rfl all25 ?_
 go_wp2
 refine scEnd (w.heap.size + 1) 6 Tryz.results103 ?_ ?_ (heap_a2 w _ _) (by omega) (two_new w _ _).1 HSS.out (HS.out.like ?_ ?_ ?_ ?_)
 all_goals rfl
theorem OC.other {w : World} {base : Nat} {v : Value} {l : List Cl} (h : OC w base v l) (a : Addr) (x : Value) (ha : a.block < base) : OC (w.setCell a x) base v l := by
 unfold OC at h ⊢
 refine World.ownsRow.kept h (row := some a.block) ⟨rfl, rfl, rfl, by simp, fun k _ hk => heap_setCell_other w a k x (fun e => hk (by simp [e]))⟩ ?_
 cases hv : v.ownBlock with
 | none => exact Or.inl rfl
 | some k =>
  have := (World.ownsRow.lt h k hv).1
  refine Or.inr ?_
  simp
  omega
def EraseRel (l : List Cl) (lo hi : Nat) (w : World) (base g cap : Nat) (W5 : World) (i : Value) (wr : World) : Prop :=
 ∃ j : Nat, lo ≤ j ∧ j ≤ hi ∧ i = .int .i64 (j : Int) ∧ OC wr base (.slice (some ⟨g, 0, none⟩) l.length cap) (fillL l (fun _ => blankC) lo j) ∧ (∀ b, b < base → wr.heap[b]? = W5.heap[b]?) ∧ W5.heap.size ≤ wr.heap.size ∧ Below w.heap.size w wr
theorem eraser_r0 (v : Value) (s : Sc) (r c : Nat) (S : Nat → Prop) (w : World) (hS : ∀ x, S x → x < w.heap.size) (h : SCV w S v s) (hi : ScIn s r c) (lo he : Nat) (hlo : s.y * s.cols + s.x = (lo : Int)) (hhi : (s.y + 1) * s.cols = (he : Int)) : Calls Tryz.prog 103 #[v, .bool true, .int .i64 0] w (ScPost S { s with wrap := false, cells := mendL (fillL s.cells (fun _ => blankC) lo he) s.cols s.y } w) := by
 have HSS := Lh hS
 clear hS
 obtain ⟨vc, vt, vo, vp, vi, vu, rfl, hs⟩ := h
 have HS := Lh hs
 obtain ⟨A1, kk1, A2, k2, A3, k3, A4, k4, A5, k5, A6, k6, rfl, rfl, rfl, rfl, rfl, rfl, p1, q1, p2, q2, p3, q3, p4, q4, p5, q5, p6, q6⟩ := sslSix hs
 have HI := Lh hi
 obtain ⟨y0, y1, x0, x1, hcl, hrl, c2, r2, hlen⟩ := dIn hi
 obtain ⟨yy, hyy⟩ : ∃ yy : Nat, s.y = yy := ⟨s.y.toNat, by omega⟩
 obtain ⟨xx, hxx⟩ : ∃ xx : Nat, s.x = xx := ⟨s.x.toNat, by omega⟩
 have hm : s.y * s.cols = ((yy * c : Nat) : Int) := by rw [hyy, hcl, Int.natCast_mul]
 have hm1 : (s.y + 1) * s.cols = ((yy * c + c : Nat) : Int) := by rw [Int.add_mul, Int.one_mul, hm, hcl]; omega
 have hle : yy * c + c ≤ s.cells.length := by
  rw [hi.g.n]
  have : (yy + 1) * c ≤ r * c := Nat.mul_le_mul_right _ (by omega)
  rw [Nat.add_mul, Nat.one_mul] at this
  exact this
 have hpos : 0 < s.cells.length := by rw [hi.g.n]; exact Nat.mul_pos hi.g.r1 hi.g.c1
 have m0 : 0 ≤ s.y * s.cols := by omega
 have m1 : s.y * s.cols ≤ 1000000 := by omega
 have m2 : 0 ≤ (s.y + 1) * s.cols := by omega
 have m3 : (s.y + 1) * s.cols ≤ 1000000 := by omega
 have c3 : s.cols ≤ 1000 := by omega
 have c4 : s.x < s.cols := by omega
 have HM := Lh hm
 have HM1 := Lh hm1
 have HY := Lh hyy
 have HX := Lh hxx
 have HCL := Lh hcl
 clear hi hcl hrl hm hm1 hyy hxx
 have hlh : lo ≤ he := by have := HM.out; have := HM1.out; have := HX.out; have := HCL.out; omega
 have hhl : he ≤ s.cells.length := by have := HM.out; have := HM1.out; have := HX.out; have := HCL.out; omega
 have HLO := Lh hlo
 have HHI := Lh hhi
 clear hlo hhi
 have w1 : IntKind.i64.wrap (s.y * s.cols) = s.y * s.cols := IntWalk.i64_in _ (by omega)
 have w2 : IntKind.i64.wrap (s.y + 1) = s.y + 1 := IntWalk.i64_in _ (by omega)
 have w3 : IntKind.i64.wrap ((s.y + 1) * s.cols) = (s.y + 1) * s.cols := IntWalk.i64_in _ (by omega)
 go_enter Tryz.func103, Tryz.ntmps103
 go_upto_region 4 with fail
 go_quiet (fail)
 go_upto_region 6 with fail
 go_quiet (fail)
 clear w1 w2 w3
 go_upto_region 13 with fail
 generalize hW2 : World.drewN _ _ = W2
 have k0 : W2.heap[w.heap.size]? = some (.cells (vA s A1 A2 A3 A4 A5 A6 kk1 k2 k3 k4 k5 k6) 30) := by rw [← hW2]; exact heap_a1 w _ _
 have k1 : W2.heap[w.heap.size + 1]? = some (.cells zQ 30) := by rw [← hW2]; exact heap_a2 w _ _
 have z2 : W2.heap.size = w.heap.size + 1 + 1 := by rw [← hW2]; exact (two_new w _ _).2
 have b2 : Below w.heap.size w W2 := by rw [← hW2]; exact below_drewN (two_new w _ _).1 _
 obtain ⟨d2, e2⟩ := cellR (v := .slice A1 s.cells.length kk1) k0 2 rfl
 have HC := Lh (HS.out.1.cs' HSS.out b2 (Nat.le_refl _))
 have K0 := Lh k0
 have K1 := Lh k1
 have Z2 := Lh z2
 have B2 := Lh b2
 clear k0 k1 z2 b2 hW2
 go_upto_region 14 with fail
 ((with_reducible refine (own_any _ s.cells _ HC.out (by omega)).mono ?_); rintro e w4 ⟨v4, rfl, o4, b4⟩)
 obtain ⟨gc, cap, rfl, hg1, hg2, hg3, hg4⟩ := o4.open_ hpos
 have z4 := b4.size
 rw [Z2.out] at hg1 o4 z4
 have k4 : w4.heap[w.heap.size]? = _ := (b4.block _ (by rw [Z2.out]; omega)).trans K0.out
 have k41 : w4.heap[w.heap.size + 1]? = _ := (b4.block _ (by rw [Z2.out]; omega)).trans K1.out
 obtain ⟨f2, i2⟩ := cellR (v := .slice A1 s.cells.length kk1) k4 2 rfl
 obtain ⟨f5, i5⟩ := cellR (v := .bool s.wrap) k4 5 rfl
 have B4 := Lh (B2.out.trans (b4.mono (by rw [Z2.out]; omega)))
 have O4 := Lh o4
 have K4 := Lh k4
 have K41 := Lh k41
 clear o4 b4 k4 k41 d2 e2
 go_upto_region 14 with fail
 generalize hW5 : World.setCell _ _ _ = W5
 have k5 : W5.heap[w.heap.size]? = some (.cells (vS { s with wrap := false } (.slice (some ⟨gc, 0, none⟩) s.cells.length cap) (.slice A2 s.tabs.length k2) (.slice A3 s.other.length k3) (.slice A4 s.p.params.length k4) (.slice A5 s.p.inter.length k5) (.slice A6 s.p.utf.length k6)) 30) := by rw [← hW5]; exact (heap_setCell_same _ _ 5 _ _ _ ((heap_setCell_same _ _ 2 _ _ _ K4.out).trans rfl)).trans rfl
 have k51 : W5.heap[w.heap.size + 1]? = some (.cells zQ 30) := by rw [← hW5]; exact (heap_setCell_other _ _ _ _ (by simp)).trans ((heap_setCell_other _ _ _ _ (by simp)).trans K41.out)
 have o5 : OC W5 (w.heap.size + 1 + 1) (.slice (some ⟨gc, 0, none⟩) s.cells.length cap) s.cells := by rw [← hW5]; exact (O4.out.other _ _ (by simp; omega)).other _ _ (by simp; omega)
 have z5 : W5.heap.size = w4.heap.size := by rw [← hW5]; simp
 have b5 : Below w.heap.size w W5 := by rw [← hW5]; exact (B4.out.setCell (by simp) _).setCell (by simp) _
 have K5 := Lh k5
 have K51 := Lh k51
 have O5 := Lh o5
 have Z5 := Lh z5
 have B5 := Lh b5
 clear f2 i2 f5 i5 k5 k51 o5 z5 b5 hW5
 rw [HLO.out, HHI.out]
 go_wp2
 go_loopw [10] (fun i wr => EraseRel s.cells lo he w (w.heap.size + 1 + 1) gc cap W5 i wr) (fun i _ => he - (intOf i).toNat)
 case atStart => exact ⟨lo, Nat.le_refl _, hlh, rfl, by rw [fillL_none _ _ _ _ (Nat.le_refl _)]; exact O5.out, fun _ _ => rfl, Nat.le_refl _, B5.out⟩
 case round =>
  generalize wr = w6 at *
  obtain ⟨j, hj1, hj2, rfl, ho, hk, hz, hb⟩ := hrel
  have k6 := (hk w.heap.size (by omega)).trans K5.out
  have k61 := (hk (w.heap.size + 1) (by omega)).trans K51.out
  have z6 := hb.size
  have g6 := ho.block.2
  have HO6 := Lh ho
  have HK6 := Lh hk
  have HZ6 := Lh hz
  have HB6 := Lh hb
  have K6 := Lh k6
  have K61 := Lh k61
  clear ho hk hz hb k6 k61
  by_cases hlt : j < he
  ·have hjl : j < s.cells.length := by omega
   obtain ⟨c2', i2'⟩ := cellR (w := w6.drew) (v := .slice (some ⟨gc, 0, none⟩) s.cells.length cap) K6.out 2 rfl
   have hO6d : OC w6.drew (w.heap.size + 1 + 1) (.slice (some ⟨gc, 0, none⟩) s.cells.length cap) (fillL s.cells (fun _ => blankC) lo j) := HO6.out
   have HO6d := Lh hO6d
   have hd : w.heap.size < w6.drew.heap.size := by show w.heap.size < w6.heap.size; omega
   clear hO6d
   go_wp2
   go_region_with ((with_reducible refine (blank_any _).mono ?_); rintro e w7 ⟨rfl, hw7⟩; have H7 := Lh (HO6d.out.below hw7); have HW7 := Lh hw7; have z7 := hw7.size; have c27 := (hw7.cell (p := ⟨w.heap.size, 2, none⟩) hd).trans c2'; obtain ⟨q0, q1, q2, s0, s1, s2, t0, t1, t2⟩ := (HO6d.out.below hw7).spot j hjl; clear hw7)
   all_goals
    go_wp2
    go_roundw
    case rel =>
     have z7' : w6.heap.size ≤ w7.heap.size := z7
     refine ⟨j + 1, by omega, by omega, by go_num, ?_, fun b hb => ?_, ?_, below_put (HB6.out.drew.trans (HW7.out.mono (by show w.heap.size ≤ w6.heap.size; omega))) (by omega) _ _ _ _⟩
     ·have := H7.out.put j hjl blankC
      rw [fillL_set _ _ _ _ _ hj1 rfl] at this
      exact this
     ·rw [heap_setCell_other _ _ _ _ (by simp; omega), heap_setCell_other _ _ _ _ (by simp; omega), heap_setCell_other _ _ _ _ (by simp; omega)]
      exact (HW7.out.block b (by show b < w6.heap.size; omega)).trans (HK6.out b hb)
     ·have := HZ6.out
      simp
      omega
    case measure => simp [intOf]; omega
  ·obtain rfl : he = j := by omega
   obtain ⟨a1, n1⟩ := cellR (v := .int .i64 s.cols) K6.out 1 rfl
   obtain ⟨a2, n2⟩ := cellR (v := .slice (some ⟨gc, 0, none⟩) s.cells.length cap) K6.out 2 rfl
   obtain ⟨a3, n3⟩ := cellR (v := .int .i64 s.y) K6.out 3 rfl
   have HM6 := Lh HO6.out.cs
   go_upto_region 19 with fail
   ((with_reducible refine (Mend_any _ (fillL s.cells (fun _ => blankC) lo he) s.cols s.y _ HM6.out (by rw [fillL_len]; omega)).mono ?_); rintro e w8 ⟨v8, rfl, o8, b8⟩)
   have z8 := b8.size
   have k8 : w8.heap[w.heap.size]? = _ := (b8.block _ (by omega)).trans K6.out
   have k81 : w8.heap[w.heap.size + 1]? = _ := (b8.block _ (by omega)).trans K61.out
   obtain ⟨f2, i2⟩ := cellR (v := .slice (some ⟨gc, 0, none⟩) s.cells.length cap) k8 2 rfl
   obtain ⟨A8, q8, rfl, p8, r8⟩ := o8.cs.form
   have B8 := Lh (HB6.out.trans (b8.mono (by omega)))
   have O8 := Lh (o8.lower (b2 := w.heap.size + 1 + 1) (by omega))
   have K8 := Lh k8
   have K81 := Lh k81
   clear o8 b8 k8 k81 a1 n1 a2 n2 a3 n3
   go_upto_region 19 with fail
   refine wp_region_lit ?_
   refine wpl_loadS rfl (.tmp 3) rfl rfl ((heap_setCell_same _ _ 2 _ _ _ K8.out).trans rfl) rfl ?_
   refine wpl_storeS rfl (.tmp 6) (.tmp 70) rfl rfl rfl ((heap_setCell_other _ _ _ _ (by simp)).trans K81.out) rfl rfl all25 ?_
   go_wp2
   refine scEndC (s0 := s) (w.heap.size + 1) 6 Tryz.results103 ?_ ?_ ((heap_setCell_other _ _ _ _ (by simp)).trans K81.out) (by omega) (B8.out.setCell (by simp) _) HSS.out HS.out ?_ ?_ ?_ (w.heap.size + 1 + 1) (by omega) O8.out (fun b hb => heap_setCell_other _ _ _ _ (by simp; omega)) (by simp)
   all_goals rfl
theorem eraser_r1 (v : Value) (s : Sc) (r c : Nat) (S : Nat → Prop) (w : World) (hS : ∀ x, S x → x < w.heap.size) (h : SCV w S v s) (hi : ScIn s r c) (lo he : Nat) (hlo : s.y * s.cols = (lo : Int)) (hhi : s.y * s.cols + s.x + 1 = (he : Int)) : Calls Tryz.prog 103 #[v, .bool true, .int .i64 1] w (ScPost S { s with wrap := false, cells := mendL (fillL s.cells (fun _ => blankC) lo he) s.cols s.y } w) := by
 have HSS := Lh hS
 clear hS
 obtain ⟨vc, vt, vo, vp, vi, vu, rfl, hs⟩ := h
 have HS := Lh hs
 obtain ⟨A1, kk1, A2, k2, A3, k3, A4, k4, A5, k5, A6, k6, rfl, rfl, rfl, rfl, rfl, rfl, p1, q1, p2, q2, p3, q3, p4, q4, p5, q5, p6, q6⟩ := sslSix hs
 have HI := Lh hi
 obtain ⟨y0, y1, x0, x1, hcl, hrl, c2, r2, hlen⟩ := dIn hi
 obtain ⟨yy, hyy⟩ : ∃ yy : Nat, s.y = yy := ⟨s.y.toNat, by omega⟩
 obtain ⟨xx, hxx⟩ : ∃ xx : Nat, s.x = xx := ⟨s.x.toNat, by omega⟩
 have hm : s.y * s.cols = ((yy * c : Nat) : Int) := by rw [hyy, hcl, Int.natCast_mul]
 have hm1 : (s.y + 1) * s.cols = ((yy * c + c : Nat) : Int) := by rw [Int.add_mul, Int.one_mul, hm, hcl]; omega
 have hle : yy * c + c ≤ s.cells.length := by
  rw [hi.g.n]
  have : (yy + 1) * c ≤ r * c := Nat.mul_le_mul_right _ (by omega)
  rw [Nat.add_mul, Nat.one_mul] at this
  exact this
 have hpos : 0 < s.cells.length := by rw [hi.g.n]; exact Nat.mul_pos hi.g.r1 hi.g.c1
 have m0 : 0 ≤ s.y * s.cols := by omega
 have m1 : s.y * s.cols ≤ 1000000 := by omega
 have m2 : 0 ≤ (s.y + 1) * s.cols := by omega
 have m3 : (s.y + 1) * s.cols ≤ 1000000 := by omega
 have c3 : s.cols ≤ 1000 := by omega
 have c4 : s.x < s.cols := by omega
 have HM := Lh hm
 have HM1 := Lh hm1
 have HY := Lh hyy
 have HX := Lh hxx
 have HCL := Lh hcl
 clear hi hcl hrl hm hm1 hyy hxx
 have hlh : lo ≤ he := by have := HM.out; have := HM1.out; have := HX.out; have := HCL.out; omega
 have hhl : he ≤ s.cells.length := by have := HM.out; have := HM1.out; have := HX.out; have := HCL.out; omega
 have HLO := Lh hlo
 have HHI := Lh hhi
 clear hlo hhi
 have w1 : IntKind.i64.wrap (s.y * s.cols) = s.y * s.cols := IntWalk.i64_in _ (by omega)
 have w2 : IntKind.i64.wrap (s.y + 1) = s.y + 1 := IntWalk.i64_in _ (by omega)
 have w3 : IntKind.i64.wrap ((s.y + 1) * s.cols) = (s.y + 1) * s.cols := IntWalk.i64_in _ (by omega)
 go_enter Tryz.func103, Tryz.ntmps103
 go_upto_region 4 with fail
 go_quiet (fail)
 go_upto_region 6 with fail
 go_quiet (fail)
 clear w1 w2 w3
 go_upto_region 13 with fail
 generalize hW2 : World.drewN _ _ = W2
 have k0 : W2.heap[w.heap.size]? = some (.cells (vA s A1 A2 A3 A4 A5 A6 kk1 k2 k3 k4 k5 k6) 30) := by rw [← hW2]; exact heap_a1 w _ _
 have k1 : W2.heap[w.heap.size + 1]? = some (.cells zQ 30) := by rw [← hW2]; exact heap_a2 w _ _
 have z2 : W2.heap.size = w.heap.size + 1 + 1 := by rw [← hW2]; exact (two_new w _ _).2
 have b2 : Below w.heap.size w W2 := by rw [← hW2]; exact below_drewN (two_new w _ _).1 _
 obtain ⟨d2, e2⟩ := cellR (v := .slice A1 s.cells.length kk1) k0 2 rfl
 have HC := Lh (HS.out.1.cs' HSS.out b2 (Nat.le_refl _))
 have K0 := Lh k0
 have K1 := Lh k1
 have Z2 := Lh z2
 have B2 := Lh b2
 clear k0 k1 z2 b2 hW2
 go_upto_region 14 with fail
 ((with_reducible refine (own_any _ s.cells _ HC.out (by omega)).mono ?_); rintro e w4 ⟨v4, rfl, o4, b4⟩)
 obtain ⟨gc, cap, rfl, hg1, hg2, hg3, hg4⟩ := o4.open_ hpos
 have z4 := b4.size
 rw [Z2.out] at hg1 o4 z4
 have k4 : w4.heap[w.heap.size]? = _ := (b4.block _ (by rw [Z2.out]; omega)).trans K0.out
 have k41 : w4.heap[w.heap.size + 1]? = _ := (b4.block _ (by rw [Z2.out]; omega)).trans K1.out
 obtain ⟨f2, i2⟩ := cellR (v := .slice A1 s.cells.length kk1) k4 2 rfl
 obtain ⟨f5, i5⟩ := cellR (v := .bool s.wrap) k4 5 rfl
 have B4 := Lh (B2.out.trans (b4.mono (by rw [Z2.out]; omega)))
 have O4 := Lh o4
 have K4 := Lh k4
 have K41 := Lh k41
 clear o4 b4 k4 k41 d2 e2
 go_upto_region 14 with fail
 generalize hW5 : World.setCell _ _ _ = W5
 have k5 : W5.heap[w.heap.size]? = some (.cells (vS { s with wrap := false } (.slice (some ⟨gc, 0, none⟩) s.cells.length cap) (.slice A2 s.tabs.length k2) (.slice A3 s.other.length k3) (.slice A4 s.p.params.length k4) (.slice A5 s.p.inter.length k5) (.slice A6 s.p.utf.length k6)) 30) := by rw [← hW5]; exact (heap_setCell_same _ _ 5 _ _ _ ((heap_setCell_same _ _ 2 _ _ _ K4.out).trans rfl)).trans rfl
 have k51 : W5.heap[w.heap.size + 1]? = some (.cells zQ 30) := by rw [← hW5]; exact (heap_setCell_other _ _ _ _ (by simp)).trans ((heap_setCell_other _ _ _ _ (by simp)).trans K41.out)
 have o5 : OC W5 (w.heap.size + 1 + 1) (.slice (some ⟨gc, 0, none⟩) s.cells.length cap) s.cells := by rw [← hW5]; exact (O4.out.other _ _ (by simp; omega)).other _ _ (by simp; omega)
 have z5 : W5.heap.size = w4.heap.size := by rw [← hW5]; simp
 have b5 : Below w.heap.size w W5 := by rw [← hW5]; exact (B4.out.setCell (by simp) _).setCell (by simp) _
 have K5 := Lh k5
 have K51 := Lh k51
 have O5 := Lh o5
 have Z5 := Lh z5
 have B5 := Lh b5
 clear f2 i2 f5 i5 k5 k51 o5 z5 b5 hW5
 rw [HHI.out, HLO.out]
 go_wp2
 go_loopw [10] (fun i wr => EraseRel s.cells lo he w (w.heap.size + 1 + 1) gc cap W5 i wr) (fun i _ => he - (intOf i).toNat)
 case atStart => exact ⟨lo, Nat.le_refl _, hlh, rfl, by rw [fillL_none _ _ _ _ (Nat.le_refl _)]; exact O5.out, fun _ _ => rfl, Nat.le_refl _, B5.out⟩
 case round =>
  generalize wr = w6 at *
  obtain ⟨j, hj1, hj2, rfl, ho, hk, hz, hb⟩ := hrel
  have k6 := (hk w.heap.size (by omega)).trans K5.out
  have k61 := (hk (w.heap.size + 1) (by omega)).trans K51.out
  have z6 := hb.size
  have g6 := ho.block.2
  have HO6 := Lh ho
  have HK6 := Lh hk
  have HZ6 := Lh hz
  have HB6 := Lh hb
  have K6 := Lh k6
  have K61 := Lh k61
  clear ho hk hz hb k6 k61
  by_cases hlt : j < he
  ·have hjl : j < s.cells.length := by omega
   obtain ⟨c2', i2'⟩ := cellR (w := w6.drew) (v := .slice (some ⟨gc, 0, none⟩) s.cells.length cap) K6.out 2 rfl
   have hO6d : OC w6.drew (w.heap.size + 1 + 1) (.slice (some ⟨gc, 0, none⟩) s.cells.length cap) (fillL s.cells (fun _ => blankC) lo j) := HO6.out
   have HO6d := Lh hO6d
   have hd : w.heap.size < w6.drew.heap.size := by show w.heap.size < w6.heap.size; omega
   clear hO6d
   go_wp2
   go_region_with ((with_reducible refine (blank_any _).mono ?_); rintro e w7 ⟨rfl, hw7⟩; have H7 := Lh (HO6d.out.below hw7); have HW7 := Lh hw7; have z7 := hw7.size; have c27 := (hw7.cell (p := ⟨w.heap.size, 2, none⟩) hd).trans c2'; obtain ⟨q0, q1, q2, s0, s1, s2, t0, t1, t2⟩ := (HO6d.out.below hw7).spot j hjl; clear hw7)
   all_goals
    go_wp2
    go_roundw
    case rel =>
     have z7' : w6.heap.size ≤ w7.heap.size := z7
     refine ⟨j + 1, by omega, by omega, by go_num, ?_, fun b hb => ?_, ?_, below_put (HB6.out.drew.trans (HW7.out.mono (by show w.heap.size ≤ w6.heap.size; omega))) (by omega) _ _ _ _⟩
     ·have := H7.out.put j hjl blankC
      rw [fillL_set _ _ _ _ _ hj1 rfl] at this
      exact this
     ·rw [heap_setCell_other _ _ _ _ (by simp; omega), heap_setCell_other _ _ _ _ (by simp; omega), heap_setCell_other _ _ _ _ (by simp; omega)]
      exact (HW7.out.block b (by show b < w6.heap.size; omega)).trans (HK6.out b hb)
     ·have := HZ6.out
      simp
      omega
    case measure => simp [intOf]; omega
  ·obtain rfl : he = j := by omega
   obtain ⟨a1, n1⟩ := cellR (v := .int .i64 s.cols) K6.out 1 rfl
   obtain ⟨a2, n2⟩ := cellR (v := .slice (some ⟨gc, 0, none⟩) s.cells.length cap) K6.out 2 rfl
   obtain ⟨a3, n3⟩ := cellR (v := .int .i64 s.y) K6.out 3 rfl
   have HM6 := Lh HO6.out.cs
   go_upto_region 19 with fail
   ((with_reducible refine (Mend_any _ (fillL s.cells (fun _ => blankC) lo he) s.cols s.y _ HM6.out (by rw [fillL_len]; omega)).mono ?_); rintro e w8 ⟨v8, rfl, o8, b8⟩)
   have z8 := b8.size
   have k8 : w8.heap[w.heap.size]? = _ := (b8.block _ (by omega)).trans K6.out
   have k81 : w8.heap[w.heap.size + 1]? = _ := (b8.block _ (by omega)).trans K61.out
   obtain ⟨f2, i2⟩ := cellR (v := .slice (some ⟨gc, 0, none⟩) s.cells.length cap) k8 2 rfl
   obtain ⟨A8, q8, rfl, p8, r8⟩ := o8.cs.form
   have B8 := Lh (HB6.out.trans (b8.mono (by omega)))
   have O8 := Lh (o8.lower (b2 := w.heap.size + 1 + 1) (by omega))
   have K8 := Lh k8
   have K81 := Lh k81
   clear o8 b8 k8 k81 a1 n1 a2 n2 a3 n3
   go_upto_region 19 with fail
   refine wp_region_lit ?_
   refine wpl_loadS rfl (.tmp 3) rfl rfl ((heap_setCell_same _ _ 2 _ _ _ K8.out).trans rfl) rfl ?_
   refine wpl_storeS rfl (.tmp 6) (.tmp 70) rfl rfl rfl ((heap_setCell_other _ _ _ _ (by simp)).trans K81.out) rfl rfl all25 ?_
   go_wp2
   refine scEndC (s0 := s) (w.heap.size + 1) 6 Tryz.results103 ?_ ?_ ((heap_setCell_other _ _ _ _ (by simp)).trans K81.out) (by omega) (B8.out.setCell (by simp) _) HSS.out HS.out ?_ ?_ ?_ (w.heap.size + 1 + 1) (by omega) O8.out (fun b hb => heap_setCell_other _ _ _ _ (by simp; omega)) (by simp)
   all_goals rfl
theorem eraser_r2 (v : Value) (s : Sc) (r c : Nat) (S : Nat → Prop) (w : World) (hS : ∀ x, S x → x < w.heap.size) (h : SCV w S v s) (hi : ScIn s r c) (lo he : Nat) (hlo : s.y * s.cols = (lo : Int)) (hhi : (s.y + 1) * s.cols = (he : Int)) : Calls Tryz.prog 103 #[v, .bool true, .int .i64 2] w (ScPost S { s with wrap := false, cells := mendL (fillL s.cells (fun _ => blankC) lo he) s.cols s.y } w) := by
 have HSS := Lh hS
 clear hS
 obtain ⟨vc, vt, vo, vp, vi, vu, rfl, hs⟩ := h
 have HS := Lh hs
 obtain ⟨A1, kk1, A2, k2, A3, k3, A4, k4, A5, k5, A6, k6, rfl, rfl, rfl, rfl, rfl, rfl, p1, q1, p2, q2, p3, q3, p4, q4, p5, q5, p6, q6⟩ := sslSix hs
 have HI := Lh hi
 obtain ⟨y0, y1, x0, x1, hcl, hrl, c2, r2, hlen⟩ := dIn hi
 obtain ⟨yy, hyy⟩ : ∃ yy : Nat, s.y = yy := ⟨s.y.toNat, by omega⟩
 obtain ⟨xx, hxx⟩ : ∃ xx : Nat, s.x = xx := ⟨s.x.toNat, by omega⟩
 have hm : s.y * s.cols = ((yy * c : Nat) : Int) := by rw [hyy, hcl, Int.natCast_mul]
 have hm1 : (s.y + 1) * s.cols = ((yy * c + c : Nat) : Int) := by rw [Int.add_mul, Int.one_mul, hm, hcl]; omega
 have hle : yy * c + c ≤ s.cells.length := by
  rw [hi.g.n]
  have : (yy + 1) * c ≤ r * c := Nat.mul_le_mul_right _ (by omega)
  rw [Nat.add_mul, Nat.one_mul] at this
  exact this
 have hpos : 0 < s.cells.length := by rw [hi.g.n]; exact Nat.mul_pos hi.g.r1 hi.g.c1
 have m0 : 0 ≤ s.y * s.cols := by omega
 have m1 : s.y * s.cols ≤ 1000000 := by omega
 have m2 : 0 ≤ (s.y + 1) * s.cols := by omega
 have m3 : (s.y + 1) * s.cols ≤ 1000000 := by omega
 have c3 : s.cols ≤ 1000 := by omega
 have c4 : s.x < s.cols := by omega
 have HM := Lh hm
 have HM1 := Lh hm1
 have HY := Lh hyy
 have HX := Lh hxx
 have HCL := Lh hcl
 clear hi hcl hrl hm hm1 hyy hxx
 have hlh : lo ≤ he := by have := HM.out; have := HM1.out; have := HX.out; have := HCL.out; omega
 have hhl : he ≤ s.cells.length := by have := HM.out; have := HM1.out; have := HX.out; have := HCL.out; omega
 have HLO := Lh hlo
 have HHI := Lh hhi
 clear hlo hhi
 have w1 : IntKind.i64.wrap (s.y * s.cols) = s.y * s.cols := IntWalk.i64_in _ (by omega)
 have w2 : IntKind.i64.wrap (s.y + 1) = s.y + 1 := IntWalk.i64_in _ (by omega)
 have w3 : IntKind.i64.wrap ((s.y + 1) * s.cols) = (s.y + 1) * s.cols := IntWalk.i64_in _ (by omega)
 go_enter Tryz.func103, Tryz.ntmps103
 go_upto_region 4 with fail
 go_quiet (fail)
 go_upto_region 6 with fail
 go_quiet (fail)
 clear w1 w2 w3
 go_upto_region 13 with fail
 generalize hW2 : World.drewN _ _ = W2
 have k0 : W2.heap[w.heap.size]? = some (.cells (vA s A1 A2 A3 A4 A5 A6 kk1 k2 k3 k4 k5 k6) 30) := by rw [← hW2]; exact heap_a1 w _ _
 have k1 : W2.heap[w.heap.size + 1]? = some (.cells zQ 30) := by rw [← hW2]; exact heap_a2 w _ _
 have z2 : W2.heap.size = w.heap.size + 1 + 1 := by rw [← hW2]; exact (two_new w _ _).2
 have b2 : Below w.heap.size w W2 := by rw [← hW2]; exact below_drewN (two_new w _ _).1 _
 obtain ⟨d2, e2⟩ := cellR (v := .slice A1 s.cells.length kk1) k0 2 rfl
 have HC := Lh (HS.out.1.cs' HSS.out b2 (Nat.le_refl _))
 have K0 := Lh k0
 have K1 := Lh k1
 have Z2 := Lh z2
 have B2 := Lh b2
 clear k0 k1 z2 b2 hW2
 go_upto_region 14 with fail
 ((with_reducible refine (own_any _ s.cells _ HC.out (by omega)).mono ?_); rintro e w4 ⟨v4, rfl, o4, b4⟩)
 obtain ⟨gc, cap, rfl, hg1, hg2, hg3, hg4⟩ := o4.open_ hpos
 have z4 := b4.size
 rw [Z2.out] at hg1 o4 z4
 have k4 : w4.heap[w.heap.size]? = _ := (b4.block _ (by rw [Z2.out]; omega)).trans K0.out
 have k41 : w4.heap[w.heap.size + 1]? = _ := (b4.block _ (by rw [Z2.out]; omega)).trans K1.out
 obtain ⟨f2, i2⟩ := cellR (v := .slice A1 s.cells.length kk1) k4 2 rfl
 obtain ⟨f5, i5⟩ := cellR (v := .bool s.wrap) k4 5 rfl
 have B4 := Lh (B2.out.trans (b4.mono (by rw [Z2.out]; omega)))
 have O4 := Lh o4
 have K4 := Lh k4
 have K41 := Lh k41
 clear o4 b4 k4 k41 d2 e2
 go_upto_region 14 with fail
 generalize hW5 : World.setCell _ _ _ = W5
 have k5 : W5.heap[w.heap.size]? = some (.cells (vS { s with wrap := false } (.slice (some ⟨gc, 0, none⟩) s.cells.length cap) (.slice A2 s.tabs.length k2) (.slice A3 s.other.length k3) (.slice A4 s.p.params.length k4) (.slice A5 s.p.inter.length k5) (.slice A6 s.p.utf.length k6)) 30) := by rw [← hW5]; exact (heap_setCell_same _ _ 5 _ _ _ ((heap_setCell_same _ _ 2 _ _ _ K4.out).trans rfl)).trans rfl
 have k51 : W5.heap[w.heap.size + 1]? = some (.cells zQ 30) := by rw [← hW5]; exact (heap_setCell_other _ _ _ _ (by simp)).trans ((heap_setCell_other _ _ _ _ (by simp)).trans K41.out)
 have o5 : OC W5 (w.heap.size + 1 + 1) (.slice (some ⟨gc, 0, none⟩) s.cells.length cap) s.cells := by rw [← hW5]; exact (O4.out.other _ _ (by simp; omega)).other _ _ (by simp; omega)
 have z5 : W5.heap.size = w4.heap.size := by rw [← hW5]; simp
 have b5 : Below w.heap.size w W5 := by rw [← hW5]; exact (B4.out.setCell (by simp) _).setCell (by simp) _
 have K5 := Lh k5
 have K51 := Lh k51
 have O5 := Lh o5
 have Z5 := Lh z5
 have B5 := Lh b5
 clear f2 i2 f5 i5 k5 k51 o5 z5 b5 hW5
 rw [HLO.out, HHI.out]
 go_wp2
 go_loopw [10] (fun i wr => EraseRel s.cells lo he w (w.heap.size + 1 + 1) gc cap W5 i wr) (fun i _ => he - (intOf i).toNat)
 case atStart => exact ⟨lo, Nat.le_refl _, hlh, rfl, by rw [fillL_none _ _ _ _ (Nat.le_refl _)]; exact O5.out, fun _ _ => rfl, Nat.le_refl _, B5.out⟩
 case round =>
  generalize wr = w6 at *
  obtain ⟨j, hj1, hj2, rfl, ho, hk, hz, hb⟩ := hrel
  have k6 := (hk w.heap.size (by omega)).trans K5.out
  have k61 := (hk (w.heap.size + 1) (by omega)).trans K51.out
  have z6 := hb.size
  have g6 := ho.block.2
  have HO6 := Lh ho
  have HK6 := Lh hk
  have HZ6 := Lh hz
  have HB6 := Lh hb
  have K6 := Lh k6
  have K61 := Lh k61
  clear ho hk hz hb k6 k61
  by_cases hlt : j < he
  ·have hjl : j < s.cells.length := by omega
   obtain ⟨c2', i2'⟩ := cellR (w := w6.drew) (v := .slice (some ⟨gc, 0, none⟩) s.cells.length cap) K6.out 2 rfl
   have hO6d : OC w6.drew (w.heap.size + 1 + 1) (.slice (some ⟨gc, 0, none⟩) s.cells.length cap) (fillL s.cells (fun _ => blankC) lo j) := HO6.out
   have HO6d := Lh hO6d
   have hd : w.heap.size < w6.drew.heap.size := by show w.heap.size < w6.heap.size; omega
   clear hO6d
   go_wp2
   go_region_with ((with_reducible refine (blank_any _).mono ?_); rintro e w7 ⟨rfl, hw7⟩; have H7 := Lh (HO6d.out.below hw7); have HW7 := Lh hw7; have z7 := hw7.size; have c27 := (hw7.cell (p := ⟨w.heap.size, 2, none⟩) hd).trans c2'; obtain ⟨q0, q1, q2, s0, s1, s2, t0, t1, t2⟩ := (HO6d.out.below hw7).spot j hjl; clear hw7)
   all_goals
    go_wp2
    go_roundw
    case rel =>
     have z7' : w6.heap.size ≤ w7.heap.size := z7
     refine ⟨j + 1, by omega, by omega, by go_num, ?_, fun b hb => ?_, ?_, below_put (HB6.out.drew.trans (HW7.out.mono (by show w.heap.size ≤ w6.heap.size; omega))) (by omega) _ _ _ _⟩
     ·have := H7.out.put j hjl blankC
      rw [fillL_set _ _ _ _ _ hj1 rfl] at this
      exact this
     ·rw [heap_setCell_other _ _ _ _ (by simp; omega), heap_setCell_other _ _ _ _ (by simp; omega), heap_setCell_other _ _ _ _ (by simp; omega)]
      exact (HW7.out.block b (by show b < w6.heap.size; omega)).trans (HK6.out b hb)
     ·have := HZ6.out
      simp
      omega
    case measure => simp [intOf]; omega
  ·obtain rfl : he = j := by omega
   obtain ⟨a1, n1⟩ := cellR (v := .int .i64 s.cols) K6.out 1 rfl
   obtain ⟨a2, n2⟩ := cellR (v := .slice (some ⟨gc, 0, none⟩) s.cells.length cap) K6.out 2 rfl
   obtain ⟨a3, n3⟩ := cellR (v := .int .i64 s.y) K6.out 3 rfl
   have HM6 := Lh HO6.out.cs
   go_upto_region 19 with fail
   ((with_reducible refine (Mend_any _ (fillL s.cells (fun _ => blankC) lo he) s.cols s.y _ HM6.out (by rw [fillL_len]; omega)).mono ?_); rintro e w8 ⟨v8, rfl, o8, b8⟩)
   have z8 := b8.size
   have k8 : w8.heap[w.heap.size]? = _ := (b8.block _ (by omega)).trans K6.out
   have k81 : w8.heap[w.heap.size + 1]? = _ := (b8.block _ (by omega)).trans K61.out
   obtain ⟨f2, i2⟩ := cellR (v := .slice (some ⟨gc, 0, none⟩) s.cells.length cap) k8 2 rfl
   obtain ⟨A8, q8, rfl, p8, r8⟩ := o8.cs.form
   have B8 := Lh (HB6.out.trans (b8.mono (by omega)))
   have O8 := Lh (o8.lower (b2 := w.heap.size + 1 + 1) (by omega))
   have K8 := Lh k8
   have K81 := Lh k81
   clear o8 b8 k8 k81 a1 n1 a2 n2 a3 n3
   go_upto_region 19 with fail
   refine wp_region_lit ?_
   refine wpl_loadS rfl (.tmp 3) rfl rfl ((heap_setCell_same _ _ 2 _ _ _ K8.out).trans rfl) rfl ?_
   refine wpl_storeS rfl (.tmp 6) (.tmp 70) rfl rfl rfl ((heap_setCell_other _ _ _ _ (by simp)).trans K81.out) rfl rfl all25 ?_
   go_wp2
   refine scEndC (s0 := s) (w.heap.size + 1) 6 Tryz.results103 ?_ ?_ ((heap_setCell_other _ _ _ _ (by simp)).trans K81.out) (by omega) (B8.out.setCell (by simp) _) HSS.out HS.out ?_ ?_ ?_ (w.heap.size + 1 + 1) (by omega) O8.out (fun b hb => heap_setCell_other _ _ _ _ (by simp; omega)) (by simp)
   all_goals rfl
theorem eraser_a0 (v : Value) (s : Sc) (r c : Nat) (S : Nat → Prop) (w : World) (hS : ∀ x, S x → x < w.heap.size) (h : SCV w S v s) (hi : ScIn s r c) (lo : Nat) (hlo : s.y * s.cols + s.x = (lo : Int))  : Calls Tryz.prog 103 #[v, .bool false, .int .i64 0] w (ScPost S { s with wrap := false, cells := mendL (fillL s.cells (fun _ => blankC) lo s.cells.length) s.cols s.y } w) := by
 have HSS := Lh hS
 clear hS
 obtain ⟨vc, vt, vo, vp, vi, vu, rfl, hs⟩ := h
 have HS := Lh hs
 obtain ⟨A1, kk1, A2, k2, A3, k3, A4, k4, A5, k5, A6, k6, rfl, rfl, rfl, rfl, rfl, rfl, p1, q1, p2, q2, p3, q3, p4, q4, p5, q5, p6, q6⟩ := sslSix hs
 have HI := Lh hi
 obtain ⟨y0, y1, x0, x1, hcl, hrl, c2, r2, hlen⟩ := dIn hi
 obtain ⟨yy, hyy⟩ : ∃ yy : Nat, s.y = yy := ⟨s.y.toNat, by omega⟩
 obtain ⟨xx, hxx⟩ : ∃ xx : Nat, s.x = xx := ⟨s.x.toNat, by omega⟩
 have hm : s.y * s.cols = ((yy * c : Nat) : Int) := by rw [hyy, hcl, Int.natCast_mul]
 have hm1 : (s.y + 1) * s.cols = ((yy * c + c : Nat) : Int) := by rw [Int.add_mul, Int.one_mul, hm, hcl]; omega
 have hle : yy * c + c ≤ s.cells.length := by
  rw [hi.g.n]
  have : (yy + 1) * c ≤ r * c := Nat.mul_le_mul_right _ (by omega)
  rw [Nat.add_mul, Nat.one_mul] at this
  exact this
 have hpos : 0 < s.cells.length := by rw [hi.g.n]; exact Nat.mul_pos hi.g.r1 hi.g.c1
 have m0 : 0 ≤ s.y * s.cols := by omega
 have m1 : s.y * s.cols ≤ 1000000 := by omega
 have m2 : 0 ≤ (s.y + 1) * s.cols := by omega
 have m3 : (s.y + 1) * s.cols ≤ 1000000 := by omega
 have c3 : s.cols ≤ 1000 := by omega
 have c4 : s.x < s.cols := by omega
 have HM := Lh hm
 have HM1 := Lh hm1
 have HY := Lh hyy
 have HX := Lh hxx
 have HCL := Lh hcl
 clear hi hcl hrl hm hm1 hyy hxx
 have hlh : lo ≤ s.cells.length := by have := HM.out; have := HM1.out; have := HX.out; have := HCL.out; omega
 have hhl : s.cells.length ≤ s.cells.length := by have := HM.out; have := HM1.out; have := HX.out; have := HCL.out; omega
 have HLO := Lh hlo
 clear hlo
 have w1 : IntKind.i64.wrap (s.y * s.cols) = s.y * s.cols := IntWalk.i64_in _ (by omega)
 have w2 : IntKind.i64.wrap (s.y + 1) = s.y + 1 := IntWalk.i64_in _ (by omega)
 have w3 : IntKind.i64.wrap ((s.y + 1) * s.cols) = (s.y + 1) * s.cols := IntWalk.i64_in _ (by omega)
 go_enter Tryz.func103, Tryz.ntmps103
 go_upto_region 4 with fail
 go_quiet (fail)
 clear w1 w2 w3
 go_upto_region 13 with fail
 generalize hW2 : World.drewN _ _ = W2
 have k0 : W2.heap[w.heap.size]? = some (.cells (vA s A1 A2 A3 A4 A5 A6 kk1 k2 k3 k4 k5 k6) 30) := by rw [← hW2]; exact heap_a1 w _ _
 have k1 : W2.heap[w.heap.size + 1]? = some (.cells zQ 30) := by rw [← hW2]; exact heap_a2 w _ _
 have z2 : W2.heap.size = w.heap.size + 1 + 1 := by rw [← hW2]; exact (two_new w _ _).2
 have b2 : Below w.heap.size w W2 := by rw [← hW2]; exact below_drewN (two_new w _ _).1 _
 obtain ⟨d2, e2⟩ := cellR (v := .slice A1 s.cells.length kk1) k0 2 rfl
 have HC := Lh (HS.out.1.cs' HSS.out b2 (Nat.le_refl _))
 have K0 := Lh k0
 have K1 := Lh k1
 have Z2 := Lh z2
 have B2 := Lh b2
 clear k0 k1 z2 b2 hW2
 go_upto_region 14 with fail
 ((with_reducible refine (own_any _ s.cells _ HC.out (by omega)).mono ?_); rintro e w4 ⟨v4, rfl, o4, b4⟩)
 obtain ⟨gc, cap, rfl, hg1, hg2, hg3, hg4⟩ := o4.open_ hpos
 have z4 := b4.size
 rw [Z2.out] at hg1 o4 z4
 have k4 : w4.heap[w.heap.size]? = _ := (b4.block _ (by rw [Z2.out]; omega)).trans K0.out
 have k41 : w4.heap[w.heap.size + 1]? = _ := (b4.block _ (by rw [Z2.out]; omega)).trans K1.out
 obtain ⟨f2, i2⟩ := cellR (v := .slice A1 s.cells.length kk1) k4 2 rfl
 obtain ⟨f5, i5⟩ := cellR (v := .bool s.wrap) k4 5 rfl
 have B4 := Lh (B2.out.trans (b4.mono (by rw [Z2.out]; omega)))
 have O4 := Lh o4
 have K4 := Lh k4
 have K41 := Lh k41
 clear o4 b4 k4 k41 d2 e2
 go_upto_region 14 with fail
 generalize hW5 : World.setCell _ _ _ = W5
 have k5 : W5.heap[w.heap.size]? = some (.cells (vS { s with wrap := false } (.slice (some ⟨gc, 0, none⟩) s.cells.length cap) (.slice A2 s.tabs.length k2) (.slice A3 s.other.length k3) (.slice A4 s.p.params.length k4) (.slice A5 s.p.inter.length k5) (.slice A6 s.p.utf.length k6)) 30) := by rw [← hW5]; exact (heap_setCell_same _ _ 5 _ _ _ ((heap_setCell_same _ _ 2 _ _ _ K4.out).trans rfl)).trans rfl
 have k51 : W5.heap[w.heap.size + 1]? = some (.cells zQ 30) := by rw [← hW5]; exact (heap_setCell_other _ _ _ _ (by simp)).trans ((heap_setCell_other _ _ _ _ (by simp)).trans K41.out)
 have o5 : OC W5 (w.heap.size + 1 + 1) (.slice (some ⟨gc, 0, none⟩) s.cells.length cap) s.cells := by rw [← hW5]; exact (O4.out.other _ _ (by simp; omega)).other _ _ (by simp; omega)
 have z5 : W5.heap.size = w4.heap.size := by rw [← hW5]; simp
 have b5 : Below w.heap.size w W5 := by rw [← hW5]; exact (B4.out.setCell (by simp) _).setCell (by simp) _
 have K5 := Lh k5
 have K51 := Lh k51
 have O5 := Lh o5
 have Z5 := Lh z5
 have B5 := Lh b5
 clear f2 i2 f5 i5 k5 k51 o5 z5 b5 hW5
 rw [HLO.out]
 go_wp2
 go_loopw [10] (fun i wr => EraseRel s.cells lo s.cells.length w (w.heap.size + 1 + 1) gc cap W5 i wr) (fun i _ => s.cells.length - (intOf i).toNat)
 case atStart => exact ⟨lo, Nat.le_refl _, hlh, rfl, by rw [fillL_none _ _ _ _ (Nat.le_refl _)]; exact O5.out, fun _ _ => rfl, Nat.le_refl _, B5.out⟩
 case round =>
  generalize wr = w6 at *
  obtain ⟨j, hj1, hj2, rfl, ho, hk, hz, hb⟩ := hrel
  have k6 := (hk w.heap.size (by omega)).trans K5.out
  have k61 := (hk (w.heap.size + 1) (by omega)).trans K51.out
  have z6 := hb.size
  have g6 := ho.block.2
  have HO6 := Lh ho
  have HK6 := Lh hk
  have HZ6 := Lh hz
  have HB6 := Lh hb
  have K6 := Lh k6
  have K61 := Lh k61
  clear ho hk hz hb k6 k61
  by_cases hlt : j < s.cells.length
  ·have hjl : j < s.cells.length := by omega
   obtain ⟨c2', i2'⟩ := cellR (w := w6.drew) (v := .slice (some ⟨gc, 0, none⟩) s.cells.length cap) K6.out 2 rfl
   have hO6d : OC w6.drew (w.heap.size + 1 + 1) (.slice (some ⟨gc, 0, none⟩) s.cells.length cap) (fillL s.cells (fun _ => blankC) lo j) := HO6.out
   have HO6d := Lh hO6d
   have hd : w.heap.size < w6.drew.heap.size := by show w.heap.size < w6.heap.size; omega
   clear hO6d
   go_wp2
   go_region_with ((with_reducible refine (blank_any _).mono ?_); rintro e w7 ⟨rfl, hw7⟩; have H7 := Lh (HO6d.out.below hw7); have HW7 := Lh hw7; have z7 := hw7.size; have c27 := (hw7.cell (p := ⟨w.heap.size, 2, none⟩) hd).trans c2'; obtain ⟨q0, q1, q2, s0, s1, s2, t0, t1, t2⟩ := (HO6d.out.below hw7).spot j hjl; clear hw7)
   all_goals
    go_wp2
    go_roundw
    case rel =>
     have z7' : w6.heap.size ≤ w7.heap.size := z7
     refine ⟨j + 1, by omega, by omega, by go_num, ?_, fun b hb => ?_, ?_, below_put (HB6.out.drew.trans (HW7.out.mono (by show w.heap.size ≤ w6.heap.size; omega))) (by omega) _ _ _ _⟩
     ·have := H7.out.put j hjl blankC
      rw [fillL_set _ _ _ _ _ hj1 rfl] at this
      exact this
     ·rw [heap_setCell_other _ _ _ _ (by simp; omega), heap_setCell_other _ _ _ _ (by simp; omega), heap_setCell_other _ _ _ _ (by simp; omega)]
      exact (HW7.out.block b (by show b < w6.heap.size; omega)).trans (HK6.out b hb)
     ·have := HZ6.out
      simp
      omega
    case measure => simp [intOf]; omega
  ·have hje : j = s.cells.length := by omega
   rw [hje] at HO6
   obtain ⟨a1, n1⟩ := cellR (v := .int .i64 s.cols) K6.out 1 rfl
   obtain ⟨a2, n2⟩ := cellR (v := .slice (some ⟨gc, 0, none⟩) s.cells.length cap) K6.out 2 rfl
   obtain ⟨a3, n3⟩ := cellR (v := .int .i64 s.y) K6.out 3 rfl
   have HM6 := Lh HO6.out.cs
   go_upto_region 19 with fail
   ((with_reducible refine (Mend_any _ (fillL s.cells (fun _ => blankC) lo s.cells.length) s.cols s.y _ HM6.out (by rw [fillL_len]; omega)).mono ?_); rintro e w8 ⟨v8, rfl, o8, b8⟩)
   have z8 := b8.size
   have k8 : w8.heap[w.heap.size]? = _ := (b8.block _ (by omega)).trans K6.out
   have k81 : w8.heap[w.heap.size + 1]? = _ := (b8.block _ (by omega)).trans K61.out
   obtain ⟨f2, i2⟩ := cellR (v := .slice (some ⟨gc, 0, none⟩) s.cells.length cap) k8 2 rfl
   obtain ⟨A8, q8, rfl, p8, r8⟩ := o8.cs.form
   have B8 := Lh (HB6.out.trans (b8.mono (by omega)))
   have O8 := Lh (o8.lower (b2 := w.heap.size + 1 + 1) (by omega))
   have K8 := Lh k8
   have K81 := Lh k81
   clear o8 b8 k8 k81 a1 n1 a2 n2 a3 n3
   go_upto_region 19 with fail
   refine wp_region_lit ?_
   refine wpl_loadS rfl (.tmp 3) rfl rfl ((heap_setCell_same _ _ 2 _ _ _ K8.out).trans rfl) rfl ?_
   refine wpl_storeS rfl (.tmp 6) (.tmp 70) rfl rfl rfl ((heap_setCell_other _ _ _ _ (by simp)).trans K81.out) rfl rfl all25 ?_
   go_wp2
   refine scEndC (s0 := s) (w.heap.size + 1) 6 Tryz.results103 ?_ ?_ ((heap_setCell_other _ _ _ _ (by simp)).trans K81.out) (by omega) (B8.out.setCell (by simp) _) HSS.out HS.out ?_ ?_ ?_ (w.heap.size + 1 + 1) (by omega) O8.out (fun b hb => heap_setCell_other _ _ _ _ (by simp; omega)) (by simp)
   all_goals rfl
theorem eraser_a1 (v : Value) (s : Sc) (r c : Nat) (S : Nat → Prop) (w : World) (hS : ∀ x, S x → x < w.heap.size) (h : SCV w S v s) (hi : ScIn s r c) (he : Nat)  (hhi : s.y * s.cols + s.x + 1 = (he : Int)) : Calls Tryz.prog 103 #[v, .bool false, .int .i64 1] w (ScPost S { s with wrap := false, cells := mendL (fillL s.cells (fun _ => blankC) (0 : Nat) he) s.cols s.y } w) := by
 have HSS := Lh hS
 clear hS
 obtain ⟨vc, vt, vo, vp, vi, vu, rfl, hs⟩ := h
 have HS := Lh hs
 obtain ⟨A1, kk1, A2, k2, A3, k3, A4, k4, A5, k5, A6, k6, rfl, rfl, rfl, rfl, rfl, rfl, p1, q1, p2, q2, p3, q3, p4, q4, p5, q5, p6, q6⟩ := sslSix hs
 have HI := Lh hi
 obtain ⟨y0, y1, x0, x1, hcl, hrl, c2, r2, hlen⟩ := dIn hi
 obtain ⟨yy, hyy⟩ : ∃ yy : Nat, s.y = yy := ⟨s.y.toNat, by omega⟩
 obtain ⟨xx, hxx⟩ : ∃ xx : Nat, s.x = xx := ⟨s.x.toNat, by omega⟩
 have hm : s.y * s.cols = ((yy * c : Nat) : Int) := by rw [hyy, hcl, Int.natCast_mul]
 have hm1 : (s.y + 1) * s.cols = ((yy * c + c : Nat) : Int) := by rw [Int.add_mul, Int.one_mul, hm, hcl]; omega
 have hle : yy * c + c ≤ s.cells.length := by
  rw [hi.g.n]
  have : (yy + 1) * c ≤ r * c := Nat.mul_le_mul_right _ (by omega)
  rw [Nat.add_mul, Nat.one_mul] at this
  exact this
 have hpos : 0 < s.cells.length := by rw [hi.g.n]; exact Nat.mul_pos hi.g.r1 hi.g.c1
 have m0 : 0 ≤ s.y * s.cols := by omega
 have m1 : s.y * s.cols ≤ 1000000 := by omega
 have m2 : 0 ≤ (s.y + 1) * s.cols := by omega
 have m3 : (s.y + 1) * s.cols ≤ 1000000 := by omega
 have c3 : s.cols ≤ 1000 := by omega
 have c4 : s.x < s.cols := by omega
 have HM := Lh hm
 have HM1 := Lh hm1
 have HY := Lh hyy
 have HX := Lh hxx
 have HCL := Lh hcl
 clear hi hcl hrl hm hm1 hyy hxx
 have hlh : (0 : Nat) ≤ he := by have := HM.out; have := HM1.out; have := HX.out; have := HCL.out; omega
 have hhl : he ≤ s.cells.length := by have := HM.out; have := HM1.out; have := HX.out; have := HCL.out; omega
 have HHI := Lh hhi
 clear hhi
 have w1 : IntKind.i64.wrap (s.y * s.cols) = s.y * s.cols := IntWalk.i64_in _ (by omega)
 have w2 : IntKind.i64.wrap (s.y + 1) = s.y + 1 := IntWalk.i64_in _ (by omega)
 have w3 : IntKind.i64.wrap ((s.y + 1) * s.cols) = (s.y + 1) * s.cols := IntWalk.i64_in _ (by omega)
 go_enter Tryz.func103, Tryz.ntmps103
 go_upto_region 4 with fail
 go_quiet (fail)
 clear w1 w2 w3
 go_upto_region 13 with fail
 generalize hW2 : World.drewN _ _ = W2
 have k0 : W2.heap[w.heap.size]? = some (.cells (vA s A1 A2 A3 A4 A5 A6 kk1 k2 k3 k4 k5 k6) 30) := by rw [← hW2]; exact heap_a1 w _ _
 have k1 : W2.heap[w.heap.size + 1]? = some (.cells zQ 30) := by rw [← hW2]; exact heap_a2 w _ _
 have z2 : W2.heap.size = w.heap.size + 1 + 1 := by rw [← hW2]; exact (two_new w _ _).2
 have b2 : Below w.heap.size w W2 := by rw [← hW2]; exact below_drewN (two_new w _ _).1 _
 obtain ⟨d2, e2⟩ := cellR (v := .slice A1 s.cells.length kk1) k0 2 rfl
 have HC := Lh (HS.out.1.cs' HSS.out b2 (Nat.le_refl _))
 have K0 := Lh k0
 have K1 := Lh k1
 have Z2 := Lh z2
 have B2 := Lh b2
 clear k0 k1 z2 b2 hW2
 go_upto_region 14 with fail
 ((with_reducible refine (own_any _ s.cells _ HC.out (by omega)).mono ?_); rintro e w4 ⟨v4, rfl, o4, b4⟩)
 obtain ⟨gc, cap, rfl, hg1, hg2, hg3, hg4⟩ := o4.open_ hpos
 have z4 := b4.size
 rw [Z2.out] at hg1 o4 z4
 have k4 : w4.heap[w.heap.size]? = _ := (b4.block _ (by rw [Z2.out]; omega)).trans K0.out
 have k41 : w4.heap[w.heap.size + 1]? = _ := (b4.block _ (by rw [Z2.out]; omega)).trans K1.out
 obtain ⟨f2, i2⟩ := cellR (v := .slice A1 s.cells.length kk1) k4 2 rfl
 obtain ⟨f5, i5⟩ := cellR (v := .bool s.wrap) k4 5 rfl
 have B4 := Lh (B2.out.trans (b4.mono (by rw [Z2.out]; omega)))
 have O4 := Lh o4
 have K4 := Lh k4
 have K41 := Lh k41
 clear o4 b4 k4 k41 d2 e2
 go_upto_region 14 with fail
 generalize hW5 : World.setCell _ _ _ = W5
 have k5 : W5.heap[w.heap.size]? = some (.cells (vS { s with wrap := false } (.slice (some ⟨gc, 0, none⟩) s.cells.length cap) (.slice A2 s.tabs.length k2) (.slice A3 s.other.length k3) (.slice A4 s.p.params.length k4) (.slice A5 s.p.inter.length k5) (.slice A6 s.p.utf.length k6)) 30) := by rw [← hW5]; exact (heap_setCell_same _ _ 5 _ _ _ ((heap_setCell_same _ _ 2 _ _ _ K4.out).trans rfl)).trans rfl
 have k51 : W5.heap[w.heap.size + 1]? = some (.cells zQ 30) := by rw [← hW5]; exact (heap_setCell_other _ _ _ _ (by simp)).trans ((heap_setCell_other _ _ _ _ (by simp)).trans K41.out)
 have o5 : OC W5 (w.heap.size + 1 + 1) (.slice (some ⟨gc, 0, none⟩) s.cells.length cap) s.cells := by rw [← hW5]; exact (O4.out.other _ _ (by simp; omega)).other _ _ (by simp; omega)
 have z5 : W5.heap.size = w4.heap.size := by rw [← hW5]; simp
 have b5 : Below w.heap.size w W5 := by rw [← hW5]; exact (B4.out.setCell (by simp) _).setCell (by simp) _
 have K5 := Lh k5
 have K51 := Lh k51
 have O5 := Lh o5
 have Z5 := Lh z5
 have B5 := Lh b5
 clear f2 i2 f5 i5 k5 k51 o5 z5 b5 hW5
 rw [HHI.out]
 go_wp2
 go_loopw [10] (fun i wr => EraseRel s.cells (0 : Nat) he w (w.heap.size + 1 + 1) gc cap W5 i wr) (fun i _ => he - (intOf i).toNat)
 case atStart => exact ⟨(0 : Nat), Nat.le_refl _, hlh, rfl, by rw [fillL_none _ _ _ _ (Nat.le_refl _)]; exact O5.out, fun _ _ => rfl, Nat.le_refl _, B5.out⟩
 case round =>
  generalize wr = w6 at *
  obtain ⟨j, hj1, hj2, rfl, ho, hk, hz, hb⟩ := hrel
  have k6 := (hk w.heap.size (by omega)).trans K5.out
  have k61 := (hk (w.heap.size + 1) (by omega)).trans K51.out
  have z6 := hb.size
  have g6 := ho.block.2
  have HO6 := Lh ho
  have HK6 := Lh hk
  have HZ6 := Lh hz
  have HB6 := Lh hb
  have K6 := Lh k6
  have K61 := Lh k61
  clear ho hk hz hb k6 k61
  by_cases hlt : j < he
  ·have hjl : j < s.cells.length := by omega
   obtain ⟨c2', i2'⟩ := cellR (w := w6.drew) (v := .slice (some ⟨gc, 0, none⟩) s.cells.length cap) K6.out 2 rfl
   have hO6d : OC w6.drew (w.heap.size + 1 + 1) (.slice (some ⟨gc, 0, none⟩) s.cells.length cap) (fillL s.cells (fun _ => blankC) (0 : Nat) j) := HO6.out
   have HO6d := Lh hO6d
   have hd : w.heap.size < w6.drew.heap.size := by show w.heap.size < w6.heap.size; omega
   clear hO6d
   go_wp2
   go_region_with ((with_reducible refine (blank_any _).mono ?_); rintro e w7 ⟨rfl, hw7⟩; have H7 := Lh (HO6d.out.below hw7); have HW7 := Lh hw7; have z7 := hw7.size; have c27 := (hw7.cell (p := ⟨w.heap.size, 2, none⟩) hd).trans c2'; obtain ⟨q0, q1, q2, s0, s1, s2, t0, t1, t2⟩ := (HO6d.out.below hw7).spot j hjl; clear hw7)
   all_goals
    go_wp2
    go_roundw
    case rel =>
     have z7' : w6.heap.size ≤ w7.heap.size := z7
     refine ⟨j + 1, by omega, by omega, by go_num, ?_, fun b hb => ?_, ?_, below_put (HB6.out.drew.trans (HW7.out.mono (by show w.heap.size ≤ w6.heap.size; omega))) (by omega) _ _ _ _⟩
     ·have := H7.out.put j hjl blankC
      rw [fillL_set _ _ _ _ _ hj1 rfl] at this
      exact this
     ·rw [heap_setCell_other _ _ _ _ (by simp; omega), heap_setCell_other _ _ _ _ (by simp; omega), heap_setCell_other _ _ _ _ (by simp; omega)]
      exact (HW7.out.block b (by show b < w6.heap.size; omega)).trans (HK6.out b hb)
     ·have := HZ6.out
      simp
      omega
    case measure => simp [intOf]; omega
  ·obtain rfl : he = j := by omega
   obtain ⟨a1, n1⟩ := cellR (v := .int .i64 s.cols) K6.out 1 rfl
   obtain ⟨a2, n2⟩ := cellR (v := .slice (some ⟨gc, 0, none⟩) s.cells.length cap) K6.out 2 rfl
   obtain ⟨a3, n3⟩ := cellR (v := .int .i64 s.y) K6.out 3 rfl
   have HM6 := Lh HO6.out.cs
   go_upto_region 19 with fail
   ((with_reducible refine (Mend_any _ (fillL s.cells (fun _ => blankC) (0 : Nat) he) s.cols s.y _ HM6.out (by rw [fillL_len]; omega)).mono ?_); rintro e w8 ⟨v8, rfl, o8, b8⟩)
   have z8 := b8.size
   have k8 : w8.heap[w.heap.size]? = _ := (b8.block _ (by omega)).trans K6.out
   have k81 : w8.heap[w.heap.size + 1]? = _ := (b8.block _ (by omega)).trans K61.out
   obtain ⟨f2, i2⟩ := cellR (v := .slice (some ⟨gc, 0, none⟩) s.cells.length cap) k8 2 rfl
   obtain ⟨A8, q8, rfl, p8, r8⟩ := o8.cs.form
   have B8 := Lh (HB6.out.trans (b8.mono (by omega)))
   have O8 := Lh (o8.lower (b2 := w.heap.size + 1 + 1) (by omega))
   have K8 := Lh k8
   have K81 := Lh k81
   clear o8 b8 k8 k81 a1 n1 a2 n2 a3 n3
   go_upto_region 19 with fail
   refine wp_region_lit ?_
   refine wpl_loadS rfl (.tmp 3) rfl rfl ((heap_setCell_same _ _ 2 _ _ _ K8.out).trans rfl) rfl ?_
   refine wpl_storeS rfl (.tmp 6) (.tmp 70) rfl rfl rfl ((heap_setCell_other _ _ _ _ (by simp)).trans K81.out) rfl rfl all25 ?_
   go_wp2
   refine scEndC (s0 := s) (w.heap.size + 1) 6 Tryz.results103 ?_ ?_ ((heap_setCell_other _ _ _ _ (by simp)).trans K81.out) (by omega) (B8.out.setCell (by simp) _) HSS.out HS.out ?_ ?_ ?_ (w.heap.size + 1 + 1) (by omega) O8.out (fun b hb => heap_setCell_other _ _ _ _ (by simp; omega)) (by simp)
   all_goals rfl
theorem eraser_a2 (v : Value) (s : Sc) (r c : Nat) (S : Nat → Prop) (w : World) (hS : ∀ x, S x → x < w.heap.size) (h : SCV w S v s) (hi : ScIn s r c)    : Calls Tryz.prog 103 #[v, .bool false, .int .i64 2] w (ScPost S { s with wrap := false, cells := mendL (fillL s.cells (fun _ => blankC) (0 : Nat) s.cells.length) s.cols s.y } w) := by
 have HSS := Lh hS
 clear hS
 obtain ⟨vc, vt, vo, vp, vi, vu, rfl, hs⟩ := h
 have HS := Lh hs
 obtain ⟨A1, kk1, A2, k2, A3, k3, A4, k4, A5, k5, A6, k6, rfl, rfl, rfl, rfl, rfl, rfl, p1, q1, p2, q2, p3, q3, p4, q4, p5, q5, p6, q6⟩ := sslSix hs
 have HI := Lh hi
 obtain ⟨y0, y1, x0, x1, hcl, hrl, c2, r2, hlen⟩ := dIn hi
 obtain ⟨yy, hyy⟩ : ∃ yy : Nat, s.y = yy := ⟨s.y.toNat, by omega⟩
 obtain ⟨xx, hxx⟩ : ∃ xx : Nat, s.x = xx := ⟨s.x.toNat, by omega⟩
 have hm : s.y * s.cols = ((yy * c : Nat) : Int) := by rw [hyy, hcl, Int.natCast_mul]
 have hm1 : (s.y + 1) * s.cols = ((yy * c + c : Nat) : Int) := by rw [Int.add_mul, Int.one_mul, hm, hcl]; omega
 have hle : yy * c + c ≤ s.cells.length := by
  rw [hi.g.n]
  have : (yy + 1) * c ≤ r * c := Nat.mul_le_mul_right _ (by omega)
  rw [Nat.add_mul, Nat.one_mul] at this
  exact this
 have hpos : 0 < s.cells.length := by rw [hi.g.n]; exact Nat.mul_pos hi.g.r1 hi.g.c1
 have m0 : 0 ≤ s.y * s.cols := by omega
 have m1 : s.y * s.cols ≤ 1000000 := by omega
 have m2 : 0 ≤ (s.y + 1) * s.cols := by omega
 have m3 : (s.y + 1) * s.cols ≤ 1000000 := by omega
 have c3 : s.cols ≤ 1000 := by omega
 have c4 : s.x < s.cols := by omega
 have HM := Lh hm
 have HM1 := Lh hm1
 have HY := Lh hyy
 have HX := Lh hxx
 have HCL := Lh hcl
 clear hi hcl hrl hm hm1 hyy hxx
 have hlh : (0 : Nat) ≤ s.cells.length := by have := HM.out; have := HM1.out; have := HX.out; have := HCL.out; omega
 have hhl : s.cells.length ≤ s.cells.length := by have := HM.out; have := HM1.out; have := HX.out; have := HCL.out; omega
 have w1 : IntKind.i64.wrap (s.y * s.cols) = s.y * s.cols := IntWalk.i64_in _ (by omega)
 have w2 : IntKind.i64.wrap (s.y + 1) = s.y + 1 := IntWalk.i64_in _ (by omega)
 have w3 : IntKind.i64.wrap ((s.y + 1) * s.cols) = (s.y + 1) * s.cols := IntWalk.i64_in _ (by omega)
 go_enter Tryz.func103, Tryz.ntmps103
 go_upto_region 4 with fail
 go_quiet (fail)
 clear w1 w2 w3
 go_upto_region 13 with fail
 generalize hW2 : World.drewN _ _ = W2
 have k0 : W2.heap[w.heap.size]? = some (.cells (vA s A1 A2 A3 A4 A5 A6 kk1 k2 k3 k4 k5 k6) 30) := by rw [← hW2]; exact heap_a1 w _ _
 have k1 : W2.heap[w.heap.size + 1]? = some (.cells zQ 30) := by rw [← hW2]; exact heap_a2 w _ _
 have z2 : W2.heap.size = w.heap.size + 1 + 1 := by rw [← hW2]; exact (two_new w _ _).2
 have b2 : Below w.heap.size w W2 := by rw [← hW2]; exact below_drewN (two_new w _ _).1 _
 obtain ⟨d2, e2⟩ := cellR (v := .slice A1 s.cells.length kk1) k0 2 rfl
 have HC := Lh (HS.out.1.cs' HSS.out b2 (Nat.le_refl _))
 have K0 := Lh k0
 have K1 := Lh k1
 have Z2 := Lh z2
 have B2 := Lh b2
 clear k0 k1 z2 b2 hW2
 go_upto_region 14 with fail
 ((with_reducible refine (own_any _ s.cells _ HC.out (by omega)).mono ?_); rintro e w4 ⟨v4, rfl, o4, b4⟩)
 obtain ⟨gc, cap, rfl, hg1, hg2, hg3, hg4⟩ := o4.open_ hpos
 have z4 := b4.size
 rw [Z2.out] at hg1 o4 z4
 have k4 : w4.heap[w.heap.size]? = _ := (b4.block _ (by rw [Z2.out]; omega)).trans K0.out
 have k41 : w4.heap[w.heap.size + 1]? = _ := (b4.block _ (by rw [Z2.out]; omega)).trans K1.out
 obtain ⟨f2, i2⟩ := cellR (v := .slice A1 s.cells.length kk1) k4 2 rfl
 obtain ⟨f5, i5⟩ := cellR (v := .bool s.wrap) k4 5 rfl
 have B4 := Lh (B2.out.trans (b4.mono (by rw [Z2.out]; omega)))
 have O4 := Lh o4
 have K4 := Lh k4
 have K41 := Lh k41
 clear o4 b4 k4 k41 d2 e2
 go_upto_region 14 with fail
 generalize hW5 : World.setCell _ _ _ = W5
 have k5 : W5.heap[w.heap.size]? = some (.cells (vS { s with wrap := false } (.slice (some ⟨gc, 0, none⟩) s.cells.length cap) (.slice A2 s.tabs.length k2) (.slice A3 s.other.length k3) (.slice A4 s.p.params.length k4) (.slice A5 s.p.inter.length k5) (.slice A6 s.p.utf.length k6)) 30) := by rw [← hW5]; exact (heap_setCell_same _ _ 5 _ _ _ ((heap_setCell_same _ _ 2 _ _ _ K4.out).trans rfl)).trans rfl
 have k51 : W5.heap[w.heap.size + 1]? = some (.cells zQ 30) := by rw [← hW5]; exact (heap_setCell_other _ _ _ _ (by simp)).trans ((heap_setCell_other _ _ _ _ (by simp)).trans K41.out)
 have o5 : OC W5 (w.heap.size + 1 + 1) (.slice (some ⟨gc, 0, none⟩) s.cells.length cap) s.cells := by rw [← hW5]; exact (O4.out.other _ _ (by simp; omega)).other _ _ (by simp; omega)
 have z5 : W5.heap.size = w4.heap.size := by rw [← hW5]; simp
 have b5 : Below w.heap.size w W5 := by rw [← hW5]; exact (B4.out.setCell (by simp) _).setCell (by simp) _
 have K5 := Lh k5
 have K51 := Lh k51
 have O5 := Lh o5
 have Z5 := Lh z5
 have B5 := Lh b5
 clear f2 i2 f5 i5 k5 k51 o5 z5 b5 hW5
 skip
 go_wp2
 go_loopw [10] (fun i wr => EraseRel s.cells (0 : Nat) s.cells.length w (w.heap.size + 1 + 1) gc cap W5 i wr) (fun i _ => s.cells.length - (intOf i).toNat)
 case atStart => exact ⟨(0 : Nat), Nat.le_refl _, hlh, rfl, by rw [fillL_none _ _ _ _ (Nat.le_refl _)]; exact O5.out, fun _ _ => rfl, Nat.le_refl _, B5.out⟩
 case round =>
  generalize wr = w6 at *
  obtain ⟨j, hj1, hj2, rfl, ho, hk, hz, hb⟩ := hrel
  have k6 := (hk w.heap.size (by omega)).trans K5.out
  have k61 := (hk (w.heap.size + 1) (by omega)).trans K51.out
  have z6 := hb.size
  have g6 := ho.block.2
  have HO6 := Lh ho
  have HK6 := Lh hk
  have HZ6 := Lh hz
  have HB6 := Lh hb
  have K6 := Lh k6
  have K61 := Lh k61
  clear ho hk hz hb k6 k61
  by_cases hlt : j < s.cells.length
  ·have hjl : j < s.cells.length := by omega
   obtain ⟨c2', i2'⟩ := cellR (w := w6.drew) (v := .slice (some ⟨gc, 0, none⟩) s.cells.length cap) K6.out 2 rfl
   have hO6d : OC w6.drew (w.heap.size + 1 + 1) (.slice (some ⟨gc, 0, none⟩) s.cells.length cap) (fillL s.cells (fun _ => blankC) (0 : Nat) j) := HO6.out
   have HO6d := Lh hO6d
   have hd : w.heap.size < w6.drew.heap.size := by show w.heap.size < w6.heap.size; omega
   clear hO6d
   go_wp2
   go_region_with ((with_reducible refine (blank_any _).mono ?_); rintro e w7 ⟨rfl, hw7⟩; have H7 := Lh (HO6d.out.below hw7); have HW7 := Lh hw7; have z7 := hw7.size; have c27 := (hw7.cell (p := ⟨w.heap.size, 2, none⟩) hd).trans c2'; obtain ⟨q0, q1, q2, s0, s1, s2, t0, t1, t2⟩ := (HO6d.out.below hw7).spot j hjl; clear hw7)
   all_goals
    go_wp2
    go_roundw
    case rel =>
     have z7' : w6.heap.size ≤ w7.heap.size := z7
     refine ⟨j + 1, by omega, by omega, by go_num, ?_, fun b hb => ?_, ?_, below_put (HB6.out.drew.trans (HW7.out.mono (by show w.heap.size ≤ w6.heap.size; omega))) (by omega) _ _ _ _⟩
     ·have := H7.out.put j hjl blankC
      rw [fillL_set _ _ _ _ _ hj1 rfl] at this
      exact this
     ·rw [heap_setCell_other _ _ _ _ (by simp; omega), heap_setCell_other _ _ _ _ (by simp; omega), heap_setCell_other _ _ _ _ (by simp; omega)]
      exact (HW7.out.block b (by show b < w6.heap.size; omega)).trans (HK6.out b hb)
     ·have := HZ6.out
      simp
      omega
    case measure => simp [intOf]; omega
  ·have hje : j = s.cells.length := by omega
   rw [hje] at HO6
   obtain ⟨a1, n1⟩ := cellR (v := .int .i64 s.cols) K6.out 1 rfl
   obtain ⟨a2, n2⟩ := cellR (v := .slice (some ⟨gc, 0, none⟩) s.cells.length cap) K6.out 2 rfl
   obtain ⟨a3, n3⟩ := cellR (v := .int .i64 s.y) K6.out 3 rfl
   have HM6 := Lh HO6.out.cs
   go_upto_region 19 with fail
   ((with_reducible refine (Mend_any _ (fillL s.cells (fun _ => blankC) (0 : Nat) s.cells.length) s.cols s.y _ HM6.out (by rw [fillL_len]; omega)).mono ?_); rintro e w8 ⟨v8, rfl, o8, b8⟩)
   have z8 := b8.size
   have k8 : w8.heap[w.heap.size]? = _ := (b8.block _ (by omega)).trans K6.out
   have k81 : w8.heap[w.heap.size + 1]? = _ := (b8.block _ (by omega)).trans K61.out
   obtain ⟨f2, i2⟩ := cellR (v := .slice (some ⟨gc, 0, none⟩) s.cells.length cap) k8 2 rfl
   obtain ⟨A8, q8, rfl, p8, r8⟩ := o8.cs.form
   have B8 := Lh (HB6.out.trans (b8.mono (by omega)))
   have O8 := Lh (o8.lower (b2 := w.heap.size + 1 + 1) (by omega))
   have K8 := Lh k8
   have K81 := Lh k81
   clear o8 b8 k8 k81 a1 n1 a2 n2 a3 n3
   go_upto_region 19 with fail
   refine wp_region_lit ?_
   refine wpl_loadS rfl (.tmp 3) rfl rfl ((heap_setCell_same _ _ 2 _ _ _ K8.out).trans rfl) rfl ?_
   refine wpl_storeS rfl (.tmp 6) (.tmp 70) rfl rfl rfl ((heap_setCell_other _ _ _ _ (by simp)).trans K81.out) rfl rfl all25 ?_
   go_wp2
   refine scEndC (s0 := s) (w.heap.size + 1) 6 Tryz.results103 ?_ ?_ ((heap_setCell_other _ _ _ _ (by simp)).trans K81.out) (by omega) (B8.out.setCell (by simp) _) HSS.out HS.out ?_ ?_ ?_ (w.heap.size + 1 + 1) (by omega) O8.out (fun b hb => heap_setCell_other _ _ _ _ (by simp; omega)) (by simp)
   all_goals rfl
theorem eraser_any (v : Value) (s : Sc) (row : Bool) (k : Int) (r c : Nat) (S : Nat → Prop) (w : World) (hS : ∀ x, S x → x < w.heap.size) (h : SCV w S v s) (hi : ScIn s r c) (hk : 0 ≤ k) : Calls Tryz.prog 103 #[v, .bool row, .int .i64 k] w (ScPost S (eraseS s row k) w) := by
 unfold eraseS
 by_cases hb : 2 < k
 ·rw [if_pos hb]; exact eraser_big v s r c S w hS h hi row k hb
 rw [if_neg hb]
 have y0 := hi.y0
 have x0 := hi.x0
 have m0 : 0 ≤ s.y * s.cols := Int.mul_nonneg y0 (by rw [hi.cols]; omega)
 have m1 : 0 ≤ (s.y + 1) * s.cols := Int.mul_nonneg (by omega) (by rw [hi.cols]; omega)
 obtain ⟨a, ha⟩ : ∃ a : Nat, s.y * s.cols = a := ⟨(s.y * s.cols).toNat, by omega⟩
 obtain ⟨d, hd⟩ : ∃ d : Nat, (s.y + 1) * s.cols = d := ⟨((s.y + 1) * s.cols).toNat, by omega⟩
 obtain ⟨e, he⟩ : ∃ e : Nat, s.x = e := ⟨s.x.toNat, by omega⟩
 have hk3 : k = 0 ∨ k = 1 ∨ k = 2 := by omega
 cases row with
 | true =>
  rcases hk3 with rfl | rfl | rfl
  ·have := eraser_r0 v s r c S w hS h hi (a + e) d (by rw [ha, he]; omega) hd
   simpa [ha, hd, he, ← Int.natCast_add] using this
  ·have := eraser_r1 v s r c S w hS h hi a (a + e + 1) ha (by rw [ha, he]; omega)
   simpa [ha, hd, he, ← Int.natCast_add] using this
  ·have := eraser_r2 v s r c S w hS h hi a d ha hd
   simpa [ha, hd, he] using this
 | false =>
  rcases hk3 with rfl | rfl | rfl
  ·have := eraser_a0 v s r c S w hS h hi (a + e) (by rw [ha, he]; omega)
   simpa [ha, hd, he, ← Int.natCast_add] using this
  ·have := eraser_a1 v s r c S w hS h hi (a + e + 1) (by rw [ha, he]; omega)
   simpa [ha, hd, he, ← Int.natCast_add] using this
  ·have := eraser_a2 v s r c S w hS h hi
   simpa [ha, hd, he] using this
end Go.Proofs.YthepofkdgbcifaaGreat
