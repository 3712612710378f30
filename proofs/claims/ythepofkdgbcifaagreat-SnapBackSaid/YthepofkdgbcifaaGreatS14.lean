/- What is proved here: parts of layer 10's proofs. -/
import Derived.Test.YthepofkdgbcifaaGreatS13
namespace Go.Proofs.YthepofkdgbcifaaGreat
open Go.RowKit
set_option linter.unusedVariables false
set_option linter.unusedSimpArgs false
set_option maxHeartbeats 8000000
set_option maxRecDepth 100000
theorem OC.half {w : World} {base g n cap : Nat} {l : List Cl} (h : OC w base (.slice (some ⟨g, 0, none⟩) n cap) l) (k : Nat) (c : Cl) (hc : l[k]? = some c) (x : Nat) : OC (w.setCell ⟨g, k * 3 + 2, none⟩ (.int .u8 (x : Int))) base (.slice (some ⟨g, 0, none⟩) n cap) (l.set k { c with h := x }) := by
 obtain rfl := h.len
 have hk : k < l.length := (List.getElem?_eq_some_iff.1 hc).1
 have := (World.ownsRow.stored h (k * 3 + 2) (.int .u8 (x : Int))).1
 obtain ⟨e0, e1, e2⟩ := vCs_get l k c hc
 unfold OC
 rw [List.length_set, vCs_set l k _ hk]
 have f0 : (vCs l).set (k * 3) (.int .i32 c.r) = vCs l := by
  rw [List.getElem?_eq_some_iff] at e0
  obtain ⟨hh, he⟩ := e0
  rw [← he]
  exact List.set_getElem_self hh
 have f1 : (vCs l).set (k * 3 + 1) (.int .u16 (c.a : Int)) = vCs l := by
  rw [List.getElem?_eq_some_iff] at e1
  obtain ⟨hh, he⟩ := e1
  rw [← he]
  exact List.set_getElem_self hh
 show w.setCell _ _ |>.ownsRow _ _ _ _ _ ((((vCs l).set (k * 3) (.int .i32 c.r)).set (k * 3 + 1) (.int .u16 (c.a : Int))).set (k * 3 + 2) (.int .u8 (x : Int)))
 rw [f0, f1]
 exact this
theorem printr_0 (v : Value) (s : Sc) (rn : Int) (r c : Nat) (S : Nat → Prop) (w : World) (hS : ∀ x, S x → x < w.heap.size) (h : SCV w S v s) (hi : ScIn s r c) (n0 : -2147483648 ≤ rn) (n1 : rn ≤ 2147483647) (hwd : widthL rn = 0) : Calls Tryz.prog 72 #[v, .int .i32 rn] w (ScPost S s w) := by
 have HSS := Lh hS
 clear hS
 obtain ⟨vc, vt, vo, vp, vi, vu, rfl, hs⟩ := h
 have HS := Lh hs
 obtain ⟨A1, kk1, A2, k2, A3, k3, A4, k4, A5, k5, A6, k6, rfl, rfl, rfl, rfl, rfl, rfl, p1, q1, p2, q2, p3, q3, p4, q4, p5, q5, p6, q6⟩ := sslSix hs
 have HI := Lh hi
 have x0 := hi.x0
 have x1 := hi.x1
 have hcl := hi.cols
 have c2 := hi.g.c2
 have c3 : s.cols ≤ 1000 := by omega
 have c4 : s.x < s.cols := by omega
 clear hi hcl
 have HWD := Lh hwd
 clear hwd
 have h2 := two_new w (.cells (vA s A1 A2 A3 A4 A5 A6 kk1 k2 k3 k4 k5 k6) 30) (.cells zQ 30)
 have HS2 : Hid (∀ x, S x → x < _) := fun x hx => Nat.lt_of_lt_of_le (HSS.out x hx) h2.1.size
 have H2 := Lh h2
 go_enter Tryz.func72, Tryz.ntmps72
 go_upto_region 3 with fail
 ((with_reducible refine (widthr_any rn n0 n1 _).mono ?_); rintro e w1 ⟨rfl, b1⟩)
 have hb1 : Below (w.heap.size + 1 + 1) _ w1 := (by rw [← H2.out.2]; exact b1)
 obtain ⟨k0, k1⟩ := two_keptB hb1
 have z1 := b1.size
 rw [H2.out.2] at z1
 have B1 := Lh (H2.out.1.trans (hb1.mono (by omega)))
 obtain ⟨d5, i5⟩ := cellR (v := .bool s.wrap) k0 5 rfl
 have K0 := Lh k0
 have K1 := Lh k1
 clear b1 hb1 k0 k1 h2
 rw [HWD.out]
 go_upto_region 3 with fail
 refine wp_region_lit ?_
 refine wpl_loadS rfl (.tmp 2) rfl rfl (K0.out) rfl ?_
 refine wpl_storeS rfl (.tmp 4) (.tmp 11) rfl rfl rfl (K1.out) rfl rfl all25 ?_
 go_wp2
 refine scEnd (w.heap.size + 1) 4 Tryz.results72 ?_ ?_ (K1.out) (by omega) B1.out HSS.out (HS.out.like ?_ ?_ ?_ ?_)
 all_goals rfl
theorem printr_1 (v : Value) (s s9 : Sc) (rn : Int) (r c : Nat) (S : Nat → Prop) (w : World) (hS : ∀ x, S x → x < w.heap.size) (h : SCV w S v s) (hi : ScIn s r c) (n0 : -2147483648 ≤ rn) (n1 : rn ≤ 2147483647) (hwd : widthL rn = 1) (hcase : (s.wrap = false ∧ s = s9) ∨ (s.wrap = true ∧ crS s = s9)) : Calls Tryz.prog 72 #[v, .int .i32 rn] w (ScPost S (putS s9 rn 1) w) := by
 have HCASE := Lh hcase
 clear hcase
 have HSS := Lh hS
 clear hS
 obtain ⟨vc, vt, vo, vp, vi, vu, rfl, hs⟩ := h
 have HS := Lh hs
 obtain ⟨A1, kk1, A2, k2, A3, k3, A4, k4, A5, k5, A6, k6, rfl, rfl, rfl, rfl, rfl, rfl, p1, q1, p2, q2, p3, q3, p4, q4, p5, q5, p6, q6⟩ := sslSix hs
 have HI := Lh hi
 have x0 := hi.x0
 have x1 := hi.x1
 have hcl := hi.cols
 have c2 := hi.g.c2
 have c3 : s.cols ≤ 1000 := by omega
 have c4 : s.x < s.cols := by omega
 clear hi hcl
 have HWD := Lh hwd
 clear hwd
 have h2 := two_new w (.cells (vA s A1 A2 A3 A4 A5 A6 kk1 k2 k3 k4 k5 k6) 30) (.cells zQ 30)
 have HS2 : Hid (∀ x, S x → x < _) := fun x hx => Nat.lt_of_lt_of_le (HSS.out x hx) h2.1.size
 have H2 := Lh h2
 go_enter Tryz.func72, Tryz.ntmps72
 go_upto_region 4 with fail
 ((with_reducible refine (widthr_any rn n0 n1 _).mono ?_); rintro e w1 ⟨rfl, b1⟩)
 have hb1 : Below (w.heap.size + 1 + 1) _ w1 := (by rw [← H2.out.2]; exact b1)
 obtain ⟨k0, k1⟩ := two_keptB hb1
 have z1 := b1.size
 rw [H2.out.2] at z1
 have B1 := Lh (H2.out.1.trans (hb1.mono (by omega)))
 obtain ⟨d5, i5⟩ := cellR (v := .bool s.wrap) k0 5 rfl
 have K0 := Lh k0
 have K1 := Lh k1
 clear b1 hb1 k0 k1 h2
 rw [HWD.out]
 rcases HCASE.out with ⟨hwr, rfl⟩ | ⟨hwr, rfl⟩
 focus
  rw [hwr] at d5
  clear hwr
  go_upto_region 12 with fail
  have HU1 := Lh ((HS.out.below HSS.out B1.out).mono (S' := fun x => S x ∨ (w.heap.size + 1 < x ∧ x < w1.heap.size)) (fun x hx => .inl hx))
  have HSU : Hid (∀ x, (S x ∨ (w.heap.size + 1 < x ∧ x < w1.heap.size)) → x < w1.heap.size) := fun x hx => hx.elim (fun h => by have := HSS.out x h; omega) (fun h => h.2)
  have KV := K0
  have KR := K1
  have BV := B1
  have HI1 := HI
  have HZW : Hid (w.heap.size + 1 + 1 ≤ w1.heap.size) := z1
  clear d5 i5 x0 x1 c2 c3 c4
  generalize hW1 : w1 = W1 at *
  generalize hs1 : s = s1 at *
  generalize Value.slice A1 s1.cells.length kk1 = uc at *
  generalize Value.slice A2 s1.tabs.length k2 = ut at *
  generalize Value.slice A3 s1.other.length k3 = uo at *
  generalize Value.slice A4 s1.p.params.length k4 = up at *
  generalize Value.slice A5 s1.p.inter.length k5 = ui at *
  generalize Value.slice A6 s1.p.utf.length k6 = uu at *
 rotate_left
 focus
  rw [hwr] at d5
  have HWR := Lh hwr
  clear hwr
  have HV := Lh (show SCV w1 S (.agg (vA s A1 A2 A3 A4 A5 A6 kk1 k2 k3 k4 k5 k6)) s from ⟨_, _, _, _, _, _, rfl, HS.out.below HSS.out B1.out⟩)
  have HS1 : Hid (∀ x, S x → x < w1.heap.size) := fun x hx => by have := HSS.out x hx; omega
  go_upto_region 5 with fail
  refine wp_region_lit ?_
  refine wpl_loadS rfl (.tmp 2) rfl rfl K0.out rfl ?_
  go_wp2_with fail
  ((with_reducible refine (downr_any _ s r c S _ HS1.out HV.out HI.out).mono ?_); rintro e w2 ⟨v2, rfl, hv2, b2⟩)
  have z2 := b2.size
  obtain ⟨uc, ut, uo, up, ui, uu, rfl, hs2⟩ := hv2
  have hk0 : w2.heap[w.heap.size]? = _ := (b2.block _ (by omega)).trans K0.out
  have hk1 : w2.heap[w.heap.size + 1]? = _ := (b2.block _ (by omega)).trans K1.out
  rename_i K hK
  refine hK _ _ ?_
  clear hK
  refine wpl_storeS rfl (.tmp 2) (.tmp 15) rfl rfl rfl hk0 rfl rfl hs2.one ?_
  obtain ⟨W5, hW5⟩ : ∃ W5, W5 = w2.setRow w.heap.size (vS (downS s) uc ut uo up ui uu) := ⟨_, rfl⟩
  rw [← hW5]
  have k5v : W5.heap[w.heap.size]? = some (.cells (vS (downS s) uc ut uo up ui uu) 30) := by rw [hW5]; exact heap_setRow_same hk0
  have o5v : ∀ b, b ≠ w.heap.size → W5.heap[b]? = w2.heap[b]? := fun b hb => by rw [hW5]; exact heap_setRow_other (fun e => hb e.symm)
  have z5v : W5.heap.size = w2.heap.size := by rw [hW5, size_setRow]
  have b5v : Below w.heap.size w W5 := by rw [hW5]; exact below_setRow (B1.out.trans (b2.mono (by omega))) (Nat.le_refl _) _
  obtain ⟨cx, fx⟩ := cellR (v := .int .i64 (downS s).x) k5v 4 rfl
  have K5V := Lh k5v
  have O5V := Lh o5v
  have Z5V := Lh z5v
  have B5V := Lh b5v
  have HS2V := Lh hs2
  have HK1V := Lh hk1
  clear k5v o5v z5v b5v hs2 hW5 hk0 hk1 b2 d5 i5
  go_simp
  go_upto_region 7 with fail
  obtain ⟨W1, hW1⟩ : ∃ W1, W1 = W5.setCell ⟨w.heap.size, 4, none⟩ (.int .i64 0) := ⟨_, rfl⟩
  rw [← hW1]
  have kv : W1.heap[w.heap.size]? = some (.cells (vS (crS s) uc ut uo up ui uu) 30) := by rw [hW1]; exact (heap_setCell_same _ _ 4 _ _ _ K5V.out).trans rfl
  have hkW : ∀ b, b ≠ w.heap.size → W1.heap[b]? = w2.heap[b]? := fun b hb => by rw [hW1]; exact (heap_setCell_other _ _ _ _ (by simpa using hb)).trans (O5V.out b hb)
  have hzW : W1.heap.size = w2.heap.size := by rw [hW1]; simpa using Z5V.out
  have BV : Hid (Below w.heap.size w W1) := by rw [hW1]; exact B5V.out.setCell (by simp) _
  have KV := Lh kv
  have KR := Lh ((hkW (w.heap.size + 1) (by omega)).trans HK1V.out)
  have HU1 : Hid (SSl W1 (fun x => S x ∨ (w.heap.size + 1 < x ∧ x < W1.heap.size)) (crS s) uc ut uo up ui uu) := ((HS2V.out.keep (fun q hq => World.cell?_of_block (hkW _ (by
   rcases hq with h | h
   ·have := HSS.out _ h; omega
   ·have := h.1; omega)))).mono (fun x hx => hx.imp id (fun h => ⟨by have := h.1; omega, by rw [hzW]; exact h.2⟩))).like rfl rfl rfl rfl
  have HSU : Hid (∀ x, (S x ∨ (w.heap.size + 1 < x ∧ x < W1.heap.size)) → x < W1.heap.size) := fun x hx => hx.elim (fun h => by have := HSS.out x h; omega) (fun h => h.2)
  have HI1 : Hid (ScIn (crS s) r c) := crS_in HI.out
  have hzw2 : w.heap.size + 1 + 1 ≤ W1.heap.size := by rw [hzW]; omega
  have HZW := Lh hzw2
  clear hzw2 cx fx kv hkW hzW hW1
  go_upto_region 12 with fail
  clear x0 x1 c2 c3 c4
  generalize crS s = s1 at *
 rotate_left
 all_goals as_aux_lemma =>
  have i1 := HI1.out
  have y0 := i1.y0
  have y1 := i1.y1
  have xx0 := i1.x0
  have xx1 := i1.x1
  have hcl1 := i1.cols
  have cc2 := i1.g.c2
  have hlen : s1.cells.length ≤ 1000000 := by rw [i1.g.n]; exact rc_le i1.g.r2 i1.g.c2
  have hpos : 0 < s1.cells.length := by rw [i1.g.n]; exact Nat.mul_pos i1.g.r1 i1.g.c1
  obtain ⟨yy, hyy⟩ : ∃ yy : Nat, s1.y = yy := ⟨s1.y.toNat, by omega⟩
  obtain ⟨xx, hxx⟩ : ∃ xx : Nat, s1.x = xx := ⟨s1.x.toNat, by omega⟩
  have hm : s1.y * s1.cols = ((yy * c : Nat) : Int) := by rw [hyy, hcl1, Int.natCast_mul]
  have hle : yy * c + c ≤ s1.cells.length := by
   rw [i1.g.n]
   have : (yy + 1) * c ≤ r * c := Nat.mul_le_mul_right _ (by omega)
   rw [Nat.add_mul, Nat.one_mul] at this
   exact this
  obtain ⟨ii, hii⟩ : ∃ ii : Nat, ii = atS s1 := ⟨_, rfl⟩
  have hat : s1.y * s1.cols + s1.x = (ii : Int) := by rw [hii]; unfold atS; omega
  have hat2 : ii = yy * c + xx := by omega
  have hil : ii < s1.cells.length := by omega
  have m0 : 0 ≤ s1.y * s1.cols := by omega
  have m1 : s1.y * s1.cols ≤ 1000000 := by omega
  have cs3 : s1.cols ≤ 1000 := by omega
  have cs4 : s1.x < s1.cols := by omega
  have HAT := Lh hat
  have HAT2 := Lh hat2
  have HII := Lh hii
  have HXX := Lh hxx
  have HCL := Lh hcl1
  have HLE := Lh hle
  clear i1 hcl1 hyy hxx hm hle hii hat hat2
  obtain ⟨Ac, kc, rfl, pc, qc⟩ := HU1.out.1.form
  obtain ⟨At, kt, rfl, pt, qt⟩ := HU1.out.2.1.form
  obtain ⟨Ao, ko, rfl, po, qo⟩ := HU1.out.2.2.1.form
  obtain ⟨Ap, kp, rfl, pp, qp⟩ := HU1.out.2.2.2.1.form
  obtain ⟨Ai, ki, rfl, pi, qi⟩ := HU1.out.2.2.2.2.1.form
  obtain ⟨Au, ku, rfl, pu, qu⟩ := HU1.out.2.2.2.2.2.form
  obtain ⟨d2, e2⟩ := cellR (v := .slice Ac s1.cells.length kc) KV.out 2 rfl
  have HC := Lh (HU1.out.1.cs HSU.out)
  go_upto_region 13 with fail
  ((with_reducible refine (own_any _ s1.cells _ HC.out (by omega)).mono ?_); rintro e w4 ⟨v4, rfl, o4, b4⟩)
  obtain ⟨gc, cap, rfl, hg1, hg2, hg3, hg4⟩ := o4.open_ hpos
  have z4 := b4.size
  have hzw := HZW.out
  have h4b : w4.heap[w.heap.size]? = _ := (b4.block _ (by omega)).trans KV.out
  have h41b : w4.heap[w.heap.size + 1]? = _ := (b4.block _ (by omega)).trans KR.out
  obtain ⟨f2, i2⟩ := cellR (v := .slice Ac s1.cells.length kc) h4b 2 rfl
  have B4 := Lh (BV.out.trans (b4.mono (by omega)))
  have HU4 := Lh (HU1.out.below HSU.out b4)
  have O4 := Lh (o4.lower (b2 := W1.heap.size) (Nat.le_refl _))
  have K4 := Lh h4b
  have K41 := Lh h41b
  clear o4 b4 h4b h41b d2 e2
  go_upto_region 13 with fail
  generalize hW5 : World.setCell _ _ _ = W5
  have h5b : W5.heap[w.heap.size]? = some (.cells (vS s1 (.slice (some ⟨gc, 0, none⟩) s1.cells.length cap) (.slice At s1.tabs.length kt) (.slice Ao s1.other.length ko) (.slice Ap s1.p.params.length kp) (.slice Ai s1.p.inter.length ki) (.slice Au s1.p.utf.length ku)) 30) := by rw [← hW5]; exact (heap_setCell_same _ _ 2 _ _ _ K4.out).trans rfl
  have h51b : W5.heap[w.heap.size + 1]? = some (.cells zQ 30) := by rw [← hW5]; exact (heap_setCell_other _ _ _ _ (by simp)).trans K41.out
  have o5 : OC W5 W1.heap.size (.slice (some ⟨gc, 0, none⟩) s1.cells.length cap) s1.cells := by rw [← hW5]; exact O4.out.other _ _ (by simp; omega)
  have z5 : W5.heap.size = w4.heap.size := by rw [← hW5]; simp
  have b5 : Below w.heap.size w W5 := by rw [← hW5]; exact B4.out.setCell (by simp) _
  have u5 : ∀ b, b ≠ w.heap.size → W5.heap[b]? = w4.heap[b]? := fun b hb => by rw [← hW5]; exact heap_setCell_other _ _ _ _ (by simpa using hb)
  obtain ⟨a1, n1'⟩ := cellR (v := .int .i64 s1.cols) h5b 1 rfl
  obtain ⟨a2, n2'⟩ := cellR (v := .slice (some ⟨gc, 0, none⟩) s1.cells.length cap) h5b 2 rfl
  obtain ⟨a3, n3'⟩ := cellR (v := .int .i64 s1.y) h5b 3 rfl
  obtain ⟨a4, n4'⟩ := cellR (v := .int .i64 s1.x) h5b 4 rfl
  obtain ⟨a6, n6'⟩ := cellR (v := .int .u16 (s1.attr : Int)) h5b 6 rfl
  obtain ⟨q0, q1, q2, s0, s1', s2, t0, t1, t2⟩ := o5.spot ii hil
  have K5 := Lh h5b
  have K51 := Lh h51b
  have O5 := Lh o5
  have Z5 := Lh z5
  have B5 := Lh b5
  have U5 := Lh u5
  clear f2 i2 h5b h51b o5 z5 b5 u5 hW5
  go_upto_region 14 with fail
  rw [HAT.out]
  go_upto_region 15 with fail
  generalize hW6 : World.setCell _ _ _ = W6
  have hk6 : ∀ b, b ≠ gc → W6.heap[b]? = W5.heap[b]? := fun b hb => by
   rw [← hW6]
   exact (heap_setCell_other _ _ _ _ (by simpa using hb)).trans ((heap_setCell_other _ _ _ _ (by simpa using hb)).trans (heap_setCell_other _ _ _ _ (by simpa using hb)))
  have h6b := (hk6 w.heap.size (by omega)).trans K5.out
  have h61b := (hk6 (w.heap.size + 1) (by omega)).trans K51.out
  have o6 : OC W6 W1.heap.size (.slice (some ⟨gc, 0, none⟩) s1.cells.length cap) (s1.cells.set ii ⟨rn, s1.attr, 0⟩) := by rw [← hW6]; exact O5.out.put ii hil ⟨rn, s1.attr, 0⟩
  have z6 : W6.heap.size = w4.heap.size := by rw [← hW6]; simpa using Z5.out
  have b6 : Below w.heap.size w W6 := by rw [← hW6]; exact below_put B5.out (by omega) _ _ _ _
  have u6 : ∀ b, b ≠ w.heap.size → b < W1.heap.size → W6.heap[b]? = w4.heap[b]? := fun b hb hb2 => (hk6 b (by omega)).trans (U5.out b hb)
  clear a1 n1' a2 n2' a3 n3' a4 n4' a6 n6' s0 s1' s2 t0 t1 t2 hW6 hk6
  obtain ⟨a1, n1'⟩ := cellR (v := .int .i64 s1.cols) h6b 1 rfl
  obtain ⟨a2, n2'⟩ := cellR (v := .slice (some ⟨gc, 0, none⟩) s1.cells.length cap) h6b 2 rfl
  obtain ⟨a3, n3'⟩ := cellR (v := .int .i64 s1.y) h6b 3 rfl
  obtain ⟨a6, n6'⟩ := cellR (v := .int .u16 (s1.attr : Int)) h6b 6 rfl
  have K6 := Lh h6b
  have K61 := Lh h61b
  have O6 := Lh o6
  have Z6 := Lh z6
  have B6 := Lh b6
  have U6 := Lh u6
  clear h6b h61b o6 z6 b6 u6
  have K7 := K6
  have K71 := K61
  have O7 := O6
  have Z7 := Z6
  have B7 := B6
  have U7 := U6
  have HM7 := Lh O7.out.cs
  go_upto_region 19 with fail
  ((with_reducible refine (Mend_any _ (s1.cells.set ii ⟨rn, s1.attr, 0⟩) s1.cols s1.y _ HM7.out (by simp; omega)).mono ?_); rintro e w8 ⟨v8, rfl, o8, b8⟩)
  have z8 := b8.size
  rw [Z7.out] at z8
  have h8b : w8.heap[w.heap.size]? = _ := (b8.block _ (by rw [Z7.out]; omega)).trans K7.out
  have h81b : w8.heap[w.heap.size + 1]? = _ := (b8.block _ (by rw [Z7.out]; omega)).trans K71.out
  obtain ⟨f2, i2⟩ := cellR (v := .slice (some ⟨gc, 0, none⟩) s1.cells.length cap) h8b 2 rfl
  obtain ⟨A8, q8, rfl, p8, r8⟩ := o8.cs.form
  have B8 := Lh (B7.out.trans (b8.mono (by rw [Z7.out]; omega)))
  have O8 := Lh (o8.lower (b2 := W1.heap.size) (by rw [Z7.out]; omega))
  have U8 : Hid (∀ b, b ≠ w.heap.size → b < W1.heap.size → w8.heap[b]? = w4.heap[b]?) := fun b hb hb2 => (b8.block b (by rw [Z7.out]; omega)).trans (U7.out b hb hb2)
  have K8 := Lh h8b
  have K81 := Lh h81b
  clear o8 b8 h8b h81b a1 n1' a2 n2' a3 n3' a6 n6'
  go_upto_region 19 with fail
  generalize hW9 : World.setCell _ _ _ = W9
  have h9b : W9.heap[w.heap.size]? = some (.cells (vS { s1 with cells := mendL (s1.cells.set ii ⟨rn, s1.attr, 0⟩) s1.cols s1.y } (.slice A8 (mendL (s1.cells.set ii ⟨rn, s1.attr, 0⟩) s1.cols s1.y).length q8) (.slice At s1.tabs.length kt) (.slice Ao s1.other.length ko) (.slice Ap s1.p.params.length kp) (.slice Ai s1.p.inter.length ki) (.slice Au s1.p.utf.length ku)) 30) := by rw [← hW9]; exact (heap_setCell_same _ _ 2 _ _ _ K8.out).trans rfl
  have hk9 : ∀ b, b ≠ w.heap.size → W9.heap[b]? = w8.heap[b]? := fun b hb => by rw [← hW9]; exact heap_setCell_other _ _ _ _ (by simpa using hb)
  have h91b := (hk9 (w.heap.size + 1) (by omega)).trans K81.out
  have z9 : W9.heap.size = w8.heap.size := by rw [← hW9]; simp
  have b9 : Below w.heap.size w W9 := by rw [← hW9]; exact B8.out.setCell (by simp) _
  have o9 : OC W9 W1.heap.size (.slice A8 (mendL (s1.cells.set ii ⟨rn, s1.attr, 0⟩) s1.cols s1.y).length q8) (mendL (s1.cells.set ii ⟨rn, s1.attr, 0⟩) s1.cols s1.y) := by rw [← hW9]; exact O8.out.other _ _ (by simp; omega)
  have u9 : ∀ b, b ≠ w.heap.size → b < W1.heap.size → W9.heap[b]? = w4.heap[b]? := fun b hb hb2 => by rw [← hW9]; exact (heap_setCell_other _ _ _ _ (by simpa using hb)).trans (U8.out b hb hb2)
  obtain ⟨a1, n1'⟩ := cellR (v := .int .i64 s1.cols) h9b 1 rfl
  obtain ⟨a4, n4'⟩ := cellR (v := .int .i64 s1.x) h9b 4 rfl
  obtain ⟨a5, n5'⟩ := cellR (v := .bool s1.wrap) h9b 5 rfl
  obtain ⟨a13, n13'⟩ := cellR (v := .bool s1.auto) h9b 13 rfl
  have K9 := Lh h9b
  have K91 := Lh h91b
  have O9 := Lh o9
  have Z9 := Lh z9
  have B9 := Lh b9
  have U9 := Lh u9
  clear f2 i2 h9b h91b o9 z9 b9 u9 hW9 hk9
  have HSUW : Hid (∀ W : World, (∀ b, b ≠ w.heap.size → b < W1.heap.size → W.heap[b]? = w4.heap[b]?) → w8.heap.size ≤ W.heap.size → SSl W (fun x => S x ∨ (w.heap.size + 1 < x ∧ x < W.heap.size)) { s1 with cells := s1.cells } (.slice Ac s1.cells.length kc) (.slice At s1.tabs.length kt) (.slice Ao s1.other.length ko) (.slice Ap s1.p.params.length kp) (.slice Ai s1.p.inter.length ki) (.slice Au s1.p.utf.length ku)) := fun W hW hz => (HU4.out.keep (fun q hq => World.cell?_of_block (hW _ (by
   rcases hq with h | h
   ·have := HSS.out _ h; omega
   ·omega) (HSU.out _ hq)))).mono (fun x hx => hx.imp id (fun h => ⟨h.1, by omega⟩))
  by_cases hend : s1.cols ≤ s1.x + 1
  ·have hputs : putS s1 rn 1 = { s1 with cells := mendL (s1.cells.set ii ⟨rn, s1.attr, 0⟩) s1.cols s1.y, x := s1.cols - 1, wrap := s1.auto } := by
    unfold putS
    rw [if_pos hend]
    simp [cells1, cells2, ← HII.out]
   have HPUT := Lh hputs
   clear hputs
   go_upto_region 22 with fail
   refine wp_region_lit ?_
   refine wpl_loadS rfl (.tmp 2) rfl rfl ((heap_setCell_same _ _ 5 _ _ _ ((heap_setCell_same _ _ 4 _ _ _ ((heap_setCell_same _ _ 4 _ _ _ K9.out).trans rfl)).trans rfl)).trans rfl) rfl ?_
   have HR1 := (heap_setCell_other (((W9.setCell ⟨w.heap.size, 4, none⟩ (.int .i64 (s1.x + 1))).setCell ⟨w.heap.size, 4, none⟩ (.int .i64 (s1.cols - 1)))) ⟨w.heap.size, 5, none⟩ (w.heap.size + 1) (.bool s1.auto) (by simp)).trans ((heap_setCell_other _ _ _ _ (by simp)).trans ((heap_setCell_other _ _ _ _ (by simp)).trans K91.out))
   refine wpl_storeS rfl (.tmp 4) (.tmp 99) rfl rfl rfl HR1 rfl rfl all25 ?_
   go_wp2
   have hsold := HSUW.out (((W9.setCell ⟨w.heap.size, 4, none⟩ (.int .i64 (s1.x + 1))).setCell ⟨w.heap.size, 4, none⟩ (.int .i64 (s1.cols - 1))).setCell ⟨w.heap.size, 5, none⟩ (.bool s1.auto)) (fun b hb hb2 => (heap_setCell_other _ _ _ _ (by simpa using hb)).trans ((heap_setCell_other _ _ _ _ (by simpa using hb)).trans ((heap_setCell_other _ _ _ _ (by simpa using hb)).trans (U9.out b hb hb2)))) (by simp; rw [Z9.out]; exact Nat.le_refl _)
   rw [HPUT.out]
   refine scEndV (s := { s1 with cells := mendL (s1.cells.set ii ⟨rn, s1.attr, 0⟩) s1.cols s1.y, x := s1.cols - 1, wrap := s1.auto }) (w.heap.size + 1) 4 Tryz.results72 ?_ ?_ HR1 (by omega) (((B9.out.setCell (by simp) _).setCell (by simp) _).setCell (by simp) _) HSS.out ⟨((((O9.out.other _ _ (by simp; omega)).other _ _ (by simp; omega)).other _ _ (by simp; omega)).cl.mono (fun x hx => .inr ⟨by have := hx.1; omega, hx.2⟩)), hsold.2⟩ (fun x hx => hx)
   all_goals rfl
  ·have hputs : putS s1 rn 1 = { s1 with cells := mendL (s1.cells.set ii ⟨rn, s1.attr, 0⟩) s1.cols s1.y, x := s1.x + 1 } := by
    unfold putS
    rw [if_neg (by omega)]
    simp [cells1, cells2, ← HII.out]
   have HPUT := Lh hputs
   clear hputs
   go_upto_region 22 with fail
   refine wp_region_lit ?_
   refine wpl_loadS rfl (.tmp 2) rfl rfl ((heap_setCell_same _ _ 4 _ _ _ K9.out).trans rfl) rfl ?_
   have HR1 := (heap_setCell_other W9 ⟨w.heap.size, 4, none⟩ (w.heap.size + 1) (.int .i64 (s1.x + 1)) (by simp)).trans K91.out
   refine wpl_storeS rfl (.tmp 4) (.tmp 99) rfl rfl rfl HR1 rfl rfl all25 ?_
   go_wp2
   have hsold := HSUW.out (W9.setCell ⟨w.heap.size, 4, none⟩ (.int .i64 (s1.x + 1))) (fun b hb hb2 => (heap_setCell_other _ _ _ _ (by simpa using hb)).trans (U9.out b hb hb2)) (by simp; rw [Z9.out]; exact Nat.le_refl _)
   rw [HPUT.out]
   refine scEndV (s := { s1 with cells := mendL (s1.cells.set ii ⟨rn, s1.attr, 0⟩) s1.cols s1.y, x := s1.x + 1 }) (w.heap.size + 1) 4 Tryz.results72 ?_ ?_ HR1 (by omega) (B9.out.setCell (by simp) _) HSS.out ⟨((O9.out.other _ _ (by simp; omega)).cl.mono (fun x hx => .inr ⟨by have := hx.1; omega, hx.2⟩)), hsold.2⟩ (fun x hx => hx)
   all_goals rfl
theorem printr_e0 (v : Value) (s : Sc) (rn : Int) (r c : Nat) (S : Nat → Prop) (w : World) (hS : ∀ x, S x → x < w.heap.size) (h : SCV w S v s) (hi : ScIn s r c) (n0 : -2147483648 ≤ rn) (n1 : rn ≤ 2147483647) (hwd : widthL rn = 2) (hwr : s.wrap = false) (hed : s.x = s.cols - 1) (hno : s.auto = false ∨ s.cols = 1) : Calls Tryz.prog 72 #[v, .int .i32 rn] w (ScPost S s w) := by
 have HSS := Lh hS
 clear hS
 obtain ⟨vc, vt, vo, vp, vi, vu, rfl, hs⟩ := h
 have HS := Lh hs
 obtain ⟨A1, kk1, A2, k2, A3, k3, A4, k4, A5, k5, A6, k6, rfl, rfl, rfl, rfl, rfl, rfl, p1, q1, p2, q2, p3, q3, p4, q4, p5, q5, p6, q6⟩ := sslSix hs
 have HI := Lh hi
 have x0 := hi.x0
 have x1 := hi.x1
 have hcl := hi.cols
 have c2 := hi.g.c2
 have c3 : s.cols ≤ 1000 := by omega
 have c4 : s.x < s.cols := by omega
 clear hi hcl
 have HWD := Lh hwd
 clear hwd
 have h2 := two_new w (.cells (vA s A1 A2 A3 A4 A5 A6 kk1 k2 k3 k4 k5 k6) 30) (.cells zQ 30)
 have HS2 : Hid (∀ x, S x → x < _) := fun x hx => Nat.lt_of_lt_of_le (HSS.out x hx) h2.1.size
 have H2 := Lh h2
 go_enter Tryz.func72, Tryz.ntmps72
 go_upto_region 4 with fail
 ((with_reducible refine (widthr_any rn n0 n1 _).mono ?_); rintro e w1 ⟨rfl, b1⟩)
 have hb1 : Below (w.heap.size + 1 + 1) _ w1 := (by rw [← H2.out.2]; exact b1)
 obtain ⟨k0, k1⟩ := two_keptB hb1
 have z1 := b1.size
 rw [H2.out.2] at z1
 have B1 := Lh (H2.out.1.trans (hb1.mono (by omega)))
 obtain ⟨d5, i5⟩ := cellR (v := .bool s.wrap) k0 5 rfl
 have K0 := Lh k0
 have K1 := Lh k1
 clear b1 hb1 k0 k1 h2
 rw [HWD.out]
 rw [hwr] at d5
 have HWR := Lh hwr
 clear hwr
 have hed1 : (s.x == s.cols - 1) = true := by simpa using hed
 have HED := Lh hed
 clear hed
 obtain ⟨e1, j1⟩ := cellR (v := .int .i64 s.cols) K0.out 1 rfl
 obtain ⟨e4, j4⟩ := cellR (v := .int .i64 s.x) K0.out 4 rfl
 obtain ⟨e13, j13⟩ := cellR (v := .bool s.auto) K0.out 13 rfl
 by_cases ha : s.auto = false
 ·rw [ha] at e13
  have HA := Lh ha
  clear ha hno
  go_upto_region 9 with fail
  refine wp_region_lit ?_
  refine wpl_loadS rfl (.tmp 2) rfl rfl (K0.out) rfl ?_
  refine wpl_storeS rfl (.tmp 4) (.tmp 35) rfl rfl rfl (K1.out) rfl rfl all25 ?_
  go_wp2
  refine scEnd (w.heap.size + 1) 4 Tryz.results72 ?_ ?_ (K1.out) (by omega) B1.out HSS.out (HS.out.like ?_ ?_ ?_ ?_)
  all_goals rfl
 ·have ha2 : s.auto = true := by simpa using ha
  have hc1 : s.cols = 1 := hno.elim (fun h => absurd h ha) id
  have hc2 : (s.cols == 1) = true := by simpa using hc1
  rw [ha2] at e13
  have HA := Lh ha2
  clear ha ha2 hc1 hno
  go_upto_region 9 with fail
  refine wp_region_lit ?_
  refine wpl_loadS rfl (.tmp 2) rfl rfl (K0.out) rfl ?_
  refine wpl_storeS rfl (.tmp 4) (.tmp 35) rfl rfl rfl (K1.out) rfl rfl all25 ?_
  go_wp2
  refine scEnd (w.heap.size + 1) 4 Tryz.results72 ?_ ?_ (K1.out) (by omega) B1.out HSS.out (HS.out.like ?_ ?_ ?_ ?_)
  all_goals rfl
theorem printr_w0 (v : Value) (s : Sc) (rn : Int) (r c : Nat) (S : Nat → Prop) (w : World) (hS : ∀ x, S x → x < w.heap.size) (h : SCV w S v s) (hi : ScIn s r c) (n0 : -2147483648 ≤ rn) (n1 : rn ≤ 2147483647) (hwd : widthL rn = 2) (hwr : s.wrap = true) (hc1 : s.cols = 1) : Calls Tryz.prog 72 #[v, .int .i32 rn] w (ScPost S (crS s) w) := by
 have HSS := Lh hS
 clear hS
 obtain ⟨vc, vt, vo, vp, vi, vu, rfl, hs⟩ := h
 have HS := Lh hs
 obtain ⟨A1, kk1, A2, k2, A3, k3, A4, k4, A5, k5, A6, k6, rfl, rfl, rfl, rfl, rfl, rfl, p1, q1, p2, q2, p3, q3, p4, q4, p5, q5, p6, q6⟩ := sslSix hs
 have HI := Lh hi
 have x0 := hi.x0
 have x1 := hi.x1
 have hcl := hi.cols
 have c2 := hi.g.c2
 have c3 : s.cols ≤ 1000 := by omega
 have c4 : s.x < s.cols := by omega
 clear hi hcl
 have HWD := Lh hwd
 clear hwd
 have h2 := two_new w (.cells (vA s A1 A2 A3 A4 A5 A6 kk1 k2 k3 k4 k5 k6) 30) (.cells zQ 30)
 have HS2 : Hid (∀ x, S x → x < _) := fun x hx => Nat.lt_of_lt_of_le (HSS.out x hx) h2.1.size
 have H2 := Lh h2
 go_enter Tryz.func72, Tryz.ntmps72
 go_upto_region 4 with fail
 ((with_reducible refine (widthr_any rn n0 n1 _).mono ?_); rintro e w1 ⟨rfl, b1⟩)
 have hb1 : Below (w.heap.size + 1 + 1) _ w1 := (by rw [← H2.out.2]; exact b1)
 obtain ⟨k0, k1⟩ := two_keptB hb1
 have z1 := b1.size
 rw [H2.out.2] at z1
 have B1 := Lh (H2.out.1.trans (hb1.mono (by omega)))
 obtain ⟨d5, i5⟩ := cellR (v := .bool s.wrap) k0 5 rfl
 have K0 := Lh k0
 have K1 := Lh k1
 clear b1 hb1 k0 k1 h2
 rw [HWD.out]
 rw [hwr] at d5
 have HWR := Lh hwr
 clear hwr
 have HC1 := Lh hc1
 clear hc1
 have HV := Lh (show SCV w1 S (.agg (vA s A1 A2 A3 A4 A5 A6 kk1 k2 k3 k4 k5 k6)) s from ⟨_, _, _, _, _, _, rfl, HS.out.below HSS.out B1.out⟩)
 have HS1 : Hid (∀ x, S x → x < w1.heap.size) := fun x hx => by have := HSS.out x hx; omega
 go_upto_region 5 with fail
 refine wp_region_lit ?_
 refine wpl_loadS rfl (.tmp 2) rfl rfl K0.out rfl ?_
 go_wp2_with fail
 ((with_reducible refine (downr_any _ s r c S _ HS1.out HV.out HI.out).mono ?_); rintro e w2 ⟨v2, rfl, hv2, b2⟩)
 have z2 := b2.size
 obtain ⟨uc, ut, uo, up, ui, uu, rfl, hs2⟩ := hv2
 have hk0 : w2.heap[w.heap.size]? = _ := (b2.block _ (by omega)).trans K0.out
 have hk1 : w2.heap[w.heap.size + 1]? = _ := (b2.block _ (by omega)).trans K1.out
 rename_i K hK
 refine hK _ _ ?_
 clear hK
 refine wpl_storeS rfl (.tmp 2) (.tmp 15) rfl rfl rfl hk0 rfl rfl hs2.one ?_
 obtain ⟨W5, hW5⟩ : ∃ W5, W5 = w2.setRow w.heap.size (vS (downS s) uc ut uo up ui uu) := ⟨_, rfl⟩
 rw [← hW5]
 have k5v : W5.heap[w.heap.size]? = some (.cells (vS (downS s) uc ut uo up ui uu) 30) := by rw [hW5]; exact heap_setRow_same hk0
 have o5v : ∀ b, b ≠ w.heap.size → W5.heap[b]? = w2.heap[b]? := fun b hb => by rw [hW5]; exact heap_setRow_other (fun e => hb e.symm)
 have z5v : W5.heap.size = w2.heap.size := by rw [hW5, size_setRow]
 have b5v : Below w.heap.size w W5 := by rw [hW5]; exact below_setRow (B1.out.trans (b2.mono (by omega))) (Nat.le_refl _) _
 obtain ⟨cx, fx⟩ := cellR (v := .int .i64 (downS s).x) k5v 4 rfl
 have K5V := Lh k5v
 have O5V := Lh o5v
 have Z5V := Lh z5v
 have B5V := Lh b5v
 have HS2V := Lh hs2
 have HK1V := Lh hk1
 clear k5v o5v z5v b5v hs2 hW5 hk0 hk1 b2 d5 i5
 go_simp
 go_upto_region 7 with fail
 obtain ⟨W1, hW1⟩ : ∃ W1, W1 = W5.setCell ⟨w.heap.size, 4, none⟩ (.int .i64 0) := ⟨_, rfl⟩
 rw [← hW1]
 have kv : W1.heap[w.heap.size]? = some (.cells (vS (crS s) uc ut uo up ui uu) 30) := by rw [hW1]; exact (heap_setCell_same _ _ 4 _ _ _ K5V.out).trans rfl
 have hkW : ∀ b, b ≠ w.heap.size → W1.heap[b]? = w2.heap[b]? := fun b hb => by rw [hW1]; exact (heap_setCell_other _ _ _ _ (by simpa using hb)).trans (O5V.out b hb)
 have hzW : W1.heap.size = w2.heap.size := by rw [hW1]; simpa using Z5V.out
 have BV : Hid (Below w.heap.size w W1) := by rw [hW1]; exact B5V.out.setCell (by simp) _
 have KV := Lh kv
 have KR := Lh ((hkW (w.heap.size + 1) (by omega)).trans HK1V.out)
 have HU1 : Hid (SSl W1 (fun x => S x ∨ (w.heap.size + 1 < x ∧ x < W1.heap.size)) (crS s) uc ut uo up ui uu) := ((HS2V.out.keep (fun q hq => World.cell?_of_block (hkW _ (by
  rcases hq with h | h
  ·have := HSS.out _ h; omega
  ·have := h.1; omega)))).mono (fun x hx => hx.imp id (fun h => ⟨by have := h.1; omega, by rw [hzW]; exact h.2⟩))).like rfl rfl rfl rfl
 have HSU : Hid (∀ x, (S x ∨ (w.heap.size + 1 < x ∧ x < W1.heap.size)) → x < W1.heap.size) := fun x hx => hx.elim (fun h => by have := HSS.out x h; omega) (fun h => h.2)
 have HI1 : Hid (ScIn (crS s) r c) := crS_in HI.out
 have hzw2 : w.heap.size + 1 + 1 ≤ W1.heap.size := by rw [hzW]; omega
 have HZW := Lh hzw2
 clear hzw2 cx fx kv hkW hzW hW1
 have hcc : (crS s).cols = 1 := by
  have : (crS s).cols = s.cols := by
   unfold crS downS
   split
   ·rfl
   ·split <;> rfl
  rw [this]
  exact HC1.out
 obtain ⟨e1, j1⟩ := cellR (v := .int .i64 1) KV.out 1 (by rw [← hcc]; rfl)
 obtain ⟨e4, j4⟩ := cellR (v := .int .i64 0) KV.out 4 rfl
 obtain ⟨e13, j13⟩ := cellR (v := .bool (crS s).auto) KV.out 13 rfl
 clear hcc
 cases ha : (crS s).auto with
 | true =>
  rw [ha] at e13
  have HA := Lh ha
  clear ha
  go_upto_region 9 with fail
  refine wp_region_lit ?_
  refine wpl_loadS rfl (.tmp 2) rfl rfl KV.out rfl ?_
  refine wpl_storeS rfl (.tmp 4) (.tmp 35) rfl rfl rfl KR.out rfl rfl HU1.out.one ?_
  go_wp2
  refine scEndV (w.heap.size + 1) 4 Tryz.results72 ?_ ?_ KR.out (by omega) BV.out HSS.out HU1.out (fun x hx => hx)
  all_goals rfl
 | false =>
  rw [ha] at e13
  have HA := Lh ha
  clear ha
  go_upto_region 9 with fail
  refine wp_region_lit ?_
  refine wpl_loadS rfl (.tmp 2) rfl rfl KV.out rfl ?_
  refine wpl_storeS rfl (.tmp 4) (.tmp 35) rfl rfl rfl KR.out rfl rfl HU1.out.one ?_
  go_wp2
  refine scEndV (w.heap.size + 1) 4 Tryz.results72 ?_ ?_ KR.out (by omega) BV.out HSS.out HU1.out (fun x hx => hx)
  all_goals rfl
theorem printr_p2 (v : Value) (s : Sc) (rn : Int) (r c : Nat) (S : Nat → Prop) (w : World) (hS : ∀ x, S x → x < w.heap.size) (h : SCV w S v s) (hi : ScIn s r c) (n0 : -2147483648 ≤ rn) (n1 : rn ≤ 2147483647) (hwd : widthL rn = 2) (hwr : s.wrap = false) (hed : ¬ s.x = s.cols - 1) : Calls Tryz.prog 72 #[v, .int .i32 rn] w (ScPost S (putS s rn 2) w) := by
 have HSS := Lh hS
 clear hS
 obtain ⟨vc, vt, vo, vp, vi, vu, rfl, hs⟩ := h
 have HS := Lh hs
 obtain ⟨A1, kk1, A2, k2, A3, k3, A4, k4, A5, k5, A6, k6, rfl, rfl, rfl, rfl, rfl, rfl, p1, q1, p2, q2, p3, q3, p4, q4, p5, q5, p6, q6⟩ := sslSix hs
 have HI := Lh hi
 have x0 := hi.x0
 have x1 := hi.x1
 have hcl := hi.cols
 have c2 := hi.g.c2
 have c3 : s.cols ≤ 1000 := by omega
 have c4 : s.x < s.cols := by omega
 clear hi hcl
 have HWD := Lh hwd
 clear hwd
 have h2 := two_new w (.cells (vA s A1 A2 A3 A4 A5 A6 kk1 k2 k3 k4 k5 k6) 30) (.cells zQ 30)
 have HS2 : Hid (∀ x, S x → x < _) := fun x hx => Nat.lt_of_lt_of_le (HSS.out x hx) h2.1.size
 have H2 := Lh h2
 go_enter Tryz.func72, Tryz.ntmps72
 go_upto_region 4 with fail
 ((with_reducible refine (widthr_any rn n0 n1 _).mono ?_); rintro e w1 ⟨rfl, b1⟩)
 have hb1 : Below (w.heap.size + 1 + 1) _ w1 := (by rw [← H2.out.2]; exact b1)
 obtain ⟨k0, k1⟩ := two_keptB hb1
 have z1 := b1.size
 rw [H2.out.2] at z1
 have B1 := Lh (H2.out.1.trans (hb1.mono (by omega)))
 obtain ⟨d5, i5⟩ := cellR (v := .bool s.wrap) k0 5 rfl
 have K0 := Lh k0
 have K1 := Lh k1
 clear b1 hb1 k0 k1 h2
 rw [HWD.out]
 rw [hwr] at d5
 clear hwr
 have hed1 : (s.x == s.cols - 1) = false := by simpa using hed
 have HEDGE := Lh (show s.x + 1 < s.cols by omega)
 obtain ⟨e1, j1⟩ := cellR (v := .int .i64 s.cols) K0.out 1 rfl
 obtain ⟨e4, j4⟩ := cellR (v := .int .i64 s.x) K0.out 4 rfl
 go_upto_region 12 with fail
 have HU1 := Lh ((HS.out.below HSS.out B1.out).mono (S' := fun x => S x ∨ (w.heap.size + 1 < x ∧ x < w1.heap.size)) (fun x hx => .inl hx))
 have HSU : Hid (∀ x, (S x ∨ (w.heap.size + 1 < x ∧ x < w1.heap.size)) → x < w1.heap.size) := fun x hx => hx.elim (fun h => by have := HSS.out x h; omega) (fun h => h.2)
 have KV := K0
 have KR := K1
 have BV := B1
 have HI1 := HI
 have HZW : Hid (w.heap.size + 1 + 1 ≤ w1.heap.size) := z1
 clear d5 i5 x0 x1 c2 c3 c4 e1 j1 e4 j4 hed1 hed
 generalize hW1 : w1 = W1 at *
 generalize hs1 : s = s1 at *
 have i1 := HI1.out
 have y0 := i1.y0
 have y1 := i1.y1
 have xx0 := i1.x0
 have xx1 := i1.x1
 have hcl1 := i1.cols
 have cc2 := i1.g.c2
 have hlen : s1.cells.length ≤ 1000000 := by rw [i1.g.n]; exact rc_le i1.g.r2 i1.g.c2
 have hpos : 0 < s1.cells.length := by rw [i1.g.n]; exact Nat.mul_pos i1.g.r1 i1.g.c1
 obtain ⟨yy, hyy⟩ : ∃ yy : Nat, s1.y = yy := ⟨s1.y.toNat, by omega⟩
 obtain ⟨xx, hxx⟩ : ∃ xx : Nat, s1.x = xx := ⟨s1.x.toNat, by omega⟩
 have hm : s1.y * s1.cols = ((yy * c : Nat) : Int) := by rw [hyy, hcl1, Int.natCast_mul]
 have hle : yy * c + c ≤ s1.cells.length := by
  rw [i1.g.n]
  have : (yy + 1) * c ≤ r * c := Nat.mul_le_mul_right _ (by omega)
  rw [Nat.add_mul, Nat.one_mul] at this
  exact this
 obtain ⟨ii, hii⟩ : ∃ ii : Nat, ii = atS s1 := ⟨_, rfl⟩
 have hat : s1.y * s1.cols + s1.x = (ii : Int) := by rw [hii]; unfold atS; omega
 have hat2 : ii = yy * c + xx := by omega
 have hil : ii < s1.cells.length := by omega
 have m0 : 0 ≤ s1.y * s1.cols := by omega
 have m1 : s1.y * s1.cols ≤ 1000000 := by omega
 have cs3 : s1.cols ≤ 1000 := by omega
 have cs4 : s1.x < s1.cols := by omega
 have HAT := Lh hat
 have HAT2 := Lh hat2
 have HII := Lh hii
 have HXX := Lh hxx
 have HCL := Lh hcl1
 have HLE := Lh hle
 clear i1 hcl1 hyy hxx hm hle hii hat hat2
 obtain ⟨d2, e2⟩ := cellR (v := .slice A1 s1.cells.length kk1) KV.out 2 rfl
 have HC := Lh (HU1.out.1.cs HSU.out)
 go_upto_region 13 with fail
 ((with_reducible refine (own_any _ s1.cells _ HC.out (by omega)).mono ?_); rintro e w4 ⟨v4, rfl, o4, b4⟩)
 obtain ⟨gc, cap, rfl, hg1, hg2, hg3, hg4⟩ := o4.open_ hpos
 have z4 := b4.size
 have hzw := HZW.out
 have h4b : w4.heap[w.heap.size]? = _ := (b4.block _ (by omega)).trans KV.out
 have h41b : w4.heap[w.heap.size + 1]? = _ := (b4.block _ (by omega)).trans KR.out
 obtain ⟨f2, i2⟩ := cellR (v := .slice A1 s1.cells.length kk1) h4b 2 rfl
 have B4 := Lh (BV.out.trans (b4.mono (by omega)))
 have HU4 := Lh (HU1.out.below HSU.out b4)
 have O4 := Lh (o4.lower (b2 := W1.heap.size) (Nat.le_refl _))
 have K4 := Lh h4b
 have K41 := Lh h41b
 clear o4 b4 h4b h41b d2 e2
 go_upto_region 13 with fail
 generalize hW5 : World.setCell _ _ _ = W5
 have h5b : W5.heap[w.heap.size]? = some (.cells (vS s1 (.slice (some ⟨gc, 0, none⟩) s1.cells.length cap) (.slice A2 s1.tabs.length k2) (.slice A3 s1.other.length k3) (.slice A4 s1.p.params.length k4) (.slice A5 s1.p.inter.length k5) (.slice A6 s1.p.utf.length k6)) 30) := by rw [← hW5]; exact (heap_setCell_same _ _ 2 _ _ _ K4.out).trans rfl
 have h51b : W5.heap[w.heap.size + 1]? = some (.cells zQ 30) := by rw [← hW5]; exact (heap_setCell_other _ _ _ _ (by simp)).trans K41.out
 have o5 : OC W5 W1.heap.size (.slice (some ⟨gc, 0, none⟩) s1.cells.length cap) s1.cells := by rw [← hW5]; exact O4.out.other _ _ (by simp; omega)
 have z5 : W5.heap.size = w4.heap.size := by rw [← hW5]; simp
 have b5 : Below w.heap.size w W5 := by rw [← hW5]; exact B4.out.setCell (by simp) _
 have u5 : ∀ b, b ≠ w.heap.size → W5.heap[b]? = w4.heap[b]? := fun b hb => by rw [← hW5]; exact heap_setCell_other _ _ _ _ (by simpa using hb)
 obtain ⟨a1, n1'⟩ := cellR (v := .int .i64 s1.cols) h5b 1 rfl
 obtain ⟨a2, n2'⟩ := cellR (v := .slice (some ⟨gc, 0, none⟩) s1.cells.length cap) h5b 2 rfl
 obtain ⟨a3, n3'⟩ := cellR (v := .int .i64 s1.y) h5b 3 rfl
 obtain ⟨a4, n4'⟩ := cellR (v := .int .i64 s1.x) h5b 4 rfl
 obtain ⟨a6, n6'⟩ := cellR (v := .int .u16 (s1.attr : Int)) h5b 6 rfl
 obtain ⟨q0, q1, q2, s0, s1', s2, t0, t1, t2⟩ := o5.spot ii hil
 have K5 := Lh h5b
 have K51 := Lh h51b
 have O5 := Lh o5
 have Z5 := Lh z5
 have B5 := Lh b5
 have U5 := Lh u5
 clear f2 i2 h5b h51b o5 z5 b5 u5 hW5
 go_upto_region 14 with fail
 rw [HAT.out]
 go_upto_region 15 with fail
 generalize hW6 : World.setCell _ _ _ = W6
 have hk6 : ∀ b, b ≠ gc → W6.heap[b]? = W5.heap[b]? := fun b hb => by
  rw [← hW6]
  exact (heap_setCell_other _ _ _ _ (by simpa using hb)).trans ((heap_setCell_other _ _ _ _ (by simpa using hb)).trans (heap_setCell_other _ _ _ _ (by simpa using hb)))
 have h6b := (hk6 w.heap.size (by omega)).trans K5.out
 have h61b := (hk6 (w.heap.size + 1) (by omega)).trans K51.out
 have o6 : OC W6 W1.heap.size (.slice (some ⟨gc, 0, none⟩) s1.cells.length cap) (s1.cells.set ii ⟨rn, s1.attr, 0⟩) := by rw [← hW6]; exact O5.out.put ii hil ⟨rn, s1.attr, 0⟩
 have z6 : W6.heap.size = w4.heap.size := by rw [← hW6]; simpa using Z5.out
 have b6 : Below w.heap.size w W6 := by rw [← hW6]; exact below_put B5.out (by omega) _ _ _ _
 have u6 : ∀ b, b ≠ w.heap.size → b < W1.heap.size → W6.heap[b]? = w4.heap[b]? := fun b hb hb2 => (hk6 b (by omega)).trans (U5.out b hb)
 clear a1 n1' a2 n2' a3 n3' a4 n4' a6 n6' s0 s1' s2 t0 t1 t2 hW6 hk6
 obtain ⟨a1, n1'⟩ := cellR (v := .int .i64 s1.cols) h6b 1 rfl
 obtain ⟨a2, n2'⟩ := cellR (v := .slice (some ⟨gc, 0, none⟩) s1.cells.length cap) h6b 2 rfl
 obtain ⟨a3, n3'⟩ := cellR (v := .int .i64 s1.y) h6b 3 rfl
 obtain ⟨a6, n6'⟩ := cellR (v := .int .u16 (s1.attr : Int)) h6b 6 rfl
 have K6 := Lh h6b
 have K61 := Lh h61b
 have O6 := Lh o6
 have Z6 := Lh z6
 have B6 := Lh b6
 have U6 := Lh u6
 clear h6b h61b o6 z6 b6 u6
 have hil2 : ii + 1 < s1.cells.length := by have := HAT2.out; have := HLE.out; have := HXX.out; have := HCL.out; have := HEDGE.out; omega
 have hset : (s1.cells.set ii ⟨rn, s1.attr, 0⟩)[ii]? = some (⟨rn, s1.attr, 0⟩ : Cl) := by rw [List.getElem?_set, if_pos rfl, if_pos hil]
 have o7 := O6.out.half ii _ hset 1
 rw [List.set_set] at o7
 have HO7 := Lh o7
 obtain ⟨q0, q1, q2, s0, s1', s2, t0, t1, t2⟩ := O6.out.spot ii hil
 obtain ⟨q3, q4, q5, s3, s4, s5, t3, t4, t5⟩ := O6.out.spot (ii + 1) hil2
 have hne5 : ¬ (ii + 1) * 3 = ii * 3 + 2 := by omega
 have hne6 : ¬ (ii + 1) * 3 + 1 = ii * 3 + 2 := by omega
 have hne7 : ¬ (ii + 1) * 3 + 2 = ii * 3 + 2 := by omega
 clear o7 hset
 go_upto_region 18 with fail
 generalize hW7 : World.setCell _ _ _ = W7
 have hk7 : ∀ b, b ≠ gc → W7.heap[b]? = W6.heap[b]? := fun b hb => by
  rw [← hW7]
  exact (heap_setCell_other _ _ _ _ (by simpa using hb)).trans ((heap_setCell_other _ _ _ _ (by simpa using hb)).trans ((heap_setCell_other _ _ _ _ (by simpa using hb)).trans (heap_setCell_other _ _ _ _ (by simpa using hb))))
 have o8 : OC W7 W1.heap.size (.slice (some ⟨gc, 0, none⟩) s1.cells.length cap) ((s1.cells.set ii ⟨rn, s1.attr, 1⟩).set (ii + 1) ⟨0, s1.attr, 2⟩) := by rw [← hW7]; exact HO7.out.put (ii + 1) hil2 ⟨0, s1.attr, 2⟩
 have z7 : W7.heap.size = w4.heap.size := by rw [← hW7]; simpa using Z6.out
 have b7 : Below w.heap.size w W7 := by rw [← hW7]; exact below_put (B6.out.setCell (by simp; omega) _) (by omega) _ _ _ _
 have K7 := Lh ((hk7 w.heap.size (by omega)).trans K6.out)
 have K71 := Lh ((hk7 (w.heap.size + 1) (by omega)).trans K61.out)
 have O7 := Lh o8
 have Z7 := Lh z7
 have B7 := Lh b7
 have U7 : Hid (∀ b, b ≠ w.heap.size → b < W1.heap.size → W7.heap[b]? = w4.heap[b]?) := fun b hb hb2 => (hk7 b (by omega)).trans (U6.out b hb hb2)
 clear s0 s1' s2 t0 t1 t2 s3 s4 s5 t3 t4 t5 hne5 hne6 hne7 o8 z7 b7 hW7 hk7 a1 n1' a2 n2' a3 n3' a6 n6'
 obtain ⟨a1, n1'⟩ := cellR (v := .int .i64 s1.cols) K7.out 1 rfl
 obtain ⟨a2, n2'⟩ := cellR (v := .slice (some ⟨gc, 0, none⟩) s1.cells.length cap) K7.out 2 rfl
 obtain ⟨a3, n3'⟩ := cellR (v := .int .i64 s1.y) K7.out 3 rfl
 obtain ⟨a6, n6'⟩ := cellR (v := .int .u16 (s1.attr : Int)) K7.out 6 rfl
 have HM7 := Lh O7.out.cs
 go_upto_region 19 with fail
 ((with_reducible refine (Mend_any _ ((s1.cells.set ii ⟨rn, s1.attr, 1⟩).set (ii + 1) ⟨0, s1.attr, 2⟩) s1.cols s1.y _ HM7.out (by simp; omega)).mono ?_); rintro e w8 ⟨v8, rfl, o8, b8⟩)
 have z8 := b8.size
 rw [Z7.out] at z8
 have h8b : w8.heap[w.heap.size]? = _ := (b8.block _ (by rw [Z7.out]; omega)).trans K7.out
 have h81b : w8.heap[w.heap.size + 1]? = _ := (b8.block _ (by rw [Z7.out]; omega)).trans K71.out
 obtain ⟨f2, i2⟩ := cellR (v := .slice (some ⟨gc, 0, none⟩) s1.cells.length cap) h8b 2 rfl
 obtain ⟨A8, q8, rfl, p8, r8⟩ := o8.cs.form
 have B8 := Lh (B7.out.trans (b8.mono (by rw [Z7.out]; omega)))
 have O8 := Lh (o8.lower (b2 := W1.heap.size) (by rw [Z7.out]; omega))
 have U8 : Hid (∀ b, b ≠ w.heap.size → b < W1.heap.size → w8.heap[b]? = w4.heap[b]?) := fun b hb hb2 => (b8.block b (by rw [Z7.out]; omega)).trans (U7.out b hb hb2)
 have K8 := Lh h8b
 have K81 := Lh h81b
 clear o8 b8 h8b h81b a1 n1' a2 n2' a3 n3' a6 n6'
 go_upto_region 19 with fail
 generalize hW9 : World.setCell _ _ _ = W9
 have h9b : W9.heap[w.heap.size]? = some (.cells (vS { s1 with cells := mendL ((s1.cells.set ii ⟨rn, s1.attr, 1⟩).set (ii + 1) ⟨0, s1.attr, 2⟩) s1.cols s1.y } (.slice A8 (mendL ((s1.cells.set ii ⟨rn, s1.attr, 1⟩).set (ii + 1) ⟨0, s1.attr, 2⟩) s1.cols s1.y).length q8) (.slice A2 s1.tabs.length k2) (.slice A3 s1.other.length k3) (.slice A4 s1.p.params.length k4) (.slice A5 s1.p.inter.length k5) (.slice A6 s1.p.utf.length k6)) 30) := by rw [← hW9]; exact (heap_setCell_same _ _ 2 _ _ _ K8.out).trans rfl
 have hk9 : ∀ b, b ≠ w.heap.size → W9.heap[b]? = w8.heap[b]? := fun b hb => by rw [← hW9]; exact heap_setCell_other _ _ _ _ (by simpa using hb)
 have h91b := (hk9 (w.heap.size + 1) (by omega)).trans K81.out
 have z9 : W9.heap.size = w8.heap.size := by rw [← hW9]; simp
 have b9 : Below w.heap.size w W9 := by rw [← hW9]; exact B8.out.setCell (by simp) _
 have o9 : OC W9 W1.heap.size (.slice A8 (mendL ((s1.cells.set ii ⟨rn, s1.attr, 1⟩).set (ii + 1) ⟨0, s1.attr, 2⟩) s1.cols s1.y).length q8) (mendL ((s1.cells.set ii ⟨rn, s1.attr, 1⟩).set (ii + 1) ⟨0, s1.attr, 2⟩) s1.cols s1.y) := by rw [← hW9]; exact O8.out.other _ _ (by simp; omega)
 have u9 : ∀ b, b ≠ w.heap.size → b < W1.heap.size → W9.heap[b]? = w4.heap[b]? := fun b hb hb2 => by rw [← hW9]; exact (heap_setCell_other _ _ _ _ (by simpa using hb)).trans (U8.out b hb hb2)
 obtain ⟨a1, n1'⟩ := cellR (v := .int .i64 s1.cols) h9b 1 rfl
 obtain ⟨a4, n4'⟩ := cellR (v := .int .i64 s1.x) h9b 4 rfl
 obtain ⟨a5, n5'⟩ := cellR (v := .bool s1.wrap) h9b 5 rfl
 obtain ⟨a13, n13'⟩ := cellR (v := .bool s1.auto) h9b 13 rfl
 have K9 := Lh h9b
 have K91 := Lh h91b
 have O9 := Lh o9
 have Z9 := Lh z9
 have B9 := Lh b9
 have U9 := Lh u9
 clear f2 i2 h9b h91b o9 z9 b9 u9 hW9 hk9
 have HSUW : Hid (∀ W : World, (∀ b, b ≠ w.heap.size → b < W1.heap.size → W.heap[b]? = w4.heap[b]?) → w8.heap.size ≤ W.heap.size → SSl W (fun x => S x ∨ (w.heap.size + 1 < x ∧ x < W.heap.size)) { s1 with cells := s1.cells } (.slice A1 s1.cells.length kk1) (.slice A2 s1.tabs.length k2) (.slice A3 s1.other.length k3) (.slice A4 s1.p.params.length k4) (.slice A5 s1.p.inter.length k5) (.slice A6 s1.p.utf.length k6)) := fun W hW hz => (HU4.out.keep (fun q hq => World.cell?_of_block (hW _ (by
  rcases hq with h | h
  ·have := HSS.out _ h; omega
  ·omega) (HSU.out _ hq)))).mono (fun x hx => hx.imp id (fun h => ⟨h.1, by omega⟩))
 by_cases hend : s1.cols ≤ s1.x + 2
 ·have hputs : putS s1 rn 2 = { s1 with cells := mendL ((s1.cells.set ii ⟨rn, s1.attr, 1⟩).set (ii + 1) ⟨0, s1.attr, 2⟩) s1.cols s1.y, x := s1.cols - 1, wrap := s1.auto } := by
   unfold putS
   rw [if_pos hend]
   simp [cells1, cells2, ← HII.out]
  have HPUT := Lh hputs
  clear hputs
  go_upto_region 22 with fail
  refine wp_region_lit ?_
  refine wpl_loadS rfl (.tmp 2) rfl rfl ((heap_setCell_same _ _ 5 _ _ _ ((heap_setCell_same _ _ 4 _ _ _ ((heap_setCell_same _ _ 4 _ _ _ K9.out).trans rfl)).trans rfl)).trans rfl) rfl ?_
  have HR1 := (heap_setCell_other (((W9.setCell ⟨w.heap.size, 4, none⟩ (.int .i64 (s1.x + 2))).setCell ⟨w.heap.size, 4, none⟩ (.int .i64 (s1.cols - 1)))) ⟨w.heap.size, 5, none⟩ (w.heap.size + 1) (.bool s1.auto) (by simp)).trans ((heap_setCell_other _ _ _ _ (by simp)).trans ((heap_setCell_other _ _ _ _ (by simp)).trans K91.out))
  refine wpl_storeS rfl (.tmp 4) (.tmp 99) rfl rfl rfl HR1 rfl rfl all25 ?_
  go_wp2
  have hsold := HSUW.out (((W9.setCell ⟨w.heap.size, 4, none⟩ (.int .i64 (s1.x + 2))).setCell ⟨w.heap.size, 4, none⟩ (.int .i64 (s1.cols - 1))).setCell ⟨w.heap.size, 5, none⟩ (.bool s1.auto)) (fun b hb hb2 => (heap_setCell_other _ _ _ _ (by simpa using hb)).trans ((heap_setCell_other _ _ _ _ (by simpa using hb)).trans ((heap_setCell_other _ _ _ _ (by simpa using hb)).trans (U9.out b hb hb2)))) (by simp; rw [Z9.out]; exact Nat.le_refl _)
  rw [HPUT.out]
  refine scEndV (s := { s1 with cells := mendL ((s1.cells.set ii ⟨rn, s1.attr, 1⟩).set (ii + 1) ⟨0, s1.attr, 2⟩) s1.cols s1.y, x := s1.cols - 1, wrap := s1.auto }) (w.heap.size + 1) 4 Tryz.results72 ?_ ?_ HR1 (by omega) (((B9.out.setCell (by simp) _).setCell (by simp) _).setCell (by simp) _) HSS.out ⟨((((O9.out.other _ _ (by simp; omega)).other _ _ (by simp; omega)).other _ _ (by simp; omega)).cl.mono (fun x hx => .inr ⟨by have := hx.1; omega, hx.2⟩)), hsold.2⟩ (fun x hx => hx)
  all_goals rfl
 ·have hputs : putS s1 rn 2 = { s1 with cells := mendL ((s1.cells.set ii ⟨rn, s1.attr, 1⟩).set (ii + 1) ⟨0, s1.attr, 2⟩) s1.cols s1.y, x := s1.x + 2 } := by
   unfold putS
   rw [if_neg (by omega)]
   simp [cells1, cells2, ← HII.out]
  have HPUT := Lh hputs
  clear hputs
  go_upto_region 22 with fail
  refine wp_region_lit ?_
  refine wpl_loadS rfl (.tmp 2) rfl rfl ((heap_setCell_same _ _ 4 _ _ _ K9.out).trans rfl) rfl ?_
  have HR1 := (heap_setCell_other W9 ⟨w.heap.size, 4, none⟩ (w.heap.size + 1) (.int .i64 (s1.x + 2)) (by simp)).trans K91.out
  refine wpl_storeS rfl (.tmp 4) (.tmp 99) rfl rfl rfl HR1 rfl rfl all25 ?_
  go_wp2
  have hsold := HSUW.out (W9.setCell ⟨w.heap.size, 4, none⟩ (.int .i64 (s1.x + 2))) (fun b hb hb2 => (heap_setCell_other _ _ _ _ (by simpa using hb)).trans (U9.out b hb hb2)) (by simp; rw [Z9.out]; exact Nat.le_refl _)
  rw [HPUT.out]
  refine scEndV (s := { s1 with cells := mendL ((s1.cells.set ii ⟨rn, s1.attr, 1⟩).set (ii + 1) ⟨0, s1.attr, 2⟩) s1.cols s1.y, x := s1.x + 2 }) (w.heap.size + 1) 4 Tryz.results72 ?_ ?_ HR1 (by omega) (B9.out.setCell (by simp) _) HSS.out ⟨((O9.out.other _ _ (by simp; omega)).cl.mono (fun x hx => .inr ⟨by have := hx.1; omega, hx.2⟩)), hsold.2⟩ (fun x hx => hx)
  all_goals rfl
theorem printr_w2 (v : Value) (s : Sc) (rn : Int) (r c : Nat) (S : Nat → Prop) (w : World) (hS : ∀ x, S x → x < w.heap.size) (h : SCV w S v s) (hi : ScIn s r c) (n0 : -2147483648 ≤ rn) (n1 : rn ≤ 2147483647) (hwd : widthL rn = 2) (hwr : s.wrap = true) (hc1 : ¬ s.cols = 1) : Calls Tryz.prog 72 #[v, .int .i32 rn] w (ScPost S (putS (crS s) rn 2) w) := by
 have HSS := Lh hS
 clear hS
 obtain ⟨vc, vt, vo, vp, vi, vu, rfl, hs⟩ := h
 have HS := Lh hs
 obtain ⟨A1, kk1, A2, k2, A3, k3, A4, k4, A5, k5, A6, k6, rfl, rfl, rfl, rfl, rfl, rfl, p1, q1, p2, q2, p3, q3, p4, q4, p5, q5, p6, q6⟩ := sslSix hs
 have HI := Lh hi
 have x0 := hi.x0
 have x1 := hi.x1
 have hcl := hi.cols
 have c2 := hi.g.c2
 have c3 : s.cols ≤ 1000 := by omega
 have c4 : s.x < s.cols := by omega
 clear hi hcl
 have HWD := Lh hwd
 clear hwd
 have h2 := two_new w (.cells (vA s A1 A2 A3 A4 A5 A6 kk1 k2 k3 k4 k5 k6) 30) (.cells zQ 30)
 have HS2 : Hid (∀ x, S x → x < _) := fun x hx => Nat.lt_of_lt_of_le (HSS.out x hx) h2.1.size
 have H2 := Lh h2
 go_enter Tryz.func72, Tryz.ntmps72
 go_upto_region 4 with fail
 ((with_reducible refine (widthr_any rn n0 n1 _).mono ?_); rintro e w1 ⟨rfl, b1⟩)
 have hb1 : Below (w.heap.size + 1 + 1) _ w1 := (by rw [← H2.out.2]; exact b1)
 obtain ⟨k0, k1⟩ := two_keptB hb1
 have z1 := b1.size
 rw [H2.out.2] at z1
 have B1 := Lh (H2.out.1.trans (hb1.mono (by omega)))
 obtain ⟨d5, i5⟩ := cellR (v := .bool s.wrap) k0 5 rfl
 have K0 := Lh k0
 have K1 := Lh k1
 clear b1 hb1 k0 k1 h2
 rw [HWD.out]
 rw [hwr] at d5
 have HWR := Lh hwr
 clear hwr
 have HV := Lh (show SCV w1 S (.agg (vA s A1 A2 A3 A4 A5 A6 kk1 k2 k3 k4 k5 k6)) s from ⟨_, _, _, _, _, _, rfl, HS.out.below HSS.out B1.out⟩)
 have HS1 : Hid (∀ x, S x → x < w1.heap.size) := fun x hx => by have := HSS.out x hx; omega
 go_upto_region 5 with fail
 refine wp_region_lit ?_
 refine wpl_loadS rfl (.tmp 2) rfl rfl K0.out rfl ?_
 go_wp2_with fail
 ((with_reducible refine (downr_any _ s r c S _ HS1.out HV.out HI.out).mono ?_); rintro e w2 ⟨v2, rfl, hv2, b2⟩)
 have z2 := b2.size
 obtain ⟨uc, ut, uo, up, ui, uu, rfl, hs2⟩ := hv2
 have hk0 : w2.heap[w.heap.size]? = _ := (b2.block _ (by omega)).trans K0.out
 have hk1 : w2.heap[w.heap.size + 1]? = _ := (b2.block _ (by omega)).trans K1.out
 rename_i K hK
 refine hK _ _ ?_
 clear hK
 refine wpl_storeS rfl (.tmp 2) (.tmp 15) rfl rfl rfl hk0 rfl rfl hs2.one ?_
 obtain ⟨W5, hW5⟩ : ∃ W5, W5 = w2.setRow w.heap.size (vS (downS s) uc ut uo up ui uu) := ⟨_, rfl⟩
 rw [← hW5]
 have k5v : W5.heap[w.heap.size]? = some (.cells (vS (downS s) uc ut uo up ui uu) 30) := by rw [hW5]; exact heap_setRow_same hk0
 have o5v : ∀ b, b ≠ w.heap.size → W5.heap[b]? = w2.heap[b]? := fun b hb => by rw [hW5]; exact heap_setRow_other (fun e => hb e.symm)
 have z5v : W5.heap.size = w2.heap.size := by rw [hW5, size_setRow]
 have b5v : Below w.heap.size w W5 := by rw [hW5]; exact below_setRow (B1.out.trans (b2.mono (by omega))) (Nat.le_refl _) _
 obtain ⟨cx, fx⟩ := cellR (v := .int .i64 (downS s).x) k5v 4 rfl
 have K5V := Lh k5v
 have O5V := Lh o5v
 have Z5V := Lh z5v
 have B5V := Lh b5v
 have HS2V := Lh hs2
 have HK1V := Lh hk1
 clear k5v o5v z5v b5v hs2 hW5 hk0 hk1 b2 d5 i5
 go_simp
 go_upto_region 7 with fail
 obtain ⟨W1, hW1⟩ : ∃ W1, W1 = W5.setCell ⟨w.heap.size, 4, none⟩ (.int .i64 0) := ⟨_, rfl⟩
 rw [← hW1]
 have kv : W1.heap[w.heap.size]? = some (.cells (vS (crS s) uc ut uo up ui uu) 30) := by rw [hW1]; exact (heap_setCell_same _ _ 4 _ _ _ K5V.out).trans rfl
 have hkW : ∀ b, b ≠ w.heap.size → W1.heap[b]? = w2.heap[b]? := fun b hb => by rw [hW1]; exact (heap_setCell_other _ _ _ _ (by simpa using hb)).trans (O5V.out b hb)
 have hzW : W1.heap.size = w2.heap.size := by rw [hW1]; simpa using Z5V.out
 have BV : Hid (Below w.heap.size w W1) := by rw [hW1]; exact B5V.out.setCell (by simp) _
 have KV := Lh kv
 have KR := Lh ((hkW (w.heap.size + 1) (by omega)).trans HK1V.out)
 have HU1 : Hid (SSl W1 (fun x => S x ∨ (w.heap.size + 1 < x ∧ x < W1.heap.size)) (crS s) uc ut uo up ui uu) := ((HS2V.out.keep (fun q hq => World.cell?_of_block (hkW _ (by
  rcases hq with h | h
  ·have := HSS.out _ h; omega
  ·have := h.1; omega)))).mono (fun x hx => hx.imp id (fun h => ⟨by have := h.1; omega, by rw [hzW]; exact h.2⟩))).like rfl rfl rfl rfl
 have HSU : Hid (∀ x, (S x ∨ (w.heap.size + 1 < x ∧ x < W1.heap.size)) → x < W1.heap.size) := fun x hx => hx.elim (fun h => by have := HSS.out x h; omega) (fun h => h.2)
 have HI1 : Hid (ScIn (crS s) r c) := crS_in HI.out
 have hzw2 : w.heap.size + 1 + 1 ≤ W1.heap.size := by rw [hzW]; omega
 have HZW := Lh hzw2
 clear hzw2 cx fx kv hkW hzW hW1
 have hcc : (crS s).cols = s.cols := by
  unfold crS downS
  split
  ·rfl
  ·split <;> rfl
 have HEDGE : Hid ((crS s).x + 1 < (crS s).cols) := by
  show (0 : Int) + 1 < (crS s).cols
  rw [hcc]
  omega
 obtain ⟨e1, j1⟩ := cellR (v := .int .i64 s.cols) KV.out 1 (by rw [← hcc]; rfl)
 obtain ⟨e4, j4⟩ := cellR (v := .int .i64 0) KV.out 4 rfl
 have hed1 : ((0 : Int) == s.cols - 1) = false := by simp; omega
 clear hcc
 go_upto_region 12 with fail
 clear x0 x1 c2 c3 c4 e1 j1 e4 j4 hed1
 generalize crS s = s1 at *
 have i1 := HI1.out
 have y0 := i1.y0
 have y1 := i1.y1
 have xx0 := i1.x0
 have xx1 := i1.x1
 have hcl1 := i1.cols
 have cc2 := i1.g.c2
 have hlen : s1.cells.length ≤ 1000000 := by rw [i1.g.n]; exact rc_le i1.g.r2 i1.g.c2
 have hpos : 0 < s1.cells.length := by rw [i1.g.n]; exact Nat.mul_pos i1.g.r1 i1.g.c1
 obtain ⟨yy, hyy⟩ : ∃ yy : Nat, s1.y = yy := ⟨s1.y.toNat, by omega⟩
 obtain ⟨xx, hxx⟩ : ∃ xx : Nat, s1.x = xx := ⟨s1.x.toNat, by omega⟩
 have hm : s1.y * s1.cols = ((yy * c : Nat) : Int) := by rw [hyy, hcl1, Int.natCast_mul]
 have hle : yy * c + c ≤ s1.cells.length := by
  rw [i1.g.n]
  have : (yy + 1) * c ≤ r * c := Nat.mul_le_mul_right _ (by omega)
  rw [Nat.add_mul, Nat.one_mul] at this
  exact this
 obtain ⟨ii, hii⟩ : ∃ ii : Nat, ii = atS s1 := ⟨_, rfl⟩
 have hat : s1.y * s1.cols + s1.x = (ii : Int) := by rw [hii]; unfold atS; omega
 have hat2 : ii = yy * c + xx := by omega
 have hil : ii < s1.cells.length := by omega
 have m0 : 0 ≤ s1.y * s1.cols := by omega
 have m1 : s1.y * s1.cols ≤ 1000000 := by omega
 have cs3 : s1.cols ≤ 1000 := by omega
 have cs4 : s1.x < s1.cols := by omega
 have HAT := Lh hat
 have HAT2 := Lh hat2
 have HII := Lh hii
 have HXX := Lh hxx
 have HCL := Lh hcl1
 have HLE := Lh hle
 clear i1 hcl1 hyy hxx hm hle hii hat hat2
 obtain ⟨Ac, kc, rfl, pc, qc⟩ := HU1.out.1.form
 obtain ⟨At, kt, rfl, pt, qt⟩ := HU1.out.2.1.form
 obtain ⟨Ao, ko, rfl, po, qo⟩ := HU1.out.2.2.1.form
 obtain ⟨Ap, kp, rfl, pp, qp⟩ := HU1.out.2.2.2.1.form
 obtain ⟨Ai, ki, rfl, pi, qi⟩ := HU1.out.2.2.2.2.1.form
 obtain ⟨Au, ku, rfl, pu, qu⟩ := HU1.out.2.2.2.2.2.form
 obtain ⟨d2, e2⟩ := cellR (v := .slice Ac s1.cells.length kc) KV.out 2 rfl
 have HC := Lh (HU1.out.1.cs HSU.out)
 go_upto_region 13 with fail
 ((with_reducible refine (own_any _ s1.cells _ HC.out (by omega)).mono ?_); rintro e w4 ⟨v4, rfl, o4, b4⟩)
 obtain ⟨gc, cap, rfl, hg1, hg2, hg3, hg4⟩ := o4.open_ hpos
 have z4 := b4.size
 have hzw := HZW.out
 have h4b : w4.heap[w.heap.size]? = _ := (b4.block _ (by omega)).trans KV.out
 have h41b : w4.heap[w.heap.size + 1]? = _ := (b4.block _ (by omega)).trans KR.out
 obtain ⟨f2, i2⟩ := cellR (v := .slice Ac s1.cells.length kc) h4b 2 rfl
 have B4 := Lh (BV.out.trans (b4.mono (by omega)))
 have HU4 := Lh (HU1.out.below HSU.out b4)
 have O4 := Lh (o4.lower (b2 := W1.heap.size) (Nat.le_refl _))
 have K4 := Lh h4b
 have K41 := Lh h41b
 clear o4 b4 h4b h41b d2 e2
 go_upto_region 13 with fail
 generalize hW5 : World.setCell _ _ _ = W5
 have h5b : W5.heap[w.heap.size]? = some (.cells (vS s1 (.slice (some ⟨gc, 0, none⟩) s1.cells.length cap) (.slice At s1.tabs.length kt) (.slice Ao s1.other.length ko) (.slice Ap s1.p.params.length kp) (.slice Ai s1.p.inter.length ki) (.slice Au s1.p.utf.length ku)) 30) := by rw [← hW5]; exact (heap_setCell_same _ _ 2 _ _ _ K4.out).trans rfl
 have h51b : W5.heap[w.heap.size + 1]? = some (.cells zQ 30) := by rw [← hW5]; exact (heap_setCell_other _ _ _ _ (by simp)).trans K41.out
 have o5 : OC W5 W1.heap.size (.slice (some ⟨gc, 0, none⟩) s1.cells.length cap) s1.cells := by rw [← hW5]; exact O4.out.other _ _ (by simp; omega)
 have z5 : W5.heap.size = w4.heap.size := by rw [← hW5]; simp
 have b5 : Below w.heap.size w W5 := by rw [← hW5]; exact B4.out.setCell (by simp) _
 have u5 : ∀ b, b ≠ w.heap.size → W5.heap[b]? = w4.heap[b]? := fun b hb => by rw [← hW5]; exact heap_setCell_other _ _ _ _ (by simpa using hb)
 obtain ⟨a1, n1'⟩ := cellR (v := .int .i64 s1.cols) h5b 1 rfl
 obtain ⟨a2, n2'⟩ := cellR (v := .slice (some ⟨gc, 0, none⟩) s1.cells.length cap) h5b 2 rfl
 obtain ⟨a3, n3'⟩ := cellR (v := .int .i64 s1.y) h5b 3 rfl
 obtain ⟨a4, n4'⟩ := cellR (v := .int .i64 s1.x) h5b 4 rfl
 obtain ⟨a6, n6'⟩ := cellR (v := .int .u16 (s1.attr : Int)) h5b 6 rfl
 obtain ⟨q0, q1, q2, s0, s1', s2, t0, t1, t2⟩ := o5.spot ii hil
 have K5 := Lh h5b
 have K51 := Lh h51b
 have O5 := Lh o5
 have Z5 := Lh z5
 have B5 := Lh b5
 have U5 := Lh u5
 clear f2 i2 h5b h51b o5 z5 b5 u5 hW5
 go_upto_region 14 with fail
 rw [HAT.out]
 go_upto_region 15 with fail
 generalize hW6 : World.setCell _ _ _ = W6
 have hk6 : ∀ b, b ≠ gc → W6.heap[b]? = W5.heap[b]? := fun b hb => by
  rw [← hW6]
  exact (heap_setCell_other _ _ _ _ (by simpa using hb)).trans ((heap_setCell_other _ _ _ _ (by simpa using hb)).trans (heap_setCell_other _ _ _ _ (by simpa using hb)))
 have h6b := (hk6 w.heap.size (by omega)).trans K5.out
 have h61b := (hk6 (w.heap.size + 1) (by omega)).trans K51.out
 have o6 : OC W6 W1.heap.size (.slice (some ⟨gc, 0, none⟩) s1.cells.length cap) (s1.cells.set ii ⟨rn, s1.attr, 0⟩) := by rw [← hW6]; exact O5.out.put ii hil ⟨rn, s1.attr, 0⟩
 have z6 : W6.heap.size = w4.heap.size := by rw [← hW6]; simpa using Z5.out
 have b6 : Below w.heap.size w W6 := by rw [← hW6]; exact below_put B5.out (by omega) _ _ _ _
 have u6 : ∀ b, b ≠ w.heap.size → b < W1.heap.size → W6.heap[b]? = w4.heap[b]? := fun b hb hb2 => (hk6 b (by omega)).trans (U5.out b hb)
 clear a1 n1' a2 n2' a3 n3' a4 n4' a6 n6' s0 s1' s2 t0 t1 t2 hW6 hk6
 obtain ⟨a1, n1'⟩ := cellR (v := .int .i64 s1.cols) h6b 1 rfl
 obtain ⟨a2, n2'⟩ := cellR (v := .slice (some ⟨gc, 0, none⟩) s1.cells.length cap) h6b 2 rfl
 obtain ⟨a3, n3'⟩ := cellR (v := .int .i64 s1.y) h6b 3 rfl
 obtain ⟨a6, n6'⟩ := cellR (v := .int .u16 (s1.attr : Int)) h6b 6 rfl
 have K6 := Lh h6b
 have K61 := Lh h61b
 have O6 := Lh o6
 have Z6 := Lh z6
 have B6 := Lh b6
 have U6 := Lh u6
 clear h6b h61b o6 z6 b6 u6
 have hil2 : ii + 1 < s1.cells.length := by have := HAT2.out; have := HLE.out; have := HXX.out; have := HCL.out; have := HEDGE.out; omega
 have hset : (s1.cells.set ii ⟨rn, s1.attr, 0⟩)[ii]? = some (⟨rn, s1.attr, 0⟩ : Cl) := by rw [List.getElem?_set, if_pos rfl, if_pos hil]
 have o7 := O6.out.half ii _ hset 1
 rw [List.set_set] at o7
 have HO7 := Lh o7
 obtain ⟨q0, q1, q2, s0, s1', s2, t0, t1, t2⟩ := O6.out.spot ii hil
 obtain ⟨q3, q4, q5, s3, s4, s5, t3, t4, t5⟩ := O6.out.spot (ii + 1) hil2
 have hne5 : ¬ (ii + 1) * 3 = ii * 3 + 2 := by omega
 have hne6 : ¬ (ii + 1) * 3 + 1 = ii * 3 + 2 := by omega
 have hne7 : ¬ (ii + 1) * 3 + 2 = ii * 3 + 2 := by omega
 clear o7 hset
 go_upto_region 18 with fail
 generalize hW7 : World.setCell _ _ _ = W7
 have hk7 : ∀ b, b ≠ gc → W7.heap[b]? = W6.heap[b]? := fun b hb => by
  rw [← hW7]
  exact (heap_setCell_other _ _ _ _ (by simpa using hb)).trans ((heap_setCell_other _ _ _ _ (by simpa using hb)).trans ((heap_setCell_other _ _ _ _ (by simpa using hb)).trans (heap_setCell_other _ _ _ _ (by simpa using hb))))
 have o8 : OC W7 W1.heap.size (.slice (some ⟨gc, 0, none⟩) s1.cells.length cap) ((s1.cells.set ii ⟨rn, s1.attr, 1⟩).set (ii + 1) ⟨0, s1.attr, 2⟩) := by rw [← hW7]; exact HO7.out.put (ii + 1) hil2 ⟨0, s1.attr, 2⟩
 have z7 : W7.heap.size = w4.heap.size := by rw [← hW7]; simpa using Z6.out
 have b7 : Below w.heap.size w W7 := by rw [← hW7]; exact below_put (B6.out.setCell (by simp; omega) _) (by omega) _ _ _ _
 have K7 := Lh ((hk7 w.heap.size (by omega)).trans K6.out)
 have K71 := Lh ((hk7 (w.heap.size + 1) (by omega)).trans K61.out)
 have O7 := Lh o8
 have Z7 := Lh z7
 have B7 := Lh b7
 have U7 : Hid (∀ b, b ≠ w.heap.size → b < W1.heap.size → W7.heap[b]? = w4.heap[b]?) := fun b hb hb2 => (hk7 b (by omega)).trans (U6.out b hb hb2)
 clear s0 s1' s2 t0 t1 t2 s3 s4 s5 t3 t4 t5 hne5 hne6 hne7 o8 z7 b7 hW7 hk7 a1 n1' a2 n2' a3 n3' a6 n6'
 obtain ⟨a1, n1'⟩ := cellR (v := .int .i64 s1.cols) K7.out 1 rfl
 obtain ⟨a2, n2'⟩ := cellR (v := .slice (some ⟨gc, 0, none⟩) s1.cells.length cap) K7.out 2 rfl
 obtain ⟨a3, n3'⟩ := cellR (v := .int .i64 s1.y) K7.out 3 rfl
 obtain ⟨a6, n6'⟩ := cellR (v := .int .u16 (s1.attr : Int)) K7.out 6 rfl
 have HM7 := Lh O7.out.cs
 go_upto_region 19 with fail
 ((with_reducible refine (Mend_any _ ((s1.cells.set ii ⟨rn, s1.attr, 1⟩).set (ii + 1) ⟨0, s1.attr, 2⟩) s1.cols s1.y _ HM7.out (by simp; omega)).mono ?_); rintro e w8 ⟨v8, rfl, o8, b8⟩)
 have z8 := b8.size
 rw [Z7.out] at z8
 have h8b : w8.heap[w.heap.size]? = _ := (b8.block _ (by rw [Z7.out]; omega)).trans K7.out
 have h81b : w8.heap[w.heap.size + 1]? = _ := (b8.block _ (by rw [Z7.out]; omega)).trans K71.out
 obtain ⟨f2, i2⟩ := cellR (v := .slice (some ⟨gc, 0, none⟩) s1.cells.length cap) h8b 2 rfl
 obtain ⟨A8, q8, rfl, p8, r8⟩ := o8.cs.form
 have B8 := Lh (B7.out.trans (b8.mono (by rw [Z7.out]; omega)))
 have O8 := Lh (o8.lower (b2 := W1.heap.size) (by rw [Z7.out]; omega))
 have U8 : Hid (∀ b, b ≠ w.heap.size → b < W1.heap.size → w8.heap[b]? = w4.heap[b]?) := fun b hb hb2 => (b8.block b (by rw [Z7.out]; omega)).trans (U7.out b hb hb2)
 have K8 := Lh h8b
 have K81 := Lh h81b
 clear o8 b8 h8b h81b a1 n1' a2 n2' a3 n3' a6 n6'
 go_upto_region 19 with fail
 generalize hW9 : World.setCell _ _ _ = W9
 have h9b : W9.heap[w.heap.size]? = some (.cells (vS { s1 with cells := mendL ((s1.cells.set ii ⟨rn, s1.attr, 1⟩).set (ii + 1) ⟨0, s1.attr, 2⟩) s1.cols s1.y } (.slice A8 (mendL ((s1.cells.set ii ⟨rn, s1.attr, 1⟩).set (ii + 1) ⟨0, s1.attr, 2⟩) s1.cols s1.y).length q8) (.slice At s1.tabs.length kt) (.slice Ao s1.other.length ko) (.slice Ap s1.p.params.length kp) (.slice Ai s1.p.inter.length ki) (.slice Au s1.p.utf.length ku)) 30) := by rw [← hW9]; exact (heap_setCell_same _ _ 2 _ _ _ K8.out).trans rfl
 have hk9 : ∀ b, b ≠ w.heap.size → W9.heap[b]? = w8.heap[b]? := fun b hb => by rw [← hW9]; exact heap_setCell_other _ _ _ _ (by simpa using hb)
 have h91b := (hk9 (w.heap.size + 1) (by omega)).trans K81.out
 have z9 : W9.heap.size = w8.heap.size := by rw [← hW9]; simp
 have b9 : Below w.heap.size w W9 := by rw [← hW9]; exact B8.out.setCell (by simp) _
 have o9 : OC W9 W1.heap.size (.slice A8 (mendL ((s1.cells.set ii ⟨rn, s1.attr, 1⟩).set (ii + 1) ⟨0, s1.attr, 2⟩) s1.cols s1.y).length q8) (mendL ((s1.cells.set ii ⟨rn, s1.attr, 1⟩).set (ii + 1) ⟨0, s1.attr, 2⟩) s1.cols s1.y) := by rw [← hW9]; exact O8.out.other _ _ (by simp; omega)
 have u9 : ∀ b, b ≠ w.heap.size → b < W1.heap.size → W9.heap[b]? = w4.heap[b]? := fun b hb hb2 => by rw [← hW9]; exact (heap_setCell_other _ _ _ _ (by simpa using hb)).trans (U8.out b hb hb2)
 obtain ⟨a1, n1'⟩ := cellR (v := .int .i64 s1.cols) h9b 1 rfl
 obtain ⟨a4, n4'⟩ := cellR (v := .int .i64 s1.x) h9b 4 rfl
 obtain ⟨a5, n5'⟩ := cellR (v := .bool s1.wrap) h9b 5 rfl
 obtain ⟨a13, n13'⟩ := cellR (v := .bool s1.auto) h9b 13 rfl
 have K9 := Lh h9b
 have K91 := Lh h91b
 have O9 := Lh o9
 have Z9 := Lh z9
 have B9 := Lh b9
 have U9 := Lh u9
 clear f2 i2 h9b h91b o9 z9 b9 u9 hW9 hk9
 have HSUW : Hid (∀ W : World, (∀ b, b ≠ w.heap.size → b < W1.heap.size → W.heap[b]? = w4.heap[b]?) → w8.heap.size ≤ W.heap.size → SSl W (fun x => S x ∨ (w.heap.size + 1 < x ∧ x < W.heap.size)) { s1 with cells := s1.cells } (.slice Ac s1.cells.length kc) (.slice At s1.tabs.length kt) (.slice Ao s1.other.length ko) (.slice Ap s1.p.params.length kp) (.slice Ai s1.p.inter.length ki) (.slice Au s1.p.utf.length ku)) := fun W hW hz => (HU4.out.keep (fun q hq => World.cell?_of_block (hW _ (by
  rcases hq with h | h
  ·have := HSS.out _ h; omega
  ·omega) (HSU.out _ hq)))).mono (fun x hx => hx.imp id (fun h => ⟨h.1, by omega⟩))
 by_cases hend : s1.cols ≤ s1.x + 2
 ·have hputs : putS s1 rn 2 = { s1 with cells := mendL ((s1.cells.set ii ⟨rn, s1.attr, 1⟩).set (ii + 1) ⟨0, s1.attr, 2⟩) s1.cols s1.y, x := s1.cols - 1, wrap := s1.auto } := by
   unfold putS
   rw [if_pos hend]
   simp [cells1, cells2, ← HII.out]
  have HPUT := Lh hputs
  clear hputs
  go_upto_region 22 with fail
  refine wp_region_lit ?_
  refine wpl_loadS rfl (.tmp 2) rfl rfl ((heap_setCell_same _ _ 5 _ _ _ ((heap_setCell_same _ _ 4 _ _ _ ((heap_setCell_same _ _ 4 _ _ _ K9.out).trans rfl)).trans rfl)).trans rfl) rfl ?_
  have HR1 := (heap_setCell_other (((W9.setCell ⟨w.heap.size, 4, none⟩ (.int .i64 (s1.x + 2))).setCell ⟨w.heap.size, 4, none⟩ (.int .i64 (s1.cols - 1)))) ⟨w.heap.size, 5, none⟩ (w.heap.size + 1) (.bool s1.auto) (by simp)).trans ((heap_setCell_other _ _ _ _ (by simp)).trans ((heap_setCell_other _ _ _ _ (by simp)).trans K91.out))
  refine wpl_storeS rfl (.tmp 4) (.tmp 99) rfl rfl rfl HR1 rfl rfl all25 ?_
  go_wp2
  have hsold := HSUW.out (((W9.setCell ⟨w.heap.size, 4, none⟩ (.int .i64 (s1.x + 2))).setCell ⟨w.heap.size, 4, none⟩ (.int .i64 (s1.cols - 1))).setCell ⟨w.heap.size, 5, none⟩ (.bool s1.auto)) (fun b hb hb2 => (heap_setCell_other _ _ _ _ (by simpa using hb)).trans ((heap_setCell_other _ _ _ _ (by simpa using hb)).trans ((heap_setCell_other _ _ _ _ (by simpa using hb)).trans (U9.out b hb hb2)))) (by simp; rw [Z9.out]; exact Nat.le_refl _)
  rw [HPUT.out]
  refine scEndV (s := { s1 with cells := mendL ((s1.cells.set ii ⟨rn, s1.attr, 1⟩).set (ii + 1) ⟨0, s1.attr, 2⟩) s1.cols s1.y, x := s1.cols - 1, wrap := s1.auto }) (w.heap.size + 1) 4 Tryz.results72 ?_ ?_ HR1 (by omega) (((B9.out.setCell (by simp) _).setCell (by simp) _).setCell (by simp) _) HSS.out ⟨((((O9.out.other _ _ (by simp; omega)).other _ _ (by simp; omega)).other _ _ (by simp; omega)).cl.mono (fun x hx => .inr ⟨by have := hx.1; omega, hx.2⟩)), hsold.2⟩ (fun x hx => hx)
  all_goals rfl
 ·have hputs : putS s1 rn 2 = { s1 with cells := mendL ((s1.cells.set ii ⟨rn, s1.attr, 1⟩).set (ii + 1) ⟨0, s1.attr, 2⟩) s1.cols s1.y, x := s1.x + 2 } := by
   unfold putS
   rw [if_neg (by omega)]
   simp [cells1, cells2, ← HII.out]
  have HPUT := Lh hputs
  clear hputs
  go_upto_region 22 with fail
  refine wp_region_lit ?_
  refine wpl_loadS rfl (.tmp 2) rfl rfl ((heap_setCell_same _ _ 4 _ _ _ K9.out).trans rfl) rfl ?_
  have HR1 := (heap_setCell_other W9 ⟨w.heap.size, 4, none⟩ (w.heap.size + 1) (.int .i64 (s1.x + 2)) (by simp)).trans K91.out
  refine wpl_storeS rfl (.tmp 4) (.tmp 99) rfl rfl rfl HR1 rfl rfl all25 ?_
  go_wp2
  have hsold := HSUW.out (W9.setCell ⟨w.heap.size, 4, none⟩ (.int .i64 (s1.x + 2))) (fun b hb hb2 => (heap_setCell_other _ _ _ _ (by simpa using hb)).trans (U9.out b hb hb2)) (by simp; rw [Z9.out]; exact Nat.le_refl _)
  rw [HPUT.out]
  refine scEndV (s := { s1 with cells := mendL ((s1.cells.set ii ⟨rn, s1.attr, 1⟩).set (ii + 1) ⟨0, s1.attr, 2⟩) s1.cols s1.y, x := s1.x + 2 }) (w.heap.size + 1) 4 Tryz.results72 ?_ ?_ HR1 (by omega) (B9.out.setCell (by simp) _) HSS.out ⟨((O9.out.other _ _ (by simp; omega)).cl.mono (fun x hx => .inr ⟨by have := hx.1; omega, hx.2⟩)), hsold.2⟩ (fun x hx => hx)
  all_goals rfl
theorem printr_e2 (v : Value) (s : Sc) (rn : Int) (r c : Nat) (S : Nat → Prop) (w : World) (hS : ∀ x, S x → x < w.heap.size) (h : SCV w S v s) (hi : ScIn s r c) (n0 : -2147483648 ≤ rn) (n1 : rn ≤ 2147483647) (hwd : widthL rn = 2) (hwr : s.wrap = false) (hed : s.x = s.cols - 1) (hau : s.auto = true) (hc1 : ¬ s.cols = 1) : Calls Tryz.prog 72 #[v, .int .i32 rn] w (ScPost S (putS (crS s) rn 2) w) := by
 have HSS := Lh hS
 clear hS
 obtain ⟨vc, vt, vo, vp, vi, vu, rfl, hs⟩ := h
 have HS := Lh hs
 obtain ⟨A1, kk1, A2, k2, A3, k3, A4, k4, A5, k5, A6, k6, rfl, rfl, rfl, rfl, rfl, rfl, p1, q1, p2, q2, p3, q3, p4, q4, p5, q5, p6, q6⟩ := sslSix hs
 have HI := Lh hi
 have x0 := hi.x0
 have x1 := hi.x1
 have hcl := hi.cols
 have c2 := hi.g.c2
 have c3 : s.cols ≤ 1000 := by omega
 have c4 : s.x < s.cols := by omega
 clear hi hcl
 have HWD := Lh hwd
 clear hwd
 have h2 := two_new w (.cells (vA s A1 A2 A3 A4 A5 A6 kk1 k2 k3 k4 k5 k6) 30) (.cells zQ 30)
 have HS2 : Hid (∀ x, S x → x < _) := fun x hx => Nat.lt_of_lt_of_le (HSS.out x hx) h2.1.size
 have H2 := Lh h2
 go_enter Tryz.func72, Tryz.ntmps72
 go_upto_region 4 with fail
 ((with_reducible refine (widthr_any rn n0 n1 _).mono ?_); rintro e w1 ⟨rfl, b1⟩)
 have hb1 : Below (w.heap.size + 1 + 1) _ w1 := (by rw [← H2.out.2]; exact b1)
 obtain ⟨k0, k1⟩ := two_keptB hb1
 have z1 := b1.size
 rw [H2.out.2] at z1
 have B1 := Lh (H2.out.1.trans (hb1.mono (by omega)))
 obtain ⟨d5, i5⟩ := cellR (v := .bool s.wrap) k0 5 rfl
 have K0 := Lh k0
 have K1 := Lh k1
 clear b1 hb1 k0 k1 h2
 rw [HWD.out]
 rw [hwr] at d5
 have HWR := Lh hwr
 have hed1 : (s.x == s.cols - 1) = true := by simpa using hed
 have hc2 : (s.cols == 1) = false := by simpa using hc1
 have HED := Lh hed
 clear hwr hed
 obtain ⟨e1, j1⟩ := cellR (v := .int .i64 s.cols) K0.out 1 rfl
 obtain ⟨e4, j4⟩ := cellR (v := .int .i64 s.x) K0.out 4 rfl
 obtain ⟨e13, j13⟩ := cellR (v := .bool s.auto) K0.out 13 rfl
 rw [hau] at e13
 have HAU := Lh hau
 clear hau
 have HV := Lh (show SCV w1 S (.agg (vA s A1 A2 A3 A4 A5 A6 kk1 k2 k3 k4 k5 k6)) s from ⟨_, _, _, _, _, _, rfl, HS.out.below HSS.out B1.out⟩)
 have HS1 : Hid (∀ x, S x → x < w1.heap.size) := fun x hx => by have := HSS.out x hx; omega
 go_upto_region 10 with fail
 refine wp_region_lit ?_
 refine wpl_loadS rfl (.tmp 2) rfl rfl K0.out rfl ?_
 go_wp2_with fail
 ((with_reducible refine (downr_any _ s r c S _ HS1.out HV.out HI.out).mono ?_); rintro e w2 ⟨v2, rfl, hv2, b2⟩)
 have z2 := b2.size
 obtain ⟨uc, ut, uo, up, ui, uu, rfl, hs2⟩ := hv2
 have hk0 : w2.heap[w.heap.size]? = _ := (b2.block _ (by omega)).trans K0.out
 have hk1 : w2.heap[w.heap.size + 1]? = _ := (b2.block _ (by omega)).trans K1.out
 rename_i K hK
 refine hK _ _ ?_
 clear hK
 refine wpl_storeS rfl (.tmp 2) (.tmp 37) rfl rfl rfl hk0 rfl rfl hs2.one ?_
 obtain ⟨W5, hW5⟩ : ∃ W5, W5 = w2.setRow w.heap.size (vS (downS s) uc ut uo up ui uu) := ⟨_, rfl⟩
 rw [← hW5]
 have k5v : W5.heap[w.heap.size]? = some (.cells (vS (downS s) uc ut uo up ui uu) 30) := by rw [hW5]; exact heap_setRow_same hk0
 have o5v : ∀ b, b ≠ w.heap.size → W5.heap[b]? = w2.heap[b]? := fun b hb => by rw [hW5]; exact heap_setRow_other (fun e => hb e.symm)
 have z5v : W5.heap.size = w2.heap.size := by rw [hW5, size_setRow]
 have b5v : Below w.heap.size w W5 := by rw [hW5]; exact below_setRow (B1.out.trans (b2.mono (by omega))) (Nat.le_refl _) _
 obtain ⟨cx, fx⟩ := cellR (v := .int .i64 (downS s).x) k5v 4 rfl
 have K5V := Lh k5v
 have O5V := Lh o5v
 have Z5V := Lh z5v
 have B5V := Lh b5v
 have HS2V := Lh hs2
 have HK1V := Lh hk1
 clear k5v o5v z5v b5v hs2 hW5 hk0 hk1 b2 d5 i5
 go_simp
 go_upto_region 12 with fail
 obtain ⟨W1, hW1⟩ : ∃ W1, W1 = W5.setCell ⟨w.heap.size, 4, none⟩ (.int .i64 0) := ⟨_, rfl⟩
 rw [← hW1]
 have kv : W1.heap[w.heap.size]? = some (.cells (vS (crS s) uc ut uo up ui uu) 30) := by rw [hW1]; exact (heap_setCell_same _ _ 4 _ _ _ K5V.out).trans rfl
 have hkW : ∀ b, b ≠ w.heap.size → W1.heap[b]? = w2.heap[b]? := fun b hb => by rw [hW1]; exact (heap_setCell_other _ _ _ _ (by simpa using hb)).trans (O5V.out b hb)
 have hzW : W1.heap.size = w2.heap.size := by rw [hW1]; simpa using Z5V.out
 have BV : Hid (Below w.heap.size w W1) := by rw [hW1]; exact B5V.out.setCell (by simp) _
 have KV := Lh kv
 have KR := Lh ((hkW (w.heap.size + 1) (by omega)).trans HK1V.out)
 have HU1 : Hid (SSl W1 (fun x => S x ∨ (w.heap.size + 1 < x ∧ x < W1.heap.size)) (crS s) uc ut uo up ui uu) := ((HS2V.out.keep (fun q hq => World.cell?_of_block (hkW _ (by
  rcases hq with h | h
  ·have := HSS.out _ h; omega
  ·have := h.1; omega)))).mono (fun x hx => hx.imp id (fun h => ⟨by have := h.1; omega, by rw [hzW]; exact h.2⟩))).like rfl rfl rfl rfl
 have HSU : Hid (∀ x, (S x ∨ (w.heap.size + 1 < x ∧ x < W1.heap.size)) → x < W1.heap.size) := fun x hx => hx.elim (fun h => by have := HSS.out x h; omega) (fun h => h.2)
 have HI1 : Hid (ScIn (crS s) r c) := crS_in HI.out
 have hzw2 : w.heap.size + 1 + 1 ≤ W1.heap.size := by rw [hzW]; omega
 have HZW := Lh hzw2
 clear hzw2 cx fx kv hkW hzW hW1
 have HEDGE : Hid ((crS s).x + 1 < (crS s).cols) := by
  have hcc : (crS s).cols = s.cols := by
   unfold crS downS
   split
   ·rfl
   ·split <;> rfl
  show (0 : Int) + 1 < (crS s).cols
  rw [hcc]
  omega
 clear x0 x1 c2 c3 c4 e1 j1 e4 j4 e13 j13 hed1 hc2
 generalize crS s = s1 at *
 have i1 := HI1.out
 have y0 := i1.y0
 have y1 := i1.y1
 have xx0 := i1.x0
 have xx1 := i1.x1
 have hcl1 := i1.cols
 have cc2 := i1.g.c2
 have hlen : s1.cells.length ≤ 1000000 := by rw [i1.g.n]; exact rc_le i1.g.r2 i1.g.c2
 have hpos : 0 < s1.cells.length := by rw [i1.g.n]; exact Nat.mul_pos i1.g.r1 i1.g.c1
 obtain ⟨yy, hyy⟩ : ∃ yy : Nat, s1.y = yy := ⟨s1.y.toNat, by omega⟩
 obtain ⟨xx, hxx⟩ : ∃ xx : Nat, s1.x = xx := ⟨s1.x.toNat, by omega⟩
 have hm : s1.y * s1.cols = ((yy * c : Nat) : Int) := by rw [hyy, hcl1, Int.natCast_mul]
 have hle : yy * c + c ≤ s1.cells.length := by
  rw [i1.g.n]
  have : (yy + 1) * c ≤ r * c := Nat.mul_le_mul_right _ (by omega)
  rw [Nat.add_mul, Nat.one_mul] at this
  exact this
 obtain ⟨ii, hii⟩ : ∃ ii : Nat, ii = atS s1 := ⟨_, rfl⟩
 have hat : s1.y * s1.cols + s1.x = (ii : Int) := by rw [hii]; unfold atS; omega
 have hat2 : ii = yy * c + xx := by omega
 have hil : ii < s1.cells.length := by omega
 have m0 : 0 ≤ s1.y * s1.cols := by omega
 have m1 : s1.y * s1.cols ≤ 1000000 := by omega
 have cs3 : s1.cols ≤ 1000 := by omega
 have cs4 : s1.x < s1.cols := by omega
 have HAT := Lh hat
 have HAT2 := Lh hat2
 have HII := Lh hii
 have HXX := Lh hxx
 have HCL := Lh hcl1
 have HLE := Lh hle
 clear i1 hcl1 hyy hxx hm hle hii hat hat2
 obtain ⟨Ac, kc, rfl, pc, qc⟩ := HU1.out.1.form
 obtain ⟨At, kt, rfl, pt, qt⟩ := HU1.out.2.1.form
 obtain ⟨Ao, ko, rfl, po, qo⟩ := HU1.out.2.2.1.form
 obtain ⟨Ap, kp, rfl, pp, qp⟩ := HU1.out.2.2.2.1.form
 obtain ⟨Ai, ki, rfl, pi, qi⟩ := HU1.out.2.2.2.2.1.form
 obtain ⟨Au, ku, rfl, pu, qu⟩ := HU1.out.2.2.2.2.2.form
 obtain ⟨d2, e2⟩ := cellR (v := .slice Ac s1.cells.length kc) KV.out 2 rfl
 have HC := Lh (HU1.out.1.cs HSU.out)
 go_upto_region 13 with fail
 ((with_reducible refine (own_any _ s1.cells _ HC.out (by omega)).mono ?_); rintro e w4 ⟨v4, rfl, o4, b4⟩)
 obtain ⟨gc, cap, rfl, hg1, hg2, hg3, hg4⟩ := o4.open_ hpos
 have z4 := b4.size
 have hzw := HZW.out
 have h4b : w4.heap[w.heap.size]? = _ := (b4.block _ (by omega)).trans KV.out
 have h41b : w4.heap[w.heap.size + 1]? = _ := (b4.block _ (by omega)).trans KR.out
 obtain ⟨f2, i2⟩ := cellR (v := .slice Ac s1.cells.length kc) h4b 2 rfl
 have B4 := Lh (BV.out.trans (b4.mono (by omega)))
 have HU4 := Lh (HU1.out.below HSU.out b4)
 have O4 := Lh (o4.lower (b2 := W1.heap.size) (Nat.le_refl _))
 have K4 := Lh h4b
 have K41 := Lh h41b
 clear o4 b4 h4b h41b d2 e2
 go_upto_region 13 with fail
 generalize hW5 : World.setCell _ _ _ = W5
 have h5b : W5.heap[w.heap.size]? = some (.cells (vS s1 (.slice (some ⟨gc, 0, none⟩) s1.cells.length cap) (.slice At s1.tabs.length kt) (.slice Ao s1.other.length ko) (.slice Ap s1.p.params.length kp) (.slice Ai s1.p.inter.length ki) (.slice Au s1.p.utf.length ku)) 30) := by rw [← hW5]; exact (heap_setCell_same _ _ 2 _ _ _ K4.out).trans rfl
 have h51b : W5.heap[w.heap.size + 1]? = some (.cells zQ 30) := by rw [← hW5]; exact (heap_setCell_other _ _ _ _ (by simp)).trans K41.out
 have o5 : OC W5 W1.heap.size (.slice (some ⟨gc, 0, none⟩) s1.cells.length cap) s1.cells := by rw [← hW5]; exact O4.out.other _ _ (by simp; omega)
 have z5 : W5.heap.size = w4.heap.size := by rw [← hW5]; simp
 have b5 : Below w.heap.size w W5 := by rw [← hW5]; exact B4.out.setCell (by simp) _
 have u5 : ∀ b, b ≠ w.heap.size → W5.heap[b]? = w4.heap[b]? := fun b hb => by rw [← hW5]; exact heap_setCell_other _ _ _ _ (by simpa using hb)
 obtain ⟨a1, n1'⟩ := cellR (v := .int .i64 s1.cols) h5b 1 rfl
 obtain ⟨a2, n2'⟩ := cellR (v := .slice (some ⟨gc, 0, none⟩) s1.cells.length cap) h5b 2 rfl
 obtain ⟨a3, n3'⟩ := cellR (v := .int .i64 s1.y) h5b 3 rfl
 obtain ⟨a4, n4'⟩ := cellR (v := .int .i64 s1.x) h5b 4 rfl
 obtain ⟨a6, n6'⟩ := cellR (v := .int .u16 (s1.attr : Int)) h5b 6 rfl
 obtain ⟨q0, q1, q2, s0, s1', s2, t0, t1, t2⟩ := o5.spot ii hil
 have K5 := Lh h5b
 have K51 := Lh h51b
 have O5 := Lh o5
 have Z5 := Lh z5
 have B5 := Lh b5
 have U5 := Lh u5
 clear f2 i2 h5b h51b o5 z5 b5 u5 hW5
 go_upto_region 14 with fail
 rw [HAT.out]
 go_upto_region 15 with fail
 generalize hW6 : World.setCell _ _ _ = W6
 have hk6 : ∀ b, b ≠ gc → W6.heap[b]? = W5.heap[b]? := fun b hb => by
  rw [← hW6]
  exact (heap_setCell_other _ _ _ _ (by simpa using hb)).trans ((heap_setCell_other _ _ _ _ (by simpa using hb)).trans (heap_setCell_other _ _ _ _ (by simpa using hb)))
 have h6b := (hk6 w.heap.size (by omega)).trans K5.out
 have h61b := (hk6 (w.heap.size + 1) (by omega)).trans K51.out
 have o6 : OC W6 W1.heap.size (.slice (some ⟨gc, 0, none⟩) s1.cells.length cap) (s1.cells.set ii ⟨rn, s1.attr, 0⟩) := by rw [← hW6]; exact O5.out.put ii hil ⟨rn, s1.attr, 0⟩
 have z6 : W6.heap.size = w4.heap.size := by rw [← hW6]; simpa using Z5.out
 have b6 : Below w.heap.size w W6 := by rw [← hW6]; exact below_put B5.out (by omega) _ _ _ _
 have u6 : ∀ b, b ≠ w.heap.size → b < W1.heap.size → W6.heap[b]? = w4.heap[b]? := fun b hb hb2 => (hk6 b (by omega)).trans (U5.out b hb)
 clear a1 n1' a2 n2' a3 n3' a4 n4' a6 n6' s0 s1' s2 t0 t1 t2 hW6 hk6
 obtain ⟨a1, n1'⟩ := cellR (v := .int .i64 s1.cols) h6b 1 rfl
 obtain ⟨a2, n2'⟩ := cellR (v := .slice (some ⟨gc, 0, none⟩) s1.cells.length cap) h6b 2 rfl
 obtain ⟨a3, n3'⟩ := cellR (v := .int .i64 s1.y) h6b 3 rfl
 obtain ⟨a6, n6'⟩ := cellR (v := .int .u16 (s1.attr : Int)) h6b 6 rfl
 have K6 := Lh h6b
 have K61 := Lh h61b
 have O6 := Lh o6
 have Z6 := Lh z6
 have B6 := Lh b6
 have U6 := Lh u6
 clear h6b h61b o6 z6 b6 u6
 have hil2 : ii + 1 < s1.cells.length := by have := HAT2.out; have := HLE.out; have := HXX.out; have := HCL.out; have := HEDGE.out; omega
 have hset : (s1.cells.set ii ⟨rn, s1.attr, 0⟩)[ii]? = some (⟨rn, s1.attr, 0⟩ : Cl) := by rw [List.getElem?_set, if_pos rfl, if_pos hil]
 have o7 := O6.out.half ii _ hset 1
 rw [List.set_set] at o7
 have HO7 := Lh o7
 obtain ⟨q0, q1, q2, s0, s1', s2, t0, t1, t2⟩ := O6.out.spot ii hil
 obtain ⟨q3, q4, q5, s3, s4, s5, t3, t4, t5⟩ := O6.out.spot (ii + 1) hil2
 have hne5 : ¬ (ii + 1) * 3 = ii * 3 + 2 := by omega
 have hne6 : ¬ (ii + 1) * 3 + 1 = ii * 3 + 2 := by omega
 have hne7 : ¬ (ii + 1) * 3 + 2 = ii * 3 + 2 := by omega
 clear o7 hset
 go_upto_region 18 with fail
 generalize hW7 : World.setCell _ _ _ = W7
 have hk7 : ∀ b, b ≠ gc → W7.heap[b]? = W6.heap[b]? := fun b hb => by
  rw [← hW7]
  exact (heap_setCell_other _ _ _ _ (by simpa using hb)).trans ((heap_setCell_other _ _ _ _ (by simpa using hb)).trans ((heap_setCell_other _ _ _ _ (by simpa using hb)).trans (heap_setCell_other _ _ _ _ (by simpa using hb))))
 have o8 : OC W7 W1.heap.size (.slice (some ⟨gc, 0, none⟩) s1.cells.length cap) ((s1.cells.set ii ⟨rn, s1.attr, 1⟩).set (ii + 1) ⟨0, s1.attr, 2⟩) := by rw [← hW7]; exact HO7.out.put (ii + 1) hil2 ⟨0, s1.attr, 2⟩
 have z7 : W7.heap.size = w4.heap.size := by rw [← hW7]; simpa using Z6.out
 have b7 : Below w.heap.size w W7 := by rw [← hW7]; exact below_put (B6.out.setCell (by simp; omega) _) (by omega) _ _ _ _
 have K7 := Lh ((hk7 w.heap.size (by omega)).trans K6.out)
 have K71 := Lh ((hk7 (w.heap.size + 1) (by omega)).trans K61.out)
 have O7 := Lh o8
 have Z7 := Lh z7
 have B7 := Lh b7
 have U7 : Hid (∀ b, b ≠ w.heap.size → b < W1.heap.size → W7.heap[b]? = w4.heap[b]?) := fun b hb hb2 => (hk7 b (by omega)).trans (U6.out b hb hb2)
 clear s0 s1' s2 t0 t1 t2 s3 s4 s5 t3 t4 t5 hne5 hne6 hne7 o8 z7 b7 hW7 hk7 a1 n1' a2 n2' a3 n3' a6 n6'
 obtain ⟨a1, n1'⟩ := cellR (v := .int .i64 s1.cols) K7.out 1 rfl
 obtain ⟨a2, n2'⟩ := cellR (v := .slice (some ⟨gc, 0, none⟩) s1.cells.length cap) K7.out 2 rfl
 obtain ⟨a3, n3'⟩ := cellR (v := .int .i64 s1.y) K7.out 3 rfl
 obtain ⟨a6, n6'⟩ := cellR (v := .int .u16 (s1.attr : Int)) K7.out 6 rfl
 have HM7 := Lh O7.out.cs
 go_upto_region 19 with fail
 ((with_reducible refine (Mend_any _ ((s1.cells.set ii ⟨rn, s1.attr, 1⟩).set (ii + 1) ⟨0, s1.attr, 2⟩) s1.cols s1.y _ HM7.out (by simp; omega)).mono ?_); rintro e w8 ⟨v8, rfl, o8, b8⟩)
 have z8 := b8.size
 rw [Z7.out] at z8
 have h8b : w8.heap[w.heap.size]? = _ := (b8.block _ (by rw [Z7.out]; omega)).trans K7.out
 have h81b : w8.heap[w.heap.size + 1]? = _ := (b8.block _ (by rw [Z7.out]; omega)).trans K71.out
 obtain ⟨f2, i2⟩ := cellR (v := .slice (some ⟨gc, 0, none⟩) s1.cells.length cap) h8b 2 rfl
 obtain ⟨A8, q8, rfl, p8, r8⟩ := o8.cs.form
 have B8 := Lh (B7.out.trans (b8.mono (by rw [Z7.out]; omega)))
 have O8 := Lh (o8.lower (b2 := W1.heap.size) (by rw [Z7.out]; omega))
 have U8 : Hid (∀ b, b ≠ w.heap.size → b < W1.heap.size → w8.heap[b]? = w4.heap[b]?) := fun b hb hb2 => (b8.block b (by rw [Z7.out]; omega)).trans (U7.out b hb hb2)
 have K8 := Lh h8b
 have K81 := Lh h81b
 clear o8 b8 h8b h81b a1 n1' a2 n2' a3 n3' a6 n6'
 go_upto_region 19 with fail
 generalize hW9 : World.setCell _ _ _ = W9
 have h9b : W9.heap[w.heap.size]? = some (.cells (vS { s1 with cells := mendL ((s1.cells.set ii ⟨rn, s1.attr, 1⟩).set (ii + 1) ⟨0, s1.attr, 2⟩) s1.cols s1.y } (.slice A8 (mendL ((s1.cells.set ii ⟨rn, s1.attr, 1⟩).set (ii + 1) ⟨0, s1.attr, 2⟩) s1.cols s1.y).length q8) (.slice At s1.tabs.length kt) (.slice Ao s1.other.length ko) (.slice Ap s1.p.params.length kp) (.slice Ai s1.p.inter.length ki) (.slice Au s1.p.utf.length ku)) 30) := by rw [← hW9]; exact (heap_setCell_same _ _ 2 _ _ _ K8.out).trans rfl
 have hk9 : ∀ b, b ≠ w.heap.size → W9.heap[b]? = w8.heap[b]? := fun b hb => by rw [← hW9]; exact heap_setCell_other _ _ _ _ (by simpa using hb)
 have h91b := (hk9 (w.heap.size + 1) (by omega)).trans K81.out
 have z9 : W9.heap.size = w8.heap.size := by rw [← hW9]; simp
 have b9 : Below w.heap.size w W9 := by rw [← hW9]; exact B8.out.setCell (by simp) _
 have o9 : OC W9 W1.heap.size (.slice A8 (mendL ((s1.cells.set ii ⟨rn, s1.attr, 1⟩).set (ii + 1) ⟨0, s1.attr, 2⟩) s1.cols s1.y).length q8) (mendL ((s1.cells.set ii ⟨rn, s1.attr, 1⟩).set (ii + 1) ⟨0, s1.attr, 2⟩) s1.cols s1.y) := by rw [← hW9]; exact O8.out.other _ _ (by simp; omega)
 have u9 : ∀ b, b ≠ w.heap.size → b < W1.heap.size → W9.heap[b]? = w4.heap[b]? := fun b hb hb2 => by rw [← hW9]; exact (heap_setCell_other _ _ _ _ (by simpa using hb)).trans (U8.out b hb hb2)
 obtain ⟨a1, n1'⟩ := cellR (v := .int .i64 s1.cols) h9b 1 rfl
 obtain ⟨a4, n4'⟩ := cellR (v := .int .i64 s1.x) h9b 4 rfl
 obtain ⟨a5, n5'⟩ := cellR (v := .bool s1.wrap) h9b 5 rfl
 obtain ⟨a13, n13'⟩ := cellR (v := .bool s1.auto) h9b 13 rfl
 have K9 := Lh h9b
 have K91 := Lh h91b
 have O9 := Lh o9
 have Z9 := Lh z9
 have B9 := Lh b9
 have U9 := Lh u9
 clear f2 i2 h9b h91b o9 z9 b9 u9 hW9 hk9
 have HSUW : Hid (∀ W : World, (∀ b, b ≠ w.heap.size → b < W1.heap.size → W.heap[b]? = w4.heap[b]?) → w8.heap.size ≤ W.heap.size → SSl W (fun x => S x ∨ (w.heap.size + 1 < x ∧ x < W.heap.size)) { s1 with cells := s1.cells } (.slice Ac s1.cells.length kc) (.slice At s1.tabs.length kt) (.slice Ao s1.other.length ko) (.slice Ap s1.p.params.length kp) (.slice Ai s1.p.inter.length ki) (.slice Au s1.p.utf.length ku)) := fun W hW hz => (HU4.out.keep (fun q hq => World.cell?_of_block (hW _ (by
  rcases hq with h | h
  ·have := HSS.out _ h; omega
  ·omega) (HSU.out _ hq)))).mono (fun x hx => hx.imp id (fun h => ⟨h.1, by omega⟩))
 by_cases hend : s1.cols ≤ s1.x + 2
 ·have hputs : putS s1 rn 2 = { s1 with cells := mendL ((s1.cells.set ii ⟨rn, s1.attr, 1⟩).set (ii + 1) ⟨0, s1.attr, 2⟩) s1.cols s1.y, x := s1.cols - 1, wrap := s1.auto } := by
   unfold putS
   rw [if_pos hend]
   simp [cells1, cells2, ← HII.out]
  have HPUT := Lh hputs
  clear hputs
  go_upto_region 22 with fail
  refine wp_region_lit ?_
  refine wpl_loadS rfl (.tmp 2) rfl rfl ((heap_setCell_same _ _ 5 _ _ _ ((heap_setCell_same _ _ 4 _ _ _ ((heap_setCell_same _ _ 4 _ _ _ K9.out).trans rfl)).trans rfl)).trans rfl) rfl ?_
  have HR1 := (heap_setCell_other (((W9.setCell ⟨w.heap.size, 4, none⟩ (.int .i64 (s1.x + 2))).setCell ⟨w.heap.size, 4, none⟩ (.int .i64 (s1.cols - 1)))) ⟨w.heap.size, 5, none⟩ (w.heap.size + 1) (.bool s1.auto) (by simp)).trans ((heap_setCell_other _ _ _ _ (by simp)).trans ((heap_setCell_other _ _ _ _ (by simp)).trans K91.out))
  refine wpl_storeS rfl (.tmp 4) (.tmp 99) rfl rfl rfl HR1 rfl rfl all25 ?_
  go_wp2
  have hsold := HSUW.out (((W9.setCell ⟨w.heap.size, 4, none⟩ (.int .i64 (s1.x + 2))).setCell ⟨w.heap.size, 4, none⟩ (.int .i64 (s1.cols - 1))).setCell ⟨w.heap.size, 5, none⟩ (.bool s1.auto)) (fun b hb hb2 => (heap_setCell_other _ _ _ _ (by simpa using hb)).trans ((heap_setCell_other _ _ _ _ (by simpa using hb)).trans ((heap_setCell_other _ _ _ _ (by simpa using hb)).trans (U9.out b hb hb2)))) (by simp; rw [Z9.out]; exact Nat.le_refl _)
  rw [HPUT.out]
  refine scEndV (s := { s1 with cells := mendL ((s1.cells.set ii ⟨rn, s1.attr, 1⟩).set (ii + 1) ⟨0, s1.attr, 2⟩) s1.cols s1.y, x := s1.cols - 1, wrap := s1.auto }) (w.heap.size + 1) 4 Tryz.results72 ?_ ?_ HR1 (by omega) (((B9.out.setCell (by simp) _).setCell (by simp) _).setCell (by simp) _) HSS.out ⟨((((O9.out.other _ _ (by simp; omega)).other _ _ (by simp; omega)).other _ _ (by simp; omega)).cl.mono (fun x hx => .inr ⟨by have := hx.1; omega, hx.2⟩)), hsold.2⟩ (fun x hx => hx)
  all_goals rfl
 ·have hputs : putS s1 rn 2 = { s1 with cells := mendL ((s1.cells.set ii ⟨rn, s1.attr, 1⟩).set (ii + 1) ⟨0, s1.attr, 2⟩) s1.cols s1.y, x := s1.x + 2 } := by
   unfold putS
   rw [if_neg (by omega)]
   simp [cells1, cells2, ← HII.out]
  have HPUT := Lh hputs
  clear hputs
  go_upto_region 22 with fail
  refine wp_region_lit ?_
  refine wpl_loadS rfl (.tmp 2) rfl rfl ((heap_setCell_same _ _ 4 _ _ _ K9.out).trans rfl) rfl ?_
  have HR1 := (heap_setCell_other W9 ⟨w.heap.size, 4, none⟩ (w.heap.size + 1) (.int .i64 (s1.x + 2)) (by simp)).trans K91.out
  refine wpl_storeS rfl (.tmp 4) (.tmp 99) rfl rfl rfl HR1 rfl rfl all25 ?_
  go_wp2
  have hsold := HSUW.out (W9.setCell ⟨w.heap.size, 4, none⟩ (.int .i64 (s1.x + 2))) (fun b hb hb2 => (heap_setCell_other _ _ _ _ (by simpa using hb)).trans (U9.out b hb hb2)) (by simp; rw [Z9.out]; exact Nat.le_refl _)
  rw [HPUT.out]
  refine scEndV (s := { s1 with cells := mendL ((s1.cells.set ii ⟨rn, s1.attr, 1⟩).set (ii + 1) ⟨0, s1.attr, 2⟩) s1.cols s1.y, x := s1.x + 2 }) (w.heap.size + 1) 4 Tryz.results72 ?_ ?_ HR1 (by omega) (B9.out.setCell (by simp) _) HSS.out ⟨((O9.out.other _ _ (by simp; omega)).cl.mono (fun x hx => .inr ⟨by have := hx.1; omega, hx.2⟩)), hsold.2⟩ (fun x hx => hx)
  all_goals rfl
theorem printr_any (v : Value) (s : Sc) (rn : Int) (r c : Nat) (S : Nat → Prop) (w : World) (hS : ∀ x, S x → x < w.heap.size) (h : SCV w S v s) (hi : ScIn s r c) (n0 : -2147483648 ≤ rn) (n1 : rn ≤ 2147483647) : Calls Tryz.prog 72 #[v, .int .i32 rn] w (ScPost S (printS s rn) w) := by
 have hw3 : widthL rn = 0 ∨ widthL rn = 1 ∨ widthL rn = 2 := by
  unfold widthL
  split
  ·exact .inl rfl
  ·split
   ·exact .inr (.inr rfl)
   ·exact .inr (.inl rfl)
 have hcc : (crS s).cols = s.cols := by
  unfold crS downS
  split
  ·rfl
  ·split <;> rfl
 have hx0 : (crS s).x = 0 := rfl
 unfold printS wrapS
 rcases hw3 with h0 | h1 | h2
 ·rw [if_pos h0]; exact printr_0 v s rn r c S w hS h hi n0 n1 h0
 ·rw [if_neg (by omega), if_neg (by omega), h1]
  cases hw : s.wrap with
  | true => rw [if_pos rfl]; exact printr_1 v s _ rn r c S w hS h hi n0 n1 h1 (.inr ⟨hw, rfl⟩)
  | false => rw [if_neg (by simp)]; exact printr_1 v s _ rn r c S w hS h hi n0 n1 h1 (.inl ⟨hw, rfl⟩)
 ·rw [if_neg (by omega)]
  cases hw : s.wrap with
  | true =>
   simp only [if_true]
   by_cases hc : s.cols = 1
   ·rw [if_pos ⟨h2, by rw [hx0, hcc, hc]; rfl⟩, if_pos (.inr (by rw [hcc, hc]))]
    exact printr_w0 v s rn r c S w hS h hi n0 n1 h2 hw hc
   ·rw [if_neg (fun e => by have := e.2; rw [hx0, hcc] at this; omega), h2]
    exact printr_w2 v s rn r c S w hS h hi n0 n1 h2 hw hc
  | false =>
   simp only [Bool.false_eq_true, if_false]
   by_cases he : s.x = s.cols - 1
   ·rw [if_pos ⟨h2, he⟩]
    by_cases hn : s.auto = false ∨ s.cols = 1
    ·rw [if_pos hn]; exact printr_e0 v s rn r c S w hS h hi n0 n1 h2 hw he hn
    ·rw [if_neg hn]
     exact printr_e2 v s rn r c S w hS h hi n0 n1 h2 hw he (by cases ha : s.auto <;> simp_all) (fun e => hn (.inr e))
   ·rw [if_neg (fun e => he e.2), h2]
    exact printr_p2 v s rn r c S w hS h hi n0 n1 h2 hw he
theorem paramr_0 {v : Value} {l : List Int} {u n : Int} {T : Nat → Prop} {w : World} (h : SL vI w T v l) (hl : l.length ≤ 1048576) (hn : paramL l 0 u = n) : Calls Tryz.prog 101 #[v, .int .i64 0, .int .i64 u] w fun e w' => e = .returned (.int .i64 n) ∧ w = w' := by
 subst hn
 exact paramr_any v l 0 u T w h hl (by omega)
theorem paramr_1 {v : Value} {l : List Int} {u n : Int} {T : Nat → Prop} {w : World} (h : SL vI w T v l) (hl : l.length ≤ 1048576) (hn : paramL l 1 u = n) : Calls Tryz.prog 101 #[v, .int .i64 1, .int .i64 u] w fun e w' => e = .returned (.int .i64 n) ∧ w = w' := by
 subst hn
 exact paramr_any v l 1 u T w h hl (by omega)
theorem paramL_bd {l : List Int} (h : ∀ x ∈ l, 0 ≤ x ∧ x ≤ 65535) (i : Nat) (u : Int) (hu : 0 ≤ u) (hu2 : u ≤ 65535) : u ≤ paramL l i u ∨ 1 ≤ paramL l i u := by
 unfold paramL
 split
 ·exact .inl (Int.le_refl _)
 ·rename_i hne
  refine .inr ?_
  have hm : 0 ≤ l.getD i 0 := by
   unfold List.getD
   cases hx : l[i]? with
   | none => exact Int.le_refl _
   | some x => exact (h x (List.mem_of_getElem? hx)).1
  omega
theorem paramL_hi {l : List Int} (h : ∀ x ∈ l, 0 ≤ x ∧ x ≤ 65535) (i : Nat) (u : Int) (hu : 0 ≤ u) (hu2 : u ≤ 65535) : 0 ≤ paramL l i u ∧ paramL l i u ≤ 65535 := by
 unfold paramL
 split
 ·exact ⟨hu, hu2⟩
 ·unfold List.getD
  cases hx : l[i]? with
  | none => exact ⟨Int.le_refl _, by show (0 : Int) ≤ 65535; omega⟩
  | some x => exact h x (List.mem_of_getElem? hx)
theorem seqr_65 (v vl : Value) (s : Sc) (l : List Int) (b : Int) (r c : Nat) (S T : Nat → Prop) (w : World) (hS : ∀ x, S x → x < w.heap.size) (hT : ∀ x, T x → x < w.heap.size) (h : SCV w S v s) (hi : ScIn s r c) (hl : SL vI w T vl l) (hl2 : l.length ≤ 1048576) (n m k : Int) (hn : paramL l 0 1 = n) (hm : paramL l 1 1 = m) (hk : paramL l 0 0 = k) (n1 : 1 ≤ n) (n2 : n ≤ 65535) (m1 : 1 ≤ m) (m2 : m ≤ 65535) (k0 : 0 ≤ k) (k9 : k ≤ 65535) (hb : b = 65) : Calls Tryz.prog 76 #[v, .int .u8 b, vl] w (ScPost S (toS s (s.y - n) (s.x)) w) := by
 have HSS := Lh hS
 clear hS
 obtain ⟨vc, vt, vo, vp, vi, vu, rfl, hs⟩ := h
 have HS := Lh hs
 obtain ⟨A1, kk1, A2, k2, A3, k3, A4, k4, A5, k5, A6, k6, rfl, rfl, rfl, rfl, rfl, rfl, p1, q1, p2, q2, p3, q3, p4, q4, p5, q5, p6, q6⟩ := sslSix hs
 have HI := Lh hi
 obtain ⟨y0, y1, x0, x1, hcl, hrl, c2, r2, hlen⟩ := dIn hi
 have c3 : s.cols ≤ 1000 := by omega
 have r3 : s.rows ≤ 1000 := by omega
 have r4 : 1 ≤ s.rows := by omega
 have c4 : s.x < s.cols := by omega
 have c5 : 1 ≤ s.cols := by omega
 have yr : s.y < s.rows := by omega
 have HN := Lh hn
 have HMM := Lh hm
 have HK := Lh hk
 obtain ⟨Al, kl, rfl, pl, ql⟩ := hl.form
 clear hi hcl hrl hn hm hk
 have h2 := two_new w (.cells (vA s A1 A2 A3 A4 A5 A6 kk1 k2 k3 k4 k5 k6) 30) (.cells zQ 30)
 have HS2 : Hid (∀ x, S x → x < _) := fun x hx => Nat.lt_of_lt_of_le (HSS.out x hx) h2.1.size
 have H2 := Lh h2
 have HL := Lh (hl.keep (fun q hq => h2.1.cell (hT _ hq)))
 have HV := Lh (show SCV _ S (.agg (vA s A1 A2 A3 A4 A5 A6 kk1 k2 k3 k4 k5 k6)) s from ⟨_, _, _, _, _, _, rfl, HS.out.below HSS.out h2.1⟩)
 clear hl hT
 clear h2
 subst hb
 go_enter Tryz.func76, Tryz.ntmps76
 go_upto_region 2 with (first | ((with_reducible refine (paramr_0 HL.out hl2 HN.out).mono ?_); rintro e w' ⟨rfl, rfl⟩) | ((with_reducible refine (paramr_1 HL.out hl2 HMM.out).mono ?_); rintro e w' ⟨rfl, rfl⟩) | ((with_reducible refine (paramr_0 HL.out hl2 HK.out).mono ?_); rintro e w' ⟨rfl, rfl⟩))
 go_upto_region 4 with fail
 refine wp_region_lit ?_
 refine wpl_loadS rfl (.tmp 3) rfl rfl (heap_a1 w _ _) rfl ?_
 go_wp2_with fail
 ((with_reducible refine (tor_any _ s (s.y - n) (s.x) S _ HS2.out HV.out r4 r3 c5 c3).mono ?_); rintro e w4 ⟨v4, rfl, hv4, b4⟩)
 have hb4 : Below (w.heap.size + 1 + 1) _ w4 := (by rw [← H2.out.2]; exact b4)
 obtain ⟨e0, e1⟩ := two_keptB hb4
 have z4 := b4.size
 rw [H2.out.2] at z4
 obtain ⟨uc, ut, uo, up, ui, uu, rfl, hs4⟩ := hv4
 rename_i K hK
 refine hK _ _ ?_
 refine wpl_storeS rfl (.tmp 6) (.tmp 29) rfl rfl rfl e1 rfl rfl hs4.one ?_
 go_wp2
 refine scEndV (w.heap.size + 1) 6 Tryz.results76 rfl rfl e1 (by omega) (H2.out.1.trans (hb4.mono (by omega))) HSS.out hs4 (fun x hx => ?_)
 rcases hx with h | h
 ·exact .inl h
 ·have := h.1
  rw [H2.out.2] at this
  exact .inr ⟨by omega, h.2⟩
theorem seqr_66 (v vl : Value) (s : Sc) (l : List Int) (b : Int) (r c : Nat) (S T : Nat → Prop) (w : World) (hS : ∀ x, S x → x < w.heap.size) (hT : ∀ x, T x → x < w.heap.size) (h : SCV w S v s) (hi : ScIn s r c) (hl : SL vI w T vl l) (hl2 : l.length ≤ 1048576) (n m k : Int) (hn : paramL l 0 1 = n) (hm : paramL l 1 1 = m) (hk : paramL l 0 0 = k) (n1 : 1 ≤ n) (n2 : n ≤ 65535) (m1 : 1 ≤ m) (m2 : m ≤ 65535) (k0 : 0 ≤ k) (k9 : k ≤ 65535) (hb : b = 66) : Calls Tryz.prog 76 #[v, .int .u8 b, vl] w (ScPost S (toS s (s.y + n) (s.x)) w) := by
 have HSS := Lh hS
 clear hS
 obtain ⟨vc, vt, vo, vp, vi, vu, rfl, hs⟩ := h
 have HS := Lh hs
 obtain ⟨A1, kk1, A2, k2, A3, k3, A4, k4, A5, k5, A6, k6, rfl, rfl, rfl, rfl, rfl, rfl, p1, q1, p2, q2, p3, q3, p4, q4, p5, q5, p6, q6⟩ := sslSix hs
 have HI := Lh hi
 obtain ⟨y0, y1, x0, x1, hcl, hrl, c2, r2, hlen⟩ := dIn hi
 have c3 : s.cols ≤ 1000 := by omega
 have r3 : s.rows ≤ 1000 := by omega
 have r4 : 1 ≤ s.rows := by omega
 have c4 : s.x < s.cols := by omega
 have c5 : 1 ≤ s.cols := by omega
 have yr : s.y < s.rows := by omega
 have HN := Lh hn
 have HMM := Lh hm
 have HK := Lh hk
 obtain ⟨Al, kl, rfl, pl, ql⟩ := hl.form
 clear hi hcl hrl hn hm hk
 have h2 := two_new w (.cells (vA s A1 A2 A3 A4 A5 A6 kk1 k2 k3 k4 k5 k6) 30) (.cells zQ 30)
 have HS2 : Hid (∀ x, S x → x < _) := fun x hx => Nat.lt_of_lt_of_le (HSS.out x hx) h2.1.size
 have H2 := Lh h2
 have HL := Lh (hl.keep (fun q hq => h2.1.cell (hT _ hq)))
 have HV := Lh (show SCV _ S (.agg (vA s A1 A2 A3 A4 A5 A6 kk1 k2 k3 k4 k5 k6)) s from ⟨_, _, _, _, _, _, rfl, HS.out.below HSS.out h2.1⟩)
 clear hl hT
 clear h2
 subst hb
 go_enter Tryz.func76, Tryz.ntmps76
 go_upto_region 2 with (first | ((with_reducible refine (paramr_0 HL.out hl2 HN.out).mono ?_); rintro e w' ⟨rfl, rfl⟩) | ((with_reducible refine (paramr_1 HL.out hl2 HMM.out).mono ?_); rintro e w' ⟨rfl, rfl⟩) | ((with_reducible refine (paramr_0 HL.out hl2 HK.out).mono ?_); rintro e w' ⟨rfl, rfl⟩))
 go_upto_region 6 with fail
 refine wp_region_lit ?_
 refine wpl_loadS rfl (.tmp 3) rfl rfl (heap_a1 w _ _) rfl ?_
 go_wp2_with fail
 ((with_reducible refine (tor_any _ s (s.y + n) (s.x) S _ HS2.out HV.out r4 r3 c5 c3).mono ?_); rintro e w4 ⟨v4, rfl, hv4, b4⟩)
 have hb4 : Below (w.heap.size + 1 + 1) _ w4 := (by rw [← H2.out.2]; exact b4)
 obtain ⟨e0, e1⟩ := two_keptB hb4
 have z4 := b4.size
 rw [H2.out.2] at z4
 obtain ⟨uc, ut, uo, up, ui, uu, rfl, hs4⟩ := hv4
 rename_i K hK
 refine hK _ _ ?_
 refine wpl_storeS rfl (.tmp 6) (.tmp 39) rfl rfl rfl e1 rfl rfl hs4.one ?_
 go_wp2
 refine scEndV (w.heap.size + 1) 6 Tryz.results76 rfl rfl e1 (by omega) (H2.out.1.trans (hb4.mono (by omega))) HSS.out hs4 (fun x hx => ?_)
 rcases hx with h | h
 ·exact .inl h
 ·have := h.1
  rw [H2.out.2] at this
  exact .inr ⟨by omega, h.2⟩
theorem seqr_67 (v vl : Value) (s : Sc) (l : List Int) (b : Int) (r c : Nat) (S T : Nat → Prop) (w : World) (hS : ∀ x, S x → x < w.heap.size) (hT : ∀ x, T x → x < w.heap.size) (h : SCV w S v s) (hi : ScIn s r c) (hl : SL vI w T vl l) (hl2 : l.length ≤ 1048576) (n m k : Int) (hn : paramL l 0 1 = n) (hm : paramL l 1 1 = m) (hk : paramL l 0 0 = k) (n1 : 1 ≤ n) (n2 : n ≤ 65535) (m1 : 1 ≤ m) (m2 : m ≤ 65535) (k0 : 0 ≤ k) (k9 : k ≤ 65535) (hb : b = 67) : Calls Tryz.prog 76 #[v, .int .u8 b, vl] w (ScPost S (toS s (s.y) (s.x + n)) w) := by
 have HSS := Lh hS
 clear hS
 obtain ⟨vc, vt, vo, vp, vi, vu, rfl, hs⟩ := h
 have HS := Lh hs
 obtain ⟨A1, kk1, A2, k2, A3, k3, A4, k4, A5, k5, A6, k6, rfl, rfl, rfl, rfl, rfl, rfl, p1, q1, p2, q2, p3, q3, p4, q4, p5, q5, p6, q6⟩ := sslSix hs
 have HI := Lh hi
 obtain ⟨y0, y1, x0, x1, hcl, hrl, c2, r2, hlen⟩ := dIn hi
 have c3 : s.cols ≤ 1000 := by omega
 have r3 : s.rows ≤ 1000 := by omega
 have r4 : 1 ≤ s.rows := by omega
 have c4 : s.x < s.cols := by omega
 have c5 : 1 ≤ s.cols := by omega
 have yr : s.y < s.rows := by omega
 have HN := Lh hn
 have HMM := Lh hm
 have HK := Lh hk
 obtain ⟨Al, kl, rfl, pl, ql⟩ := hl.form
 clear hi hcl hrl hn hm hk
 have h2 := two_new w (.cells (vA s A1 A2 A3 A4 A5 A6 kk1 k2 k3 k4 k5 k6) 30) (.cells zQ 30)
 have HS2 : Hid (∀ x, S x → x < _) := fun x hx => Nat.lt_of_lt_of_le (HSS.out x hx) h2.1.size
 have H2 := Lh h2
 have HL := Lh (hl.keep (fun q hq => h2.1.cell (hT _ hq)))
 have HV := Lh (show SCV _ S (.agg (vA s A1 A2 A3 A4 A5 A6 kk1 k2 k3 k4 k5 k6)) s from ⟨_, _, _, _, _, _, rfl, HS.out.below HSS.out h2.1⟩)
 clear hl hT
 clear h2
 subst hb
 go_enter Tryz.func76, Tryz.ntmps76
 go_upto_region 2 with (first | ((with_reducible refine (paramr_0 HL.out hl2 HN.out).mono ?_); rintro e w' ⟨rfl, rfl⟩) | ((with_reducible refine (paramr_1 HL.out hl2 HMM.out).mono ?_); rintro e w' ⟨rfl, rfl⟩) | ((with_reducible refine (paramr_0 HL.out hl2 HK.out).mono ?_); rintro e w' ⟨rfl, rfl⟩))
 go_upto_region 8 with fail
 refine wp_region_lit ?_
 refine wpl_loadS rfl (.tmp 3) rfl rfl (heap_a1 w _ _) rfl ?_
 go_wp2_with fail
 ((with_reducible refine (tor_any _ s (s.y) (s.x + n) S _ HS2.out HV.out r4 r3 c5 c3).mono ?_); rintro e w4 ⟨v4, rfl, hv4, b4⟩)
 have hb4 : Below (w.heap.size + 1 + 1) _ w4 := (by rw [← H2.out.2]; exact b4)
 obtain ⟨e0, e1⟩ := two_keptB hb4
 have z4 := b4.size
 rw [H2.out.2] at z4
 obtain ⟨uc, ut, uo, up, ui, uu, rfl, hs4⟩ := hv4
 rename_i K hK
 refine hK _ _ ?_
 refine wpl_storeS rfl (.tmp 6) (.tmp 49) rfl rfl rfl e1 rfl rfl hs4.one ?_
 go_wp2
 refine scEndV (w.heap.size + 1) 6 Tryz.results76 rfl rfl e1 (by omega) (H2.out.1.trans (hb4.mono (by omega))) HSS.out hs4 (fun x hx => ?_)
 rcases hx with h | h
 ·exact .inl h
 ·have := h.1
  rw [H2.out.2] at this
  exact .inr ⟨by omega, h.2⟩
theorem seqr_68 (v vl : Value) (s : Sc) (l : List Int) (b : Int) (r c : Nat) (S T : Nat → Prop) (w : World) (hS : ∀ x, S x → x < w.heap.size) (hT : ∀ x, T x → x < w.heap.size) (h : SCV w S v s) (hi : ScIn s r c) (hl : SL vI w T vl l) (hl2 : l.length ≤ 1048576) (n m k : Int) (hn : paramL l 0 1 = n) (hm : paramL l 1 1 = m) (hk : paramL l 0 0 = k) (n1 : 1 ≤ n) (n2 : n ≤ 65535) (m1 : 1 ≤ m) (m2 : m ≤ 65535) (k0 : 0 ≤ k) (k9 : k ≤ 65535) (hb : b = 68) : Calls Tryz.prog 76 #[v, .int .u8 b, vl] w (ScPost S (toS s (s.y) (s.x - n)) w) := by
 have HSS := Lh hS
 clear hS
 obtain ⟨vc, vt, vo, vp, vi, vu, rfl, hs⟩ := h
 have HS := Lh hs
 obtain ⟨A1, kk1, A2, k2, A3, k3, A4, k4, A5, k5, A6, k6, rfl, rfl, rfl, rfl, rfl, rfl, p1, q1, p2, q2, p3, q3, p4, q4, p5, q5, p6, q6⟩ := sslSix hs
 have HI := Lh hi
 obtain ⟨y0, y1, x0, x1, hcl, hrl, c2, r2, hlen⟩ := dIn hi
 have c3 : s.cols ≤ 1000 := by omega
 have r3 : s.rows ≤ 1000 := by omega
 have r4 : 1 ≤ s.rows := by omega
 have c4 : s.x < s.cols := by omega
 have c5 : 1 ≤ s.cols := by omega
 have yr : s.y < s.rows := by omega
 have HN := Lh hn
 have HMM := Lh hm
 have HK := Lh hk
 obtain ⟨Al, kl, rfl, pl, ql⟩ := hl.form
 clear hi hcl hrl hn hm hk
 have h2 := two_new w (.cells (vA s A1 A2 A3 A4 A5 A6 kk1 k2 k3 k4 k5 k6) 30) (.cells zQ 30)
 have HS2 : Hid (∀ x, S x → x < _) := fun x hx => Nat.lt_of_lt_of_le (HSS.out x hx) h2.1.size
 have H2 := Lh h2
 have HL := Lh (hl.keep (fun q hq => h2.1.cell (hT _ hq)))
 have HV := Lh (show SCV _ S (.agg (vA s A1 A2 A3 A4 A5 A6 kk1 k2 k3 k4 k5 k6)) s from ⟨_, _, _, _, _, _, rfl, HS.out.below HSS.out h2.1⟩)
 clear hl hT
 clear h2
 subst hb
 go_enter Tryz.func76, Tryz.ntmps76
 go_upto_region 2 with (first | ((with_reducible refine (paramr_0 HL.out hl2 HN.out).mono ?_); rintro e w' ⟨rfl, rfl⟩) | ((with_reducible refine (paramr_1 HL.out hl2 HMM.out).mono ?_); rintro e w' ⟨rfl, rfl⟩) | ((with_reducible refine (paramr_0 HL.out hl2 HK.out).mono ?_); rintro e w' ⟨rfl, rfl⟩))
 go_upto_region 10 with fail
 refine wp_region_lit ?_
 refine wpl_loadS rfl (.tmp 3) rfl rfl (heap_a1 w _ _) rfl ?_
 go_wp2_with fail
 ((with_reducible refine (tor_any _ s (s.y) (s.x - n) S _ HS2.out HV.out r4 r3 c5 c3).mono ?_); rintro e w4 ⟨v4, rfl, hv4, b4⟩)
 have hb4 : Below (w.heap.size + 1 + 1) _ w4 := (by rw [← H2.out.2]; exact b4)
 obtain ⟨e0, e1⟩ := two_keptB hb4
 have z4 := b4.size
 rw [H2.out.2] at z4
 obtain ⟨uc, ut, uo, up, ui, uu, rfl, hs4⟩ := hv4
 rename_i K hK
 refine hK _ _ ?_
 refine wpl_storeS rfl (.tmp 6) (.tmp 59) rfl rfl rfl e1 rfl rfl hs4.one ?_
 go_wp2
 refine scEndV (w.heap.size + 1) 6 Tryz.results76 rfl rfl e1 (by omega) (H2.out.1.trans (hb4.mono (by omega))) HSS.out hs4 (fun x hx => ?_)
 rcases hx with h | h
 ·exact .inl h
 ·have := h.1
  rw [H2.out.2] at this
  exact .inr ⟨by omega, h.2⟩
theorem seqr_71 (v vl : Value) (s : Sc) (l : List Int) (b : Int) (r c : Nat) (S T : Nat → Prop) (w : World) (hS : ∀ x, S x → x < w.heap.size) (hT : ∀ x, T x → x < w.heap.size) (h : SCV w S v s) (hi : ScIn s r c) (hl : SL vI w T vl l) (hl2 : l.length ≤ 1048576) (n m k : Int) (hn : paramL l 0 1 = n) (hm : paramL l 1 1 = m) (hk : paramL l 0 0 = k) (n1 : 1 ≤ n) (n2 : n ≤ 65535) (m1 : 1 ≤ m) (m2 : m ≤ 65535) (k0 : 0 ≤ k) (k9 : k ≤ 65535) (hb : b = 71 ∨ b = 96) : Calls Tryz.prog 76 #[v, .int .u8 b, vl] w (ScPost S (toS s (s.y) (n - 1)) w) := by
 have HSS := Lh hS
 clear hS
 obtain ⟨vc, vt, vo, vp, vi, vu, rfl, hs⟩ := h
 have HS := Lh hs
 obtain ⟨A1, kk1, A2, k2, A3, k3, A4, k4, A5, k5, A6, k6, rfl, rfl, rfl, rfl, rfl, rfl, p1, q1, p2, q2, p3, q3, p4, q4, p5, q5, p6, q6⟩ := sslSix hs
 have HI := Lh hi
 obtain ⟨y0, y1, x0, x1, hcl, hrl, c2, r2, hlen⟩ := dIn hi
 have c3 : s.cols ≤ 1000 := by omega
 have r3 : s.rows ≤ 1000 := by omega
 have r4 : 1 ≤ s.rows := by omega
 have c4 : s.x < s.cols := by omega
 have c5 : 1 ≤ s.cols := by omega
 have yr : s.y < s.rows := by omega
 have HN := Lh hn
 have HMM := Lh hm
 have HK := Lh hk
 obtain ⟨Al, kl, rfl, pl, ql⟩ := hl.form
 clear hi hcl hrl hn hm hk
 have h2 := two_new w (.cells (vA s A1 A2 A3 A4 A5 A6 kk1 k2 k3 k4 k5 k6) 30) (.cells zQ 30)
 have HS2 : Hid (∀ x, S x → x < _) := fun x hx => Nat.lt_of_lt_of_le (HSS.out x hx) h2.1.size
 have H2 := Lh h2
 have HL := Lh (hl.keep (fun q hq => h2.1.cell (hT _ hq)))
 have HV := Lh (show SCV _ S (.agg (vA s A1 A2 A3 A4 A5 A6 kk1 k2 k3 k4 k5 k6)) s from ⟨_, _, _, _, _, _, rfl, HS.out.below HSS.out h2.1⟩)
 clear hl hT
 clear h2
 rcases hb with rfl | rfl
 all_goals
  go_enter Tryz.func76, Tryz.ntmps76
  go_upto_region 2 with (first | ((with_reducible refine (paramr_0 HL.out hl2 HN.out).mono ?_); rintro e w' ⟨rfl, rfl⟩) | ((with_reducible refine (paramr_1 HL.out hl2 HMM.out).mono ?_); rintro e w' ⟨rfl, rfl⟩) | ((with_reducible refine (paramr_0 HL.out hl2 HK.out).mono ?_); rintro e w' ⟨rfl, rfl⟩))
  go_upto_region 13 with fail
  refine wp_region_lit ?_
  refine wpl_loadS rfl (.tmp 3) rfl rfl (heap_a1 w _ _) rfl ?_
  go_wp2_with fail
  ((with_reducible refine (tor_any _ s (s.y) (n - 1) S _ HS2.out HV.out r4 r3 c5 c3).mono ?_); rintro e w4 ⟨v4, rfl, hv4, b4⟩)
  have hb4 : Below (w.heap.size + 1 + 1) _ w4 := (by rw [← H2.out.2]; exact b4)
  obtain ⟨e0, e1⟩ := two_keptB hb4
  have z4 := b4.size
  rw [H2.out.2] at z4
  obtain ⟨uc, ut, uo, up, ui, uu, rfl, hs4⟩ := hv4
  rename_i K hK
  refine hK _ _ ?_
  refine wpl_storeS rfl (.tmp 6) (.tmp 68) rfl rfl rfl e1 rfl rfl hs4.one ?_
  go_wp2
  refine scEndV (w.heap.size + 1) 6 Tryz.results76 rfl rfl e1 (by omega) (H2.out.1.trans (hb4.mono (by omega))) HSS.out hs4 (fun x hx => ?_)
  rcases hx with h | h
  ·exact .inl h
  ·have := h.1
   rw [H2.out.2] at this
   exact .inr ⟨by omega, h.2⟩
theorem seqr_100 (v vl : Value) (s : Sc) (l : List Int) (b : Int) (r c : Nat) (S T : Nat → Prop) (w : World) (hS : ∀ x, S x → x < w.heap.size) (hT : ∀ x, T x → x < w.heap.size) (h : SCV w S v s) (hi : ScIn s r c) (hl : SL vI w T vl l) (hl2 : l.length ≤ 1048576) (n m k : Int) (hn : paramL l 0 1 = n) (hm : paramL l 1 1 = m) (hk : paramL l 0 0 = k) (n1 : 1 ≤ n) (n2 : n ≤ 65535) (m1 : 1 ≤ m) (m2 : m ≤ 65535) (k0 : 0 ≤ k) (k9 : k ≤ 65535) (hb : b = 100) : Calls Tryz.prog 76 #[v, .int .u8 b, vl] w (ScPost S (toS s (n - 1) (s.x)) w) := by
 have HSS := Lh hS
 clear hS
 obtain ⟨vc, vt, vo, vp, vi, vu, rfl, hs⟩ := h
 have HS := Lh hs
 obtain ⟨A1, kk1, A2, k2, A3, k3, A4, k4, A5, k5, A6, k6, rfl, rfl, rfl, rfl, rfl, rfl, p1, q1, p2, q2, p3, q3, p4, q4, p5, q5, p6, q6⟩ := sslSix hs
 have HI := Lh hi
 obtain ⟨y0, y1, x0, x1, hcl, hrl, c2, r2, hlen⟩ := dIn hi
 have c3 : s.cols ≤ 1000 := by omega
 have r3 : s.rows ≤ 1000 := by omega
 have r4 : 1 ≤ s.rows := by omega
 have c4 : s.x < s.cols := by omega
 have c5 : 1 ≤ s.cols := by omega
 have yr : s.y < s.rows := by omega
 have HN := Lh hn
 have HMM := Lh hm
 have HK := Lh hk
 obtain ⟨Al, kl, rfl, pl, ql⟩ := hl.form
 clear hi hcl hrl hn hm hk
 have h2 := two_new w (.cells (vA s A1 A2 A3 A4 A5 A6 kk1 k2 k3 k4 k5 k6) 30) (.cells zQ 30)
 have HS2 : Hid (∀ x, S x → x < _) := fun x hx => Nat.lt_of_lt_of_le (HSS.out x hx) h2.1.size
 have H2 := Lh h2
 have HL := Lh (hl.keep (fun q hq => h2.1.cell (hT _ hq)))
 have HV := Lh (show SCV _ S (.agg (vA s A1 A2 A3 A4 A5 A6 kk1 k2 k3 k4 k5 k6)) s from ⟨_, _, _, _, _, _, rfl, HS.out.below HSS.out h2.1⟩)
 clear hl hT
 clear h2
 subst hb
 go_enter Tryz.func76, Tryz.ntmps76
 go_upto_region 2 with (first | ((with_reducible refine (paramr_0 HL.out hl2 HN.out).mono ?_); rintro e w' ⟨rfl, rfl⟩) | ((with_reducible refine (paramr_1 HL.out hl2 HMM.out).mono ?_); rintro e w' ⟨rfl, rfl⟩) | ((with_reducible refine (paramr_0 HL.out hl2 HK.out).mono ?_); rintro e w' ⟨rfl, rfl⟩))
 go_upto_region 15 with fail
 refine wp_region_lit ?_
 refine wpl_loadS rfl (.tmp 3) rfl rfl (heap_a1 w _ _) rfl ?_
 go_wp2_with fail
 ((with_reducible refine (tor_any _ s (n - 1) (s.x) S _ HS2.out HV.out r4 r3 c5 c3).mono ?_); rintro e w4 ⟨v4, rfl, hv4, b4⟩)
 have hb4 : Below (w.heap.size + 1 + 1) _ w4 := (by rw [← H2.out.2]; exact b4)
 obtain ⟨e0, e1⟩ := two_keptB hb4
 have z4 := b4.size
 rw [H2.out.2] at z4
 obtain ⟨uc, ut, uo, up, ui, uu, rfl, hs4⟩ := hv4
 rename_i K hK
 refine hK _ _ ?_
 refine wpl_storeS rfl (.tmp 6) (.tmp 76) rfl rfl rfl e1 rfl rfl hs4.one ?_
 go_wp2
 refine scEndV (w.heap.size + 1) 6 Tryz.results76 rfl rfl e1 (by omega) (H2.out.1.trans (hb4.mono (by omega))) HSS.out hs4 (fun x hx => ?_)
 rcases hx with h | h
 ·exact .inl h
 ·have := h.1
  rw [H2.out.2] at this
  exact .inr ⟨by omega, h.2⟩
theorem seqr_72 (v vl : Value) (s : Sc) (l : List Int) (b : Int) (r c : Nat) (S T : Nat → Prop) (w : World) (hS : ∀ x, S x → x < w.heap.size) (hT : ∀ x, T x → x < w.heap.size) (h : SCV w S v s) (hi : ScIn s r c) (hl : SL vI w T vl l) (hl2 : l.length ≤ 1048576) (n m k : Int) (hn : paramL l 0 1 = n) (hm : paramL l 1 1 = m) (hk : paramL l 0 0 = k) (n1 : 1 ≤ n) (n2 : n ≤ 65535) (m1 : 1 ≤ m) (m2 : m ≤ 65535) (k0 : 0 ≤ k) (k9 : k ≤ 65535) (hb : b = 72 ∨ b = 102) : Calls Tryz.prog 76 #[v, .int .u8 b, vl] w (ScPost S (toS s (n - 1) (m - 1)) w) := by
 have HSS := Lh hS
 clear hS
 obtain ⟨vc, vt, vo, vp, vi, vu, rfl, hs⟩ := h
 have HS := Lh hs
 obtain ⟨A1, kk1, A2, k2, A3, k3, A4, k4, A5, k5, A6, k6, rfl, rfl, rfl, rfl, rfl, rfl, p1, q1, p2, q2, p3, q3, p4, q4, p5, q5, p6, q6⟩ := sslSix hs
 have HI := Lh hi
 obtain ⟨y0, y1, x0, x1, hcl, hrl, c2, r2, hlen⟩ := dIn hi
 have c3 : s.cols ≤ 1000 := by omega
 have r3 : s.rows ≤ 1000 := by omega
 have r4 : 1 ≤ s.rows := by omega
 have c4 : s.x < s.cols := by omega
 have c5 : 1 ≤ s.cols := by omega
 have yr : s.y < s.rows := by omega
 have HN := Lh hn
 have HMM := Lh hm
 have HK := Lh hk
 obtain ⟨Al, kl, rfl, pl, ql⟩ := hl.form
 clear hi hcl hrl hn hm hk
 have h2 := two_new w (.cells (vA s A1 A2 A3 A4 A5 A6 kk1 k2 k3 k4 k5 k6) 30) (.cells zQ 30)
 have HS2 : Hid (∀ x, S x → x < _) := fun x hx => Nat.lt_of_lt_of_le (HSS.out x hx) h2.1.size
 have H2 := Lh h2
 have HL := Lh (hl.keep (fun q hq => h2.1.cell (hT _ hq)))
 have HV := Lh (show SCV _ S (.agg (vA s A1 A2 A3 A4 A5 A6 kk1 k2 k3 k4 k5 k6)) s from ⟨_, _, _, _, _, _, rfl, HS.out.below HSS.out h2.1⟩)
 clear hl hT
 clear h2
 rcases hb with rfl | rfl
 all_goals
  go_enter Tryz.func76, Tryz.ntmps76
  go_upto_region 2 with (first | ((with_reducible refine (paramr_0 HL.out hl2 HN.out).mono ?_); rintro e w' ⟨rfl, rfl⟩) | ((with_reducible refine (paramr_1 HL.out hl2 HMM.out).mono ?_); rintro e w' ⟨rfl, rfl⟩) | ((with_reducible refine (paramr_0 HL.out hl2 HK.out).mono ?_); rintro e w' ⟨rfl, rfl⟩))
  go_upto_region 18 with fail
  refine wp_region_lit ?_
  refine wpl_loadS rfl (.tmp 3) rfl rfl (heap_a1 w _ _) rfl ?_
  go_wp2_with fail
  ((with_reducible refine (tor_any _ s (n - 1) (m - 1) S _ HS2.out HV.out r4 r3 c5 c3).mono ?_); rintro e w4 ⟨v4, rfl, hv4, b4⟩)
  have hb4 : Below (w.heap.size + 1 + 1) _ w4 := (by rw [← H2.out.2]; exact b4)
  obtain ⟨e0, e1⟩ := two_keptB hb4
  have z4 := b4.size
  rw [H2.out.2] at z4
  obtain ⟨uc, ut, uo, up, ui, uu, rfl, hs4⟩ := hv4
  rename_i K hK
  refine hK _ _ ?_
  refine wpl_storeS rfl (.tmp 6) (.tmp 85) rfl rfl rfl e1 rfl rfl hs4.one ?_
  go_wp2
  refine scEndV (w.heap.size + 1) 6 Tryz.results76 rfl rfl e1 (by omega) (H2.out.1.trans (hb4.mono (by omega))) HSS.out hs4 (fun x hx => ?_)
  rcases hx with h | h
  ·exact .inl h
  ·have := h.1
   rw [H2.out.2] at this
   exact .inr ⟨by omega, h.2⟩
theorem seqr_74 (v vl : Value) (s : Sc) (l : List Int) (b : Int) (r c : Nat) (S T : Nat → Prop) (w : World) (hS : ∀ x, S x → x < w.heap.size) (hT : ∀ x, T x → x < w.heap.size) (h : SCV w S v s) (hi : ScIn s r c) (hl : SL vI w T vl l) (hl2 : l.length ≤ 1048576) (n m k : Int) (hn : paramL l 0 1 = n) (hm : paramL l 1 1 = m) (hk : paramL l 0 0 = k) (n1 : 1 ≤ n) (n2 : n ≤ 65535) (m1 : 1 ≤ m) (m2 : m ≤ 65535) (k0 : 0 ≤ k) (k9 : k ≤ 65535) (hb : b = 74) : Calls Tryz.prog 76 #[v, .int .u8 b, vl] w (ScPost S (eraseS s false k) w) := by
 have HSS := Lh hS
 clear hS
 obtain ⟨vc, vt, vo, vp, vi, vu, rfl, hs⟩ := h
 have HS := Lh hs
 obtain ⟨A1, kk1, A2, k2, A3, k3, A4, k4, A5, k5, A6, k6, rfl, rfl, rfl, rfl, rfl, rfl, p1, q1, p2, q2, p3, q3, p4, q4, p5, q5, p6, q6⟩ := sslSix hs
 have HI := Lh hi
 obtain ⟨y0, y1, x0, x1, hcl, hrl, c2, r2, hlen⟩ := dIn hi
 have c3 : s.cols ≤ 1000 := by omega
 have r3 : s.rows ≤ 1000 := by omega
 have r4 : 1 ≤ s.rows := by omega
 have c4 : s.x < s.cols := by omega
 have c5 : 1 ≤ s.cols := by omega
 have yr : s.y < s.rows := by omega
 have HN := Lh hn
 have HMM := Lh hm
 have HK := Lh hk
 obtain ⟨Al, kl, rfl, pl, ql⟩ := hl.form
 clear hi hcl hrl hn hm hk
 have h2 := two_new w (.cells (vA s A1 A2 A3 A4 A5 A6 kk1 k2 k3 k4 k5 k6) 30) (.cells zQ 30)
 have HS2 : Hid (∀ x, S x → x < _) := fun x hx => Nat.lt_of_lt_of_le (HSS.out x hx) h2.1.size
 have H2 := Lh h2
 have HL := Lh (hl.keep (fun q hq => h2.1.cell (hT _ hq)))
 have HV := Lh (show SCV _ S (.agg (vA s A1 A2 A3 A4 A5 A6 kk1 k2 k3 k4 k5 k6)) s from ⟨_, _, _, _, _, _, rfl, HS.out.below HSS.out h2.1⟩)
 clear hl hT
 clear h2
 subst hb
 go_enter Tryz.func76, Tryz.ntmps76
 go_upto_region 2 with (first | ((with_reducible refine (paramr_0 HL.out hl2 HN.out).mono ?_); rintro e w' ⟨rfl, rfl⟩) | ((with_reducible refine (paramr_1 HL.out hl2 HMM.out).mono ?_); rintro e w' ⟨rfl, rfl⟩) | ((with_reducible refine (paramr_0 HL.out hl2 HK.out).mono ?_); rintro e w' ⟨rfl, rfl⟩))
 go_upto_region 21 with fail
 refine wp_region_lit ?_
 refine wpl_loadS rfl (.tmp 3) rfl rfl (heap_a1 w _ _) rfl ?_
 go_wp2_with fail
 ((with_reducible refine (eraser_any _ s false k r c S _ HS2.out HV.out HI.out k0).mono ?_); rintro e w4 ⟨v4, rfl, hv4, b4⟩)
 have hb4 : Below (w.heap.size + 1 + 1) _ w4 := (by rw [← H2.out.2]; exact b4)
 obtain ⟨e0, e1⟩ := two_keptB hb4
 have z4 := b4.size
 rw [H2.out.2] at z4
 obtain ⟨uc, ut, uo, up, ui, uu, rfl, hs4⟩ := hv4
 rename_i K hK
 refine hK _ _ ?_
 refine wpl_storeS rfl (.tmp 6) (.tmp 93) rfl rfl rfl e1 rfl rfl hs4.one ?_
 go_wp2
 refine scEndV (w.heap.size + 1) 6 Tryz.results76 rfl rfl e1 (by omega) (H2.out.1.trans (hb4.mono (by omega))) HSS.out hs4 (fun x hx => ?_)
 rcases hx with h | h
 ·exact .inl h
 ·have := h.1
  rw [H2.out.2] at this
  exact .inr ⟨by omega, h.2⟩
theorem seqr_75 (v vl : Value) (s : Sc) (l : List Int) (b : Int) (r c : Nat) (S T : Nat → Prop) (w : World) (hS : ∀ x, S x → x < w.heap.size) (hT : ∀ x, T x → x < w.heap.size) (h : SCV w S v s) (hi : ScIn s r c) (hl : SL vI w T vl l) (hl2 : l.length ≤ 1048576) (n m k : Int) (hn : paramL l 0 1 = n) (hm : paramL l 1 1 = m) (hk : paramL l 0 0 = k) (n1 : 1 ≤ n) (n2 : n ≤ 65535) (m1 : 1 ≤ m) (m2 : m ≤ 65535) (k0 : 0 ≤ k) (k9 : k ≤ 65535) (hb : b = 75) : Calls Tryz.prog 76 #[v, .int .u8 b, vl] w (ScPost S (eraseS s true k) w) := by
 have HSS := Lh hS
 clear hS
 obtain ⟨vc, vt, vo, vp, vi, vu, rfl, hs⟩ := h
 have HS := Lh hs
 obtain ⟨A1, kk1, A2, k2, A3, k3, A4, k4, A5, k5, A6, k6, rfl, rfl, rfl, rfl, rfl, rfl, p1, q1, p2, q2, p3, q3, p4, q4, p5, q5, p6, q6⟩ := sslSix hs
 have HI := Lh hi
 obtain ⟨y0, y1, x0, x1, hcl, hrl, c2, r2, hlen⟩ := dIn hi
 have c3 : s.cols ≤ 1000 := by omega
 have r3 : s.rows ≤ 1000 := by omega
 have r4 : 1 ≤ s.rows := by omega
 have c4 : s.x < s.cols := by omega
 have c5 : 1 ≤ s.cols := by omega
 have yr : s.y < s.rows := by omega
 have HN := Lh hn
 have HMM := Lh hm
 have HK := Lh hk
 obtain ⟨Al, kl, rfl, pl, ql⟩ := hl.form
 clear hi hcl hrl hn hm hk
 have h2 := two_new w (.cells (vA s A1 A2 A3 A4 A5 A6 kk1 k2 k3 k4 k5 k6) 30) (.cells zQ 30)
 have HS2 : Hid (∀ x, S x → x < _) := fun x hx => Nat.lt_of_lt_of_le (HSS.out x hx) h2.1.size
 have H2 := Lh h2
 have HL := Lh (hl.keep (fun q hq => h2.1.cell (hT _ hq)))
 have HV := Lh (show SCV _ S (.agg (vA s A1 A2 A3 A4 A5 A6 kk1 k2 k3 k4 k5 k6)) s from ⟨_, _, _, _, _, _, rfl, HS.out.below HSS.out h2.1⟩)
 clear hl hT
 clear h2
 subst hb
 go_enter Tryz.func76, Tryz.ntmps76
 go_upto_region 2 with (first | ((with_reducible refine (paramr_0 HL.out hl2 HN.out).mono ?_); rintro e w' ⟨rfl, rfl⟩) | ((with_reducible refine (paramr_1 HL.out hl2 HMM.out).mono ?_); rintro e w' ⟨rfl, rfl⟩) | ((with_reducible refine (paramr_0 HL.out hl2 HK.out).mono ?_); rintro e w' ⟨rfl, rfl⟩))
 go_upto_region 21 with fail
 refine wp_region_lit ?_
 refine wpl_loadS rfl (.tmp 3) rfl rfl (heap_a1 w _ _) rfl ?_
 go_wp2_with fail
 ((with_reducible refine (eraser_any _ s true k r c S _ HS2.out HV.out HI.out k0).mono ?_); rintro e w4 ⟨v4, rfl, hv4, b4⟩)
 have hb4 : Below (w.heap.size + 1 + 1) _ w4 := (by rw [← H2.out.2]; exact b4)
 obtain ⟨e0, e1⟩ := two_keptB hb4
 have z4 := b4.size
 rw [H2.out.2] at z4
 obtain ⟨uc, ut, uo, up, ui, uu, rfl, hs4⟩ := hv4
 rename_i K hK
 refine hK _ _ ?_
 refine wpl_storeS rfl (.tmp 6) (.tmp 93) rfl rfl rfl e1 rfl rfl hs4.one ?_
 go_wp2
 refine scEndV (w.heap.size + 1) 6 Tryz.results76 rfl rfl e1 (by omega) (H2.out.1.trans (hb4.mono (by omega))) HSS.out hs4 (fun x hx => ?_)
 rcases hx with h | h
 ·exact .inl h
 ·have := h.1
  rw [H2.out.2] at this
  exact .inr ⟨by omega, h.2⟩
end Go.Proofs.YthepofkdgbcifaaGreat
