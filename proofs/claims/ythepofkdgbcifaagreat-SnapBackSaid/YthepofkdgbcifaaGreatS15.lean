/- What is proved here: parts of layer 10's proofs. -/
import Derived.Test.YthepofkdgbcifaaGreatS14
namespace Go.Proofs.YthepofkdgbcifaaGreat
open Go.RowKit
set_option linter.unusedVariables false
set_option linter.unusedSimpArgs false
set_option maxHeartbeats 2000000
set_option maxRecDepth 100000
theorem seqr_64 (v vl : Value) (s : Sc) (l : List Int) (b : Int) (r c : Nat) (S T : Nat → Prop) (w : World) (hS : ∀ x, S x → x < w.heap.size) (hT : ∀ x, T x → x < w.heap.size) (h : SCV w S v s) (hi : ScIn s r c) (hl : SL vI w T vl l) (hl2 : l.length ≤ 1048576) (n m k : Int) (hn : paramL l 0 1 = n) (hm : paramL l 1 1 = m) (hk : paramL l 0 0 = k) (n1 : 1 ≤ n) (n2 : n ≤ 65535) (m1 : 1 ≤ m) (m2 : m ≤ 65535) (k0 : 0 ≤ k) (k9 : k ≤ 65535) (hb : b = 64) : Calls Tryz.prog 76 #[v, .int .u8 b, vl] w (ScPost S { s with cells := insertL s.cells s.cols s.y s.x n, wrap := false } w) := by
 have HSS := Lh hS
 clear hS
 obtain ⟨vc, vt, vo, vp, vi, vu, rfl, hs⟩ := h
 have HS := Lh hs
 obtain ⟨A1, kk1, A2, k2, A3, k3, A4, k4, A5, k5, A6, k6, rfl, rfl, rfl, rfl, rfl, rfl, p1, q1, p2, q2, p3, q3, p4, q4, p5, q5, p6, q6⟩ := sslSix hs
 have HI := Lh hi
 obtain ⟨y0, y1, x0, x1, hcl, hrl, c2, r2, hlen⟩ := dIn hi
 have c3 : s.cols ≤ 1000 := by omega
 have r3 : s.rows ≤ 1000 := by omega
 have r4 : 1 ≤ s.rows := by omega
 have c4 : s.x < s.cols := by omega
 have c5 : 1 ≤ s.cols := by omega
 have yr : s.y < s.rows := by omega
 have HN := Lh hn
 have HMM := Lh hm
 have HK := Lh hk
 obtain ⟨Al, kl, rfl, pl, ql⟩ := hl.form
 clear hi hcl hrl hn hm hk
 have h2 := two_new w (.cells (vA s A1 A2 A3 A4 A5 A6 kk1 k2 k3 k4 k5 k6) 30) (.cells zQ 30)
 have HS2 : Hid (∀ x, S x → x < _) := fun x hx => Nat.lt_of_lt_of_le (HSS.out x hx) h2.1.size
 have H2 := Lh h2
 have HL := Lh (hl.keep (fun q hq => h2.1.cell (hT _ hq)))
 have HV := Lh (show SCV _ S (.agg (vA s A1 A2 A3 A4 A5 A6 kk1 k2 k3 k4 k5 k6)) s from ⟨_, _, _, _, _, _, rfl, HS.out.below HSS.out h2.1⟩)
 clear hl hT
 have HC := Lh (HS.out.1.cs' HSS.out h2.1 (Nat.le_refl _))
 clear h2
 subst hb
 go_enter Tryz.func76, Tryz.ntmps76
 go_upto_region 2 with (first | ((with_reducible refine (paramr_0 HL.out hl2 HN.out).mono ?_); rintro e w' ⟨rfl, rfl⟩) | ((with_reducible refine (paramr_1 HL.out hl2 HMM.out).mono ?_); rintro e w' ⟨rfl, rfl⟩) | ((with_reducible refine (paramr_0 HL.out hl2 HK.out).mono ?_); rintro e w' ⟨rfl, rfl⟩))
 go_upto_region 58 with fail
 ((with_reducible refine (Insert_any _ s.cells s.cols s.y s.x n _ HC.out (by omega)).mono ?_); rintro e w4 ⟨v4, rfl, o4, b4⟩; have hb4 : Below (w.heap.size + 1 + 1) _ w4 := (by rw [← H2.out.2]; exact b4); obtain ⟨e0, e1⟩ := two_keptB hb4; obtain ⟨cc2, ff2⟩ := cellR e0 2 rfl; obtain ⟨cc5, ff5⟩ := cellR e0 5 rfl; have K0 := Lh e0; have K1 := Lh e1; rw [H2.out.2] at o4; have O4 := Lh o4; have B4 := Lh (H2.out.1.trans (hb4.mono (by omega))); have Z4 := b4.size; rw [H2.out.2] at Z4; clear o4 b4 hb4 e0 e1)
 obtain ⟨A7, k7, rfl, p7, q7⟩ := O4.out.cs.form
 go_upto_region 58 with fail
 refine wp_region_lit ?_
 refine wpl_loadS rfl (.tmp 3) rfl rfl ((heap_setCell_same _ _ 5 _ _ _ ((heap_setCell_same _ _ 2 _ _ _ K0.out).trans rfl)).trans rfl) rfl ?_
 refine wpl_storeS rfl (.tmp 6) (.tmp 272) rfl rfl rfl ((heap_setCell_other _ _ _ _ (by simp)).trans ((heap_setCell_other _ _ _ _ (by simp)).trans K1.out)) rfl rfl all25 ?_
 go_wp2
 refine scEndC (w.heap.size + 1) 6 Tryz.results76 ?_ ?_ ((heap_setCell_other _ _ _ _ (by simp)).trans ((heap_setCell_other _ _ _ _ (by simp)).trans K1.out)) (by omega) ((B4.out.setCell (by simp) _).setCell (by simp) _) HSS.out HS.out ?_ ?_ ?_ (w.heap.size + 1 + 1) (by omega) O4.out (fun b hb => (heap_setCell_other _ _ _ _ (by simp; omega)).trans (heap_setCell_other _ _ _ _ (by simp; omega))) (by simp)
 all_goals rfl
theorem seqr_80 (v vl : Value) (s : Sc) (l : List Int) (b : Int) (r c : Nat) (S T : Nat → Prop) (w : World) (hS : ∀ x, S x → x < w.heap.size) (hT : ∀ x, T x → x < w.heap.size) (h : SCV w S v s) (hi : ScIn s r c) (hl : SL vI w T vl l) (hl2 : l.length ≤ 1048576) (n m k : Int) (hn : paramL l 0 1 = n) (hm : paramL l 1 1 = m) (hk : paramL l 0 0 = k) (n1 : 1 ≤ n) (n2 : n ≤ 65535) (m1 : 1 ≤ m) (m2 : m ≤ 65535) (k0 : 0 ≤ k) (k9 : k ≤ 65535) (hb : b = 80) : Calls Tryz.prog 76 #[v, .int .u8 b, vl] w (ScPost S { s with cells := deleteL s.cells s.cols s.y s.x n, wrap := false } w) := by
 have HSS := Lh hS
 clear hS
 obtain ⟨vc, vt, vo, vp, vi, vu, rfl, hs⟩ := h
 have HS := Lh hs
 obtain ⟨A1, kk1, A2, k2, A3, k3, A4, k4, A5, k5, A6, k6, rfl, rfl, rfl, rfl, rfl, rfl, p1, q1, p2, q2, p3, q3, p4, q4, p5, q5, p6, q6⟩ := sslSix hs
 have HI := Lh hi
 obtain ⟨y0, y1, x0, x1, hcl, hrl, c2, r2, hlen⟩ := dIn hi
 have c3 : s.cols ≤ 1000 := by omega
 have r3 : s.rows ≤ 1000 := by omega
 have r4 : 1 ≤ s.rows := by omega
 have c4 : s.x < s.cols := by omega
 have c5 : 1 ≤ s.cols := by omega
 have yr : s.y < s.rows := by omega
 have HN := Lh hn
 have HMM := Lh hm
 have HK := Lh hk
 obtain ⟨Al, kl, rfl, pl, ql⟩ := hl.form
 clear hi hcl hrl hn hm hk
 have h2 := two_new w (.cells (vA s A1 A2 A3 A4 A5 A6 kk1 k2 k3 k4 k5 k6) 30) (.cells zQ 30)
 have HS2 : Hid (∀ x, S x → x < _) := fun x hx => Nat.lt_of_lt_of_le (HSS.out x hx) h2.1.size
 have H2 := Lh h2
 have HL := Lh (hl.keep (fun q hq => h2.1.cell (hT _ hq)))
 have HV := Lh (show SCV _ S (.agg (vA s A1 A2 A3 A4 A5 A6 kk1 k2 k3 k4 k5 k6)) s from ⟨_, _, _, _, _, _, rfl, HS.out.below HSS.out h2.1⟩)
 clear hl hT
 have HC := Lh (HS.out.1.cs' HSS.out h2.1 (Nat.le_refl _))
 clear h2
 subst hb
 go_enter Tryz.func76, Tryz.ntmps76
 go_upto_region 2 with (first | ((with_reducible refine (paramr_0 HL.out hl2 HN.out).mono ?_); rintro e w' ⟨rfl, rfl⟩) | ((with_reducible refine (paramr_1 HL.out hl2 HMM.out).mono ?_); rintro e w' ⟨rfl, rfl⟩) | ((with_reducible refine (paramr_0 HL.out hl2 HK.out).mono ?_); rintro e w' ⟨rfl, rfl⟩))
 go_upto_region 58 with fail
 ((with_reducible refine (Delete_any _ s.cells s.cols s.y s.x n _ HC.out (by omega)).mono ?_); rintro e w4 ⟨v4, rfl, o4, b4⟩; have hb4 : Below (w.heap.size + 1 + 1) _ w4 := (by rw [← H2.out.2]; exact b4); obtain ⟨e0, e1⟩ := two_keptB hb4; obtain ⟨cc2, ff2⟩ := cellR e0 2 rfl; obtain ⟨cc5, ff5⟩ := cellR e0 5 rfl; have K0 := Lh e0; have K1 := Lh e1; rw [H2.out.2] at o4; have O4 := Lh o4; have B4 := Lh (H2.out.1.trans (hb4.mono (by omega))); have Z4 := b4.size; rw [H2.out.2] at Z4; clear o4 b4 hb4 e0 e1)
 obtain ⟨A7, k7, rfl, p7, q7⟩ := O4.out.cs.form
 go_upto_region 58 with fail
 refine wp_region_lit ?_
 refine wpl_loadS rfl (.tmp 3) rfl rfl ((heap_setCell_same _ _ 5 _ _ _ ((heap_setCell_same _ _ 2 _ _ _ K0.out).trans rfl)).trans rfl) rfl ?_
 refine wpl_storeS rfl (.tmp 6) (.tmp 272) rfl rfl rfl ((heap_setCell_other _ _ _ _ (by simp)).trans ((heap_setCell_other _ _ _ _ (by simp)).trans K1.out)) rfl rfl all25 ?_
 go_wp2
 refine scEndC (w.heap.size + 1) 6 Tryz.results76 ?_ ?_ ((heap_setCell_other _ _ _ _ (by simp)).trans ((heap_setCell_other _ _ _ _ (by simp)).trans K1.out)) (by omega) ((B4.out.setCell (by simp) _).setCell (by simp) _) HSS.out HS.out ?_ ?_ ?_ (w.heap.size + 1 + 1) (by omega) O4.out (fun b hb => (heap_setCell_other _ _ _ _ (by simp; omega)).trans (heap_setCell_other _ _ _ _ (by simp; omega))) (by simp)
 all_goals rfl
theorem seqr_88 (v vl : Value) (s : Sc) (l : List Int) (b : Int) (r c : Nat) (S T : Nat → Prop) (w : World) (hS : ∀ x, S x → x < w.heap.size) (hT : ∀ x, T x → x < w.heap.size) (h : SCV w S v s) (hi : ScIn s r c) (hl : SL vI w T vl l) (hl2 : l.length ≤ 1048576) (n m k : Int) (hn : paramL l 0 1 = n) (hm : paramL l 1 1 = m) (hk : paramL l 0 0 = k) (n1 : 1 ≤ n) (n2 : n ≤ 65535) (m1 : 1 ≤ m) (m2 : m ≤ 65535) (k0 : 0 ≤ k) (k9 : k ≤ 65535) (hb : b = 88) : Calls Tryz.prog 76 #[v, .int .u8 b, vl] w (ScPost S { s with cells := eraseL s.cells s.cols s.y s.x (s.x + n), wrap := false } w) := by
 have HSS := Lh hS
 clear hS
 obtain ⟨vc, vt, vo, vp, vi, vu, rfl, hs⟩ := h
 have HS := Lh hs
 obtain ⟨A1, kk1, A2, k2, A3, k3, A4, k4, A5, k5, A6, k6, rfl, rfl, rfl, rfl, rfl, rfl, p1, q1, p2, q2, p3, q3, p4, q4, p5, q5, p6, q6⟩ := sslSix hs
 have HI := Lh hi
 obtain ⟨y0, y1, x0, x1, hcl, hrl, c2, r2, hlen⟩ := dIn hi
 have c3 : s.cols ≤ 1000 := by omega
 have r3 : s.rows ≤ 1000 := by omega
 have r4 : 1 ≤ s.rows := by omega
 have c4 : s.x < s.cols := by omega
 have c5 : 1 ≤ s.cols := by omega
 have yr : s.y < s.rows := by omega
 have HN := Lh hn
 have HMM := Lh hm
 have HK := Lh hk
 obtain ⟨Al, kl, rfl, pl, ql⟩ := hl.form
 clear hi hcl hrl hn hm hk
 have h2 := two_new w (.cells (vA s A1 A2 A3 A4 A5 A6 kk1 k2 k3 k4 k5 k6) 30) (.cells zQ 30)
 have HS2 : Hid (∀ x, S x → x < _) := fun x hx => Nat.lt_of_lt_of_le (HSS.out x hx) h2.1.size
 have H2 := Lh h2
 have HL := Lh (hl.keep (fun q hq => h2.1.cell (hT _ hq)))
 have HV := Lh (show SCV _ S (.agg (vA s A1 A2 A3 A4 A5 A6 kk1 k2 k3 k4 k5 k6)) s from ⟨_, _, _, _, _, _, rfl, HS.out.below HSS.out h2.1⟩)
 clear hl hT
 have HC := Lh (HS.out.1.cs' HSS.out h2.1 (Nat.le_refl _))
 clear h2
 subst hb
 go_enter Tryz.func76, Tryz.ntmps76
 go_upto_region 2 with (first | ((with_reducible refine (paramr_0 HL.out hl2 HN.out).mono ?_); rintro e w' ⟨rfl, rfl⟩) | ((with_reducible refine (paramr_1 HL.out hl2 HMM.out).mono ?_); rintro e w' ⟨rfl, rfl⟩) | ((with_reducible refine (paramr_0 HL.out hl2 HK.out).mono ?_); rintro e w' ⟨rfl, rfl⟩))
 go_upto_region 58 with fail
 ((with_reducible refine (Erase_any _ s.cells s.cols s.y s.x (s.x + n) _ HC.out (by omega)).mono ?_); rintro e w4 ⟨v4, rfl, o4, b4⟩; have hb4 : Below (w.heap.size + 1 + 1) _ w4 := (by rw [← H2.out.2]; exact b4); obtain ⟨e0, e1⟩ := two_keptB hb4; obtain ⟨cc2, ff2⟩ := cellR e0 2 rfl; obtain ⟨cc5, ff5⟩ := cellR e0 5 rfl; have K0 := Lh e0; have K1 := Lh e1; rw [H2.out.2] at o4; have O4 := Lh o4; have B4 := Lh (H2.out.1.trans (hb4.mono (by omega))); have Z4 := b4.size; rw [H2.out.2] at Z4; clear o4 b4 hb4 e0 e1)
 obtain ⟨A7, k7, rfl, p7, q7⟩ := O4.out.cs.form
 go_upto_region 58 with fail
 refine wp_region_lit ?_
 refine wpl_loadS rfl (.tmp 3) rfl rfl ((heap_setCell_same _ _ 5 _ _ _ ((heap_setCell_same _ _ 2 _ _ _ K0.out).trans rfl)).trans rfl) rfl ?_
 refine wpl_storeS rfl (.tmp 6) (.tmp 272) rfl rfl rfl ((heap_setCell_other _ _ _ _ (by simp)).trans ((heap_setCell_other _ _ _ _ (by simp)).trans K1.out)) rfl rfl all25 ?_
 go_wp2
 refine scEndC (w.heap.size + 1) 6 Tryz.results76 ?_ ?_ ((heap_setCell_other _ _ _ _ (by simp)).trans ((heap_setCell_other _ _ _ _ (by simp)).trans K1.out)) (by omega) ((B4.out.setCell (by simp) _).setCell (by simp) _) HSS.out HS.out ?_ ?_ ?_ (w.heap.size + 1 + 1) (by omega) O4.out (fun b hb => (heap_setCell_other _ _ _ _ (by simp; omega)).trans (heap_setCell_other _ _ _ _ (by simp; omega))) (by simp)
 all_goals rfl
theorem seqr_83 (v vl : Value) (s : Sc) (l : List Int) (b : Int) (r c : Nat) (S T : Nat → Prop) (w : World) (hS : ∀ x, S x → x < w.heap.size) (hT : ∀ x, T x → x < w.heap.size) (h : SCV w S v s) (hi : ScIn s r c) (hl : SL vI w T vl l) (hl2 : l.length ≤ 1048576) (n m k : Int) (hn : paramL l 0 1 = n) (hm : paramL l 1 1 = m) (hk : paramL l 0 0 = k) (n1 : 1 ≤ n) (n2 : n ≤ 65535) (m1 : 1 ≤ m) (m2 : m ≤ 65535) (k0 : 0 ≤ k) (k9 : k ≤ 65535) (hb : b = 83) : Calls Tryz.prog 76 #[v, .int .u8 b, vl] w (ScPost S { s with cells := upL s.cells s.cols s.top s.bottom n, wrap := false } w) := by
 have HSS := Lh hS
 clear hS
 obtain ⟨vc, vt, vo, vp, vi, vu, rfl, hs⟩ := h
 have HS := Lh hs
 obtain ⟨A1, kk1, A2, k2, A3, k3, A4, k4, A5, k5, A6, k6, rfl, rfl, rfl, rfl, rfl, rfl, p1, q1, p2, q2, p3, q3, p4, q4, p5, q5, p6, q6⟩ := sslSix hs
 have HI := Lh hi
 obtain ⟨y0, y1, x0, x1, hcl, hrl, c2, r2, hlen⟩ := dIn hi
 have c3 : s.cols ≤ 1000 := by omega
 have r3 : s.rows ≤ 1000 := by omega
 have r4 : 1 ≤ s.rows := by omega
 have c4 : s.x < s.cols := by omega
 have c5 : 1 ≤ s.cols := by omega
 have yr : s.y < s.rows := by omega
 have HN := Lh hn
 have HMM := Lh hm
 have HK := Lh hk
 obtain ⟨Al, kl, rfl, pl, ql⟩ := hl.form
 clear hi hcl hrl hn hm hk
 have h2 := two_new w (.cells (vA s A1 A2 A3 A4 A5 A6 kk1 k2 k3 k4 k5 k6) 30) (.cells zQ 30)
 have HS2 : Hid (∀ x, S x → x < _) := fun x hx => Nat.lt_of_lt_of_le (HSS.out x hx) h2.1.size
 have H2 := Lh h2
 have HL := Lh (hl.keep (fun q hq => h2.1.cell (hT _ hq)))
 have HV := Lh (show SCV _ S (.agg (vA s A1 A2 A3 A4 A5 A6 kk1 k2 k3 k4 k5 k6)) s from ⟨_, _, _, _, _, _, rfl, HS.out.below HSS.out h2.1⟩)
 clear hl hT
 have HC := Lh (HS.out.1.cs' HSS.out h2.1 (Nat.le_refl _))
 clear h2
 subst hb
 go_enter Tryz.func76, Tryz.ntmps76
 go_upto_region 2 with (first | ((with_reducible refine (paramr_0 HL.out hl2 HN.out).mono ?_); rintro e w' ⟨rfl, rfl⟩) | ((with_reducible refine (paramr_1 HL.out hl2 HMM.out).mono ?_); rintro e w' ⟨rfl, rfl⟩) | ((with_reducible refine (paramr_0 HL.out hl2 HK.out).mono ?_); rintro e w' ⟨rfl, rfl⟩))
 go_upto_region 58 with fail
 ((with_reducible refine (Up_any _ s.cells s.cols s.top s.bottom n _ HC.out (by omega)).mono ?_); rintro e w4 ⟨v4, rfl, o4, b4⟩; have hb4 : Below (w.heap.size + 1 + 1) _ w4 := (by rw [← H2.out.2]; exact b4); obtain ⟨e0, e1⟩ := two_keptB hb4; obtain ⟨cc2, ff2⟩ := cellR e0 2 rfl; obtain ⟨cc5, ff5⟩ := cellR e0 5 rfl; have K0 := Lh e0; have K1 := Lh e1; rw [H2.out.2] at o4; have O4 := Lh o4; have B4 := Lh (H2.out.1.trans (hb4.mono (by omega))); have Z4 := b4.size; rw [H2.out.2] at Z4; clear o4 b4 hb4 e0 e1)
 obtain ⟨A7, k7, rfl, p7, q7⟩ := O4.out.cs.form
 go_upto_region 58 with fail
 refine wp_region_lit ?_
 refine wpl_loadS rfl (.tmp 3) rfl rfl ((heap_setCell_same _ _ 5 _ _ _ ((heap_setCell_same _ _ 2 _ _ _ K0.out).trans rfl)).trans rfl) rfl ?_
 refine wpl_storeS rfl (.tmp 6) (.tmp 272) rfl rfl rfl ((heap_setCell_other _ _ _ _ (by simp)).trans ((heap_setCell_other _ _ _ _ (by simp)).trans K1.out)) rfl rfl all25 ?_
 go_wp2
 refine scEndC (w.heap.size + 1) 6 Tryz.results76 ?_ ?_ ((heap_setCell_other _ _ _ _ (by simp)).trans ((heap_setCell_other _ _ _ _ (by simp)).trans K1.out)) (by omega) ((B4.out.setCell (by simp) _).setCell (by simp) _) HSS.out HS.out ?_ ?_ ?_ (w.heap.size + 1 + 1) (by omega) O4.out (fun b hb => (heap_setCell_other _ _ _ _ (by simp; omega)).trans (heap_setCell_other _ _ _ _ (by simp; omega))) (by simp)
 all_goals rfl
theorem seqr_84 (v vl : Value) (s : Sc) (l : List Int) (b : Int) (r c : Nat) (S T : Nat → Prop) (w : World) (hS : ∀ x, S x → x < w.heap.size) (hT : ∀ x, T x → x < w.heap.size) (h : SCV w S v s) (hi : ScIn s r c) (hl : SL vI w T vl l) (hl2 : l.length ≤ 1048576) (n m k : Int) (hn : paramL l 0 1 = n) (hm : paramL l 1 1 = m) (hk : paramL l 0 0 = k) (n1 : 1 ≤ n) (n2 : n ≤ 65535) (m1 : 1 ≤ m) (m2 : m ≤ 65535) (k0 : 0 ≤ k) (k9 : k ≤ 65535) (hb : b = 84) : Calls Tryz.prog 76 #[v, .int .u8 b, vl] w (ScPost S { s with cells := downL s.cells s.cols s.top s.bottom n, wrap := false } w) := by
 have HSS := Lh hS
 clear hS
 obtain ⟨vc, vt, vo, vp, vi, vu, rfl, hs⟩ := h
 have HS := Lh hs
 obtain ⟨A1, kk1, A2, k2, A3, k3, A4, k4, A5, k5, A6, k6, rfl, rfl, rfl, rfl, rfl, rfl, p1, q1, p2, q2, p3, q3, p4, q4, p5, q5, p6, q6⟩ := sslSix hs
 have HI := Lh hi
 obtain ⟨y0, y1, x0, x1, hcl, hrl, c2, r2, hlen⟩ := dIn hi
 have c3 : s.cols ≤ 1000 := by omega
 have r3 : s.rows ≤ 1000 := by omega
 have r4 : 1 ≤ s.rows := by omega
 have c4 : s.x < s.cols := by omega
 have c5 : 1 ≤ s.cols := by omega
 have yr : s.y < s.rows := by omega
 have HN := Lh hn
 have HMM := Lh hm
 have HK := Lh hk
 obtain ⟨Al, kl, rfl, pl, ql⟩ := hl.form
 clear hi hcl hrl hn hm hk
 have h2 := two_new w (.cells (vA s A1 A2 A3 A4 A5 A6 kk1 k2 k3 k4 k5 k6) 30) (.cells zQ 30)
 have HS2 : Hid (∀ x, S x → x < _) := fun x hx => Nat.lt_of_lt_of_le (HSS.out x hx) h2.1.size
 have H2 := Lh h2
 have HL := Lh (hl.keep (fun q hq => h2.1.cell (hT _ hq)))
 have HV := Lh (show SCV _ S (.agg (vA s A1 A2 A3 A4 A5 A6 kk1 k2 k3 k4 k5 k6)) s from ⟨_, _, _, _, _, _, rfl, HS.out.below HSS.out h2.1⟩)
 clear hl hT
 have HC := Lh (HS.out.1.cs' HSS.out h2.1 (Nat.le_refl _))
 clear h2
 subst hb
 go_enter Tryz.func76, Tryz.ntmps76
 go_upto_region 2 with (first | ((with_reducible refine (paramr_0 HL.out hl2 HN.out).mono ?_); rintro e w' ⟨rfl, rfl⟩) | ((with_reducible refine (paramr_1 HL.out hl2 HMM.out).mono ?_); rintro e w' ⟨rfl, rfl⟩) | ((with_reducible refine (paramr_0 HL.out hl2 HK.out).mono ?_); rintro e w' ⟨rfl, rfl⟩))
 go_upto_region 58 with fail
 ((with_reducible refine (Down_any _ s.cells s.cols s.top s.bottom n _ HC.out (by omega)).mono ?_); rintro e w4 ⟨v4, rfl, o4, b4⟩; have hb4 : Below (w.heap.size + 1 + 1) _ w4 := (by rw [← H2.out.2]; exact b4); obtain ⟨e0, e1⟩ := two_keptB hb4; obtain ⟨cc2, ff2⟩ := cellR e0 2 rfl; obtain ⟨cc5, ff5⟩ := cellR e0 5 rfl; have K0 := Lh e0; have K1 := Lh e1; rw [H2.out.2] at o4; have O4 := Lh o4; have B4 := Lh (H2.out.1.trans (hb4.mono (by omega))); have Z4 := b4.size; rw [H2.out.2] at Z4; clear o4 b4 hb4 e0 e1)
 obtain ⟨A7, k7, rfl, p7, q7⟩ := O4.out.cs.form
 go_upto_region 58 with fail
 refine wp_region_lit ?_
 refine wpl_loadS rfl (.tmp 3) rfl rfl ((heap_setCell_same _ _ 5 _ _ _ ((heap_setCell_same _ _ 2 _ _ _ K0.out).trans rfl)).trans rfl) rfl ?_
 refine wpl_storeS rfl (.tmp 6) (.tmp 272) rfl rfl rfl ((heap_setCell_other _ _ _ _ (by simp)).trans ((heap_setCell_other _ _ _ _ (by simp)).trans K1.out)) rfl rfl all25 ?_
 go_wp2
 refine scEndC (w.heap.size + 1) 6 Tryz.results76 ?_ ?_ ((heap_setCell_other _ _ _ _ (by simp)).trans ((heap_setCell_other _ _ _ _ (by simp)).trans K1.out)) (by omega) ((B4.out.setCell (by simp) _).setCell (by simp) _) HSS.out HS.out ?_ ?_ ?_ (w.heap.size + 1 + 1) (by omega) O4.out (fun b hb => (heap_setCell_other _ _ _ _ (by simp; omega)).trans (heap_setCell_other _ _ _ _ (by simp; omega))) (by simp)
 all_goals rfl
theorem seqr_76 (v vl : Value) (s : Sc) (l : List Int) (b : Int) (r c : Nat) (S T : Nat → Prop) (w : World) (hS : ∀ x, S x → x < w.heap.size) (hT : ∀ x, T x → x < w.heap.size) (h : SCV w S v s) (hi : ScIn s r c) (hl : SL vI w T vl l) (hl2 : l.length ≤ 1048576) (n m k : Int) (hn : paramL l 0 1 = n) (hm : paramL l 1 1 = m) (hk : paramL l 0 0 = k) (n1 : 1 ≤ n) (n2 : n ≤ 65535) (m1 : 1 ≤ m) (m2 : m ≤ 65535) (k0 : 0 ≤ k) (k9 : k ≤ 65535) (hb : b = 76) (hy1 : s.top ≤ s.y) (hy2 : s.y ≤ s.bottom) : Calls Tryz.prog 76 #[v, .int .u8 b, vl] w (ScPost S { s with wrap := false, x := 0, cells := downL s.cells s.cols s.y s.bottom n } w) := by
 have HSS := Lh hS
 clear hS
 obtain ⟨vc, vt, vo, vp, vi, vu, rfl, hs⟩ := h
 have HS := Lh hs
 obtain ⟨A1, kk1, A2, k2, A3, k3, A4, k4, A5, k5, A6, k6, rfl, rfl, rfl, rfl, rfl, rfl, p1, q1, p2, q2, p3, q3, p4, q4, p5, q5, p6, q6⟩ := sslSix hs
 have HI := Lh hi
 obtain ⟨y0, y1, x0, x1, hcl, hrl, c2, r2, hlen⟩ := dIn hi
 have c3 : s.cols ≤ 1000 := by omega
 have r3 : s.rows ≤ 1000 := by omega
 have r4 : 1 ≤ s.rows := by omega
 have c4 : s.x < s.cols := by omega
 have c5 : 1 ≤ s.cols := by omega
 have yr : s.y < s.rows := by omega
 have HN := Lh hn
 have HMM := Lh hm
 have HK := Lh hk
 obtain ⟨Al, kl, rfl, pl, ql⟩ := hl.form
 clear hi hcl hrl hn hm hk
 have h2 := two_new w (.cells (vA s A1 A2 A3 A4 A5 A6 kk1 k2 k3 k4 k5 k6) 30) (.cells zQ 30)
 have HS2 : Hid (∀ x, S x → x < _) := fun x hx => Nat.lt_of_lt_of_le (HSS.out x hx) h2.1.size
 have H2 := Lh h2
 have h3 := two_new w (.cells #[.int .i64 s.rows, .int .i64 s.cols, .slice A1 s.cells.length kk1, .int .i64 s.y, .int .i64 0, .bool false, .int .u16 (s.attr : Int), .int .i64 s.top, .int .i64 s.bottom, .slice A2 s.tabs.length k2, .int .i64 s.sy, .int .i64 s.sx, .int .u16 (s.sattr : Int), .bool s.auto, .bool s.shown, .bool s.alt, .slice A3 s.other.length k3, .int .i64 s.oy, .int .i64 s.ox, .int .i64 (s.p.mode : Int), .int .u8 (s.p.priv : Int), .slice A4 s.p.params.length k4, .slice A5 s.p.inter.length k5, .slice A6 s.p.utf.length k6] 30) (.cells zQ 30)
 have HL := Lh (hl.keep (fun q hq => h2.1.cell (hT _ hq)))
 have HV := Lh (show SCV _ S (.agg (vA s A1 A2 A3 A4 A5 A6 kk1 k2 k3 k4 k5 k6)) s from ⟨_, _, _, _, _, _, rfl, HS.out.below HSS.out h2.1⟩)
 clear hl hT
 have HC := Lh (HS.out.1.cs' HSS.out h3.1 (Nat.le_refl _))
 clear H2
 have H2 := Lh h3
 clear h2 h3
 subst hb
 go_enter Tryz.func76, Tryz.ntmps76
 go_upto_region 2 with (first | ((with_reducible refine (paramr_0 HL.out hl2 HN.out).mono ?_); rintro e w' ⟨rfl, rfl⟩) | ((with_reducible refine (paramr_1 HL.out hl2 HMM.out).mono ?_); rintro e w' ⟨rfl, rfl⟩) | ((with_reducible refine (paramr_0 HL.out hl2 HK.out).mono ?_); rintro e w' ⟨rfl, rfl⟩))
 go_upto_region 58 with fail
 ((with_reducible refine (Down_any _ s.cells s.cols s.y s.bottom n _ HC.out (by omega)).mono ?_); rintro e w4 ⟨v4, rfl, o4, b4⟩; have hb4 : Below (w.heap.size + 1 + 1) _ w4 := (by rw [← H2.out.2]; exact b4); obtain ⟨e0, e1⟩ := two_keptB hb4; obtain ⟨cc2, ff2⟩ := cellR e0 2 rfl; have K0 := Lh e0; have K1 := Lh e1; rw [H2.out.2] at o4; have O4 := Lh o4; have B4 := Lh (H2.out.1.trans (hb4.mono (by omega))); have Z4 := b4.size; rw [H2.out.2] at Z4; clear o4 b4 hb4 e0 e1)
 obtain ⟨A7, k7, rfl, p7, q7⟩ := O4.out.cs.form
 go_upto_region 58 with fail
 refine wp_region_lit ?_
 refine wpl_loadS rfl (.tmp 3) rfl rfl ((heap_setCell_same _ _ 2 _ _ _ K0.out).trans rfl) rfl ?_
 refine wpl_storeS rfl (.tmp 6) (.tmp 272) rfl rfl rfl ((heap_setCell_other _ _ _ _ (by simp)).trans K1.out) rfl rfl all25 ?_
 go_wp2
 refine scEndC (w.heap.size + 1) 6 Tryz.results76 ?_ ?_ ((heap_setCell_other _ _ _ _ (by simp)).trans K1.out) (by omega) (B4.out.setCell (by simp) _) HSS.out HS.out ?_ ?_ ?_ (w.heap.size + 1 + 1) (by omega) O4.out (fun b hb => heap_setCell_other _ _ _ _ (by simp; omega)) (by simp)
 all_goals rfl
theorem seqr_77 (v vl : Value) (s : Sc) (l : List Int) (b : Int) (r c : Nat) (S T : Nat → Prop) (w : World) (hS : ∀ x, S x → x < w.heap.size) (hT : ∀ x, T x → x < w.heap.size) (h : SCV w S v s) (hi : ScIn s r c) (hl : SL vI w T vl l) (hl2 : l.length ≤ 1048576) (n m k : Int) (hn : paramL l 0 1 = n) (hm : paramL l 1 1 = m) (hk : paramL l 0 0 = k) (n1 : 1 ≤ n) (n2 : n ≤ 65535) (m1 : 1 ≤ m) (m2 : m ≤ 65535) (k0 : 0 ≤ k) (k9 : k ≤ 65535) (hb : b = 77) (hy1 : s.top ≤ s.y) (hy2 : s.y ≤ s.bottom) : Calls Tryz.prog 76 #[v, .int .u8 b, vl] w (ScPost S { s with wrap := false, x := 0, cells := upL s.cells s.cols s.y s.bottom n } w) := by
 have HSS := Lh hS
 clear hS
 obtain ⟨vc, vt, vo, vp, vi, vu, rfl, hs⟩ := h
 have HS := Lh hs
 obtain ⟨A1, kk1, A2, k2, A3, k3, A4, k4, A5, k5, A6, k6, rfl, rfl, rfl, rfl, rfl, rfl, p1, q1, p2, q2, p3, q3, p4, q4, p5, q5, p6, q6⟩ := sslSix hs
 have HI := Lh hi
 obtain ⟨y0, y1, x0, x1, hcl, hrl, c2, r2, hlen⟩ := dIn hi
 have c3 : s.cols ≤ 1000 := by omega
 have r3 : s.rows ≤ 1000 := by omega
 have r4 : 1 ≤ s.rows := by omega
 have c4 : s.x < s.cols := by omega
 have c5 : 1 ≤ s.cols := by omega
 have yr : s.y < s.rows := by omega
 have HN := Lh hn
 have HMM := Lh hm
 have HK := Lh hk
 obtain ⟨Al, kl, rfl, pl, ql⟩ := hl.form
 clear hi hcl hrl hn hm hk
 have h2 := two_new w (.cells (vA s A1 A2 A3 A4 A5 A6 kk1 k2 k3 k4 k5 k6) 30) (.cells zQ 30)
 have HS2 : Hid (∀ x, S x → x < _) := fun x hx => Nat.lt_of_lt_of_le (HSS.out x hx) h2.1.size
 have H2 := Lh h2
 have h3 := two_new w (.cells #[.int .i64 s.rows, .int .i64 s.cols, .slice A1 s.cells.length kk1, .int .i64 s.y, .int .i64 0, .bool false, .int .u16 (s.attr : Int), .int .i64 s.top, .int .i64 s.bottom, .slice A2 s.tabs.length k2, .int .i64 s.sy, .int .i64 s.sx, .int .u16 (s.sattr : Int), .bool s.auto, .bool s.shown, .bool s.alt, .slice A3 s.other.length k3, .int .i64 s.oy, .int .i64 s.ox, .int .i64 (s.p.mode : Int), .int .u8 (s.p.priv : Int), .slice A4 s.p.params.length k4, .slice A5 s.p.inter.length k5, .slice A6 s.p.utf.length k6] 30) (.cells zQ 30)
 have HL := Lh (hl.keep (fun q hq => h2.1.cell (hT _ hq)))
 have HV := Lh (show SCV _ S (.agg (vA s A1 A2 A3 A4 A5 A6 kk1 k2 k3 k4 k5 k6)) s from ⟨_, _, _, _, _, _, rfl, HS.out.below HSS.out h2.1⟩)
 clear hl hT
 have HC := Lh (HS.out.1.cs' HSS.out h3.1 (Nat.le_refl _))
 clear H2
 have H2 := Lh h3
 clear h2 h3
 subst hb
 go_enter Tryz.func76, Tryz.ntmps76
 go_upto_region 2 with (first | ((with_reducible refine (paramr_0 HL.out hl2 HN.out).mono ?_); rintro e w' ⟨rfl, rfl⟩) | ((with_reducible refine (paramr_1 HL.out hl2 HMM.out).mono ?_); rintro e w' ⟨rfl, rfl⟩) | ((with_reducible refine (paramr_0 HL.out hl2 HK.out).mono ?_); rintro e w' ⟨rfl, rfl⟩))
 go_upto_region 58 with fail
 ((with_reducible refine (Up_any _ s.cells s.cols s.y s.bottom n _ HC.out (by omega)).mono ?_); rintro e w4 ⟨v4, rfl, o4, b4⟩; have hb4 : Below (w.heap.size + 1 + 1) _ w4 := (by rw [← H2.out.2]; exact b4); obtain ⟨e0, e1⟩ := two_keptB hb4; obtain ⟨cc2, ff2⟩ := cellR e0 2 rfl; have K0 := Lh e0; have K1 := Lh e1; rw [H2.out.2] at o4; have O4 := Lh o4; have B4 := Lh (H2.out.1.trans (hb4.mono (by omega))); have Z4 := b4.size; rw [H2.out.2] at Z4; clear o4 b4 hb4 e0 e1)
 obtain ⟨A7, k7, rfl, p7, q7⟩ := O4.out.cs.form
 go_upto_region 58 with fail
 refine wp_region_lit ?_
 refine wpl_loadS rfl (.tmp 3) rfl rfl ((heap_setCell_same _ _ 2 _ _ _ K0.out).trans rfl) rfl ?_
 refine wpl_storeS rfl (.tmp 6) (.tmp 272) rfl rfl rfl ((heap_setCell_other _ _ _ _ (by simp)).trans K1.out) rfl rfl all25 ?_
 go_wp2
 refine scEndC (w.heap.size + 1) 6 Tryz.results76 ?_ ?_ ((heap_setCell_other _ _ _ _ (by simp)).trans K1.out) (by omega) (B4.out.setCell (by simp) _) HSS.out HS.out ?_ ?_ ?_ (w.heap.size + 1 + 1) (by omega) O4.out (fun b hb => heap_setCell_other _ _ _ _ (by simp; omega)) (by simp)
 all_goals rfl
theorem seqr_lm (v vl : Value) (s : Sc) (l : List Int) (b : Int) (r c : Nat) (S T : Nat → Prop) (w : World) (hS : ∀ x, S x → x < w.heap.size) (hT : ∀ x, T x → x < w.heap.size) (h : SCV w S v s) (hi : ScIn s r c) (hl : SL vI w T vl l) (hl2 : l.length ≤ 1048576) (n m k : Int) (hn : paramL l 0 1 = n) (hm : paramL l 1 1 = m) (hk : paramL l 0 0 = k) (n1 : 1 ≤ n) (n2 : n ≤ 65535) (m1 : 1 ≤ m) (m2 : m ≤ 65535) (k0 : 0 ≤ k) (k9 : k ≤ 65535) (hb : b = 76 ∨ b = 77) (hy : ¬ (s.top ≤ s.y ∧ s.y ≤ s.bottom)) : Calls Tryz.prog 76 #[v, .int .u8 b, vl] w (ScPost S { s with wrap := false } w) := by
 have HSS := Lh hS
 clear hS
 obtain ⟨vc, vt, vo, vp, vi, vu, rfl, hs⟩ := h
 have HS := Lh hs
 obtain ⟨A1, kk1, A2, k2, A3, k3, A4, k4, A5, k5, A6, k6, rfl, rfl, rfl, rfl, rfl, rfl, p1, q1, p2, q2, p3, q3, p4, q4, p5, q5, p6, q6⟩ := sslSix hs
 have HI := Lh hi
 obtain ⟨y0, y1, x0, x1, hcl, hrl, c2, r2, hlen⟩ := dIn hi
 have c3 : s.cols ≤ 1000 := by omega
 have r3 : s.rows ≤ 1000 := by omega
 have r4 : 1 ≤ s.rows := by omega
 have c4 : s.x < s.cols := by omega
 have c5 : 1 ≤ s.cols := by omega
 have yr : s.y < s.rows := by omega
 have HN := Lh hn
 have HMM := Lh hm
 have HK := Lh hk
 obtain ⟨Al, kl, rfl, pl, ql⟩ := hl.form
 clear hi hcl hrl hn hm hk
 have h2 := two_new w (.cells (vA s A1 A2 A3 A4 A5 A6 kk1 k2 k3 k4 k5 k6) 30) (.cells zQ 30)
 have HS2 : Hid (∀ x, S x → x < _) := fun x hx => Nat.lt_of_lt_of_le (HSS.out x hx) h2.1.size
 have H2 := Lh h2
 have HL := Lh (hl.keep (fun q hq => h2.1.cell (hT _ hq)))
 have HV := Lh (show SCV _ S (.agg (vA s A1 A2 A3 A4 A5 A6 kk1 k2 k3 k4 k5 k6)) s from ⟨_, _, _, _, _, _, rfl, HS.out.below HSS.out h2.1⟩)
 clear hl hT
 clear h2
 by_cases hy1 : s.top ≤ s.y
 ·have hy2 : s.bottom < s.y := by omega
  have hy3 : decide (s.y ≤ s.bottom) = false := by simpa using hy2
  clear hy
  rcases hb with rfl | rfl
  all_goals
   go_enter Tryz.func76, Tryz.ntmps76
   go_upto_region 2 with (first | ((with_reducible refine (paramr_0 HL.out hl2 HN.out).mono ?_); rintro e w' ⟨rfl, rfl⟩) | ((with_reducible refine (paramr_1 HL.out hl2 HMM.out).mono ?_); rintro e w' ⟨rfl, rfl⟩) | ((with_reducible refine (paramr_0 HL.out hl2 HK.out).mono ?_); rintro e w' ⟨rfl, rfl⟩))
   go_upto_region 58 with fail
   refine wp_region_lit ?_
   refine wpl_loadS rfl (.tmp 3) rfl rfl (heap_a1 w _ _) rfl ?_
   refine wpl_storeS rfl (.tmp 6) (.tmp 272) rfl rfl rfl (heap_a2 w _ _) rfl rfl all25 ?_
   go_wp2
   refine scEnd (w.heap.size + 1) 6 Tryz.results76 ?_ ?_ (heap_a2 w _ _) (by omega) (two_new w _ _).1 HSS.out (HS.out.like ?_ ?_ ?_ ?_)
   all_goals rfl
 ·have hy2 : s.y < s.top := by omega
  have hy3 : decide (s.top ≤ s.y) = false := by simpa using hy2
  clear hy
  rcases hb with rfl | rfl
  all_goals
   go_enter Tryz.func76, Tryz.ntmps76
   go_upto_region 2 with (first | ((with_reducible refine (paramr_0 HL.out hl2 HN.out).mono ?_); rintro e w' ⟨rfl, rfl⟩) | ((with_reducible refine (paramr_1 HL.out hl2 HMM.out).mono ?_); rintro e w' ⟨rfl, rfl⟩) | ((with_reducible refine (paramr_0 HL.out hl2 HK.out).mono ?_); rintro e w' ⟨rfl, rfl⟩))
   go_upto_region 58 with fail
   refine wp_region_lit ?_
   refine wpl_loadS rfl (.tmp 3) rfl rfl (heap_a1 w _ _) rfl ?_
   refine wpl_storeS rfl (.tmp 6) (.tmp 272) rfl rfl rfl (heap_a2 w _ _) rfl rfl all25 ?_
   go_wp2
   refine scEnd (w.heap.size + 1) 6 Tryz.results76 ?_ ?_ (heap_a2 w _ _) (by omega) (two_new w _ _).1 HSS.out (HS.out.like ?_ ?_ ?_ ?_)
   all_goals rfl
theorem heap_al (X : World) (o : Obj) (b : Nat) (h : b < X.heap.size) : (X.alloc o).heap[b]? = X.heap[b]? := by
 show (X.heap.push o)[b]? = X.heap[b]?
 rw [Array.getElem?_push, if_neg (by omega)]
theorem seqr_no (v vl : Value) (s : Sc) (l : List Int) (b : Int) (r c : Nat) (S T : Nat → Prop) (w : World) (hS : ∀ x, S x → x < w.heap.size) (hT : ∀ x, T x → x < w.heap.size) (h : SCV w S v s) (hi : ScIn s r c) (hl : SL vI w T vl l) (hl2 : l.length ≤ 1048576) (n m k : Int) (hn : paramL l 0 1 = n) (hm : paramL l 1 1 = m) (hk : paramL l 0 0 = k) (n1 : 1 ≤ n) (n2 : n ≤ 65535) (m1 : 1 ≤ m) (m2 : m ≤ 65535) (k0 : 0 ≤ k) (k9 : k ≤ 65535) (hb : ¬ (b = 65 ∨ b = 66 ∨ b = 67 ∨ b = 68 ∨ b = 71 ∨ b = 96 ∨ b = 100 ∨ b = 72 ∨ b = 102 ∨ b = 74 ∨ b = 75 ∨ b = 76 ∨ b = 77 ∨ b = 64 ∨ b = 80 ∨ b = 88 ∨ b = 83 ∨ b = 84 ∨ b = 114 ∨ b = 103 ∨ b = 109)) : Calls Tryz.prog 76 #[v, .int .u8 b, vl] w (ScPost S s w) := by
 have HSS := Lh hS
 clear hS
 obtain ⟨vc, vt, vo, vp, vi, vu, rfl, hs⟩ := h
 have HS := Lh hs
 obtain ⟨A1, kk1, A2, k2, A3, k3, A4, k4, A5, k5, A6, k6, rfl, rfl, rfl, rfl, rfl, rfl, p1, q1, p2, q2, p3, q3, p4, q4, p5, q5, p6, q6⟩ := sslSix hs
 have HI := Lh hi
 obtain ⟨y0, y1, x0, x1, hcl, hrl, c2, r2, hlen⟩ := dIn hi
 have c3 : s.cols ≤ 1000 := by omega
 have r3 : s.rows ≤ 1000 := by omega
 have r4 : 1 ≤ s.rows := by omega
 have c4 : s.x < s.cols := by omega
 have c5 : 1 ≤ s.cols := by omega
 have yr : s.y < s.rows := by omega
 have HN := Lh hn
 have HMM := Lh hm
 have HK := Lh hk
 obtain ⟨Al, kl, rfl, pl, ql⟩ := hl.form
 clear hi hcl hrl hn hm hk
 have h2 := two_new w (.cells (vA s A1 A2 A3 A4 A5 A6 kk1 k2 k3 k4 k5 k6) 30) (.cells zQ 30)
 have HS2 : Hid (∀ x, S x → x < _) := fun x hx => Nat.lt_of_lt_of_le (HSS.out x hx) h2.1.size
 have H2 := Lh h2
 have HL := Lh (hl.keep (fun q hq => h2.1.cell (hT _ hq)))
 have HV := Lh (show SCV _ S (.agg (vA s A1 A2 A3 A4 A5 A6 kk1 k2 k3 k4 k5 k6)) s from ⟨_, _, _, _, _, _, rfl, HS.out.below HSS.out h2.1⟩)
 clear hl hT
 clear h2
 have n65 : (b == 65) = false := by simp; omega
 have n66 : (b == 66) = false := by simp; omega
 have n67 : (b == 67) = false := by simp; omega
 have n68 : (b == 68) = false := by simp; omega
 have n71 : (b == 71) = false := by simp; omega
 have n96 : (b == 96) = false := by simp; omega
 have n100 : (b == 100) = false := by simp; omega
 have n72 : (b == 72) = false := by simp; omega
 have n102 : (b == 102) = false := by simp; omega
 have n74 : (b == 74) = false := by simp; omega
 have n75 : (b == 75) = false := by simp; omega
 have n76 : (b == 76) = false := by simp; omega
 have n77 : (b == 77) = false := by simp; omega
 have n64 : (b == 64) = false := by simp; omega
 have n80 : (b == 80) = false := by simp; omega
 have n88 : (b == 88) = false := by simp; omega
 have n83 : (b == 83) = false := by simp; omega
 have n84 : (b == 84) = false := by simp; omega
 have n114 : (b == 114) = false := by simp; omega
 have n103 : (b == 103) = false := by simp; omega
 have n109 : (b == 109) = false := by simp; omega
 clear hb
 go_enter Tryz.func76, Tryz.ntmps76
 go_upto_region 2 with (first | ((with_reducible refine (paramr_0 HL.out hl2 HN.out).mono ?_); rintro e w' ⟨rfl, rfl⟩) | ((with_reducible refine (paramr_1 HL.out hl2 HMM.out).mono ?_); rintro e w' ⟨rfl, rfl⟩) | ((with_reducible refine (paramr_0 HL.out hl2 HK.out).mono ?_); rintro e w' ⟨rfl, rfl⟩))
 go_upto_region 58 with fail
 refine wp_region_lit ?_
 refine wpl_loadS rfl (.tmp 3) rfl rfl (heap_a1 w _ _) rfl ?_
 refine wpl_storeS rfl (.tmp 6) (.tmp 272) rfl rfl rfl (heap_a2 w _ _) rfl rfl all25 ?_
 go_wp2
 refine scEnd (w.heap.size + 1) 6 Tryz.results76 ?_ ?_ (heap_a2 w _ _) (by omega) (two_new w _ _).1 HSS.out (HS.out.like ?_ ?_ ?_ ?_)
 all_goals rfl
theorem seqr_gno (v vl : Value) (s : Sc) (l : List Int) (b : Int) (r c : Nat) (S T : Nat → Prop) (w : World) (hS : ∀ x, S x → x < w.heap.size) (hT : ∀ x, T x → x < w.heap.size) (h : SCV w S v s) (hi : ScIn s r c) (hl : SL vI w T vl l) (hl2 : l.length ≤ 1048576) (n m k : Int) (hn : paramL l 0 1 = n) (hm : paramL l 1 1 = m) (hk : paramL l 0 0 = k) (n1 : 1 ≤ n) (n2 : n ≤ 65535) (m1 : 1 ≤ m) (m2 : m ≤ 65535) (k0 : 0 ≤ k) (k9 : k ≤ 65535) (hb : b = 103) (g0 : ¬ k = 0) (g3 : ¬ k = 3) : Calls Tryz.prog 76 #[v, .int .u8 b, vl] w (ScPost S s w) := by
 have HSS := Lh hS
 clear hS
 obtain ⟨vc, vt, vo, vp, vi, vu, rfl, hs⟩ := h
 have HS := Lh hs
 obtain ⟨A1, kk1, A2, k2, A3, k3, A4, k4, A5, k5, A6, k6, rfl, rfl, rfl, rfl, rfl, rfl, p1, q1, p2, q2, p3, q3, p4, q4, p5, q5, p6, q6⟩ := sslSix hs
 have HI := Lh hi
 obtain ⟨y0, y1, x0, x1, hcl, hrl, c2, r2, hlen⟩ := dIn hi
 have c3 : s.cols ≤ 1000 := by omega
 have r3 : s.rows ≤ 1000 := by omega
 have r4 : 1 ≤ s.rows := by omega
 have c4 : s.x < s.cols := by omega
 have c5 : 1 ≤ s.cols := by omega
 have yr : s.y < s.rows := by omega
 have HN := Lh hn
 have HMM := Lh hm
 have HK := Lh hk
 obtain ⟨Al, kl, rfl, pl, ql⟩ := hl.form
 clear hi hcl hrl hn hm hk
 have h2 := two_new w (.cells (vA s A1 A2 A3 A4 A5 A6 kk1 k2 k3 k4 k5 k6) 30) (.cells zQ 30)
 have HS2 : Hid (∀ x, S x → x < _) := fun x hx => Nat.lt_of_lt_of_le (HSS.out x hx) h2.1.size
 have H2 := Lh h2
 have HL := Lh (hl.keep (fun q hq => h2.1.cell (hT _ hq)))
 have HV := Lh (show SCV _ S (.agg (vA s A1 A2 A3 A4 A5 A6 kk1 k2 k3 k4 k5 k6)) s from ⟨_, _, _, _, _, _, rfl, HS.out.below HSS.out h2.1⟩)
 clear hl hT
 clear h2
 subst hb
 have k0b : (k == 0) = false := by simpa using g0
 have k3b : (k == 3) = false := by simpa using g3
 go_enter Tryz.func76, Tryz.ntmps76
 go_upto_region 2 with (first | ((with_reducible refine (paramr_0 HL.out hl2 HN.out).mono ?_); rintro e w' ⟨rfl, rfl⟩) | ((with_reducible refine (paramr_1 HL.out hl2 HMM.out).mono ?_); rintro e w' ⟨rfl, rfl⟩) | ((with_reducible refine (paramr_0 HL.out hl2 HK.out).mono ?_); rintro e w' ⟨rfl, rfl⟩))
 go_upto_region 58 with fail
 refine wp_region_lit ?_
 refine wpl_loadS rfl (.tmp 3) rfl rfl (heap_a1 w _ _) rfl ?_
 refine wpl_storeS rfl (.tmp 6) (.tmp 272) rfl rfl rfl (heap_a2 w _ _) rfl rfl all25 ?_
 go_wp2
 refine scEnd (w.heap.size + 1) 6 Tryz.results76 ?_ ?_ (heap_a2 w _ _) (by omega) (two_new w _ _).1 HSS.out (HS.out.like ?_ ?_ ?_ ?_)
 all_goals rfl
def LookRel (l : List Int) (a0 : Nat) (X : Nat → Array Value) (Z : Obj) (w : World) (i : Value) (wr : World) : Prop :=
 ∃ j : Nat, j ≤ l.length ∧ i = .int .i64 (j : Int) ∧ attrB ((l.take j).foldl lookN a0) = true ∧ wr.heap[w.heap.size]? = some (.cells (X ((l.take j).foldl lookN a0)) 30) ∧ wr.heap[w.heap.size + 1]? = some Z ∧ Below w.heap.size w wr
theorem seqr_m1 (v vl : Value) (s : Sc) (l : List Int) (b : Int) (r c : Nat) (S T : Nat → Prop) (w : World) (hS : ∀ x, S x → x < w.heap.size) (hT : ∀ x, T x → x < w.heap.size) (h : SCV w S v s) (hi : ScIn s r c) (hl : SL vI w T vl l) (hl2 : l.length ≤ 1048576) (n m k : Int) (hn : paramL l 0 1 = n) (hm : paramL l 1 1 = m) (hk : paramL l 0 0 = k) (n1 : 1 ≤ n) (n2 : n ≤ 65535) (m1 : 1 ≤ m) (m2 : m ≤ 65535) (k0 : 0 ≤ k) (k9 : k ≤ 65535) (hb : b = 109) (hp : ∀ x ∈ l, 0 ≤ x ∧ x ≤ 65535) (hl0 : ¬ l.length = 0) : Calls Tryz.prog 76 #[v, .int .u8 b, vl] w (ScPost S { s with attr := l.foldl lookN s.attr } w) := by
 have HSS := Lh hS
 clear hS
 obtain ⟨vc, vt, vo, vp, vi, vu, rfl, hs⟩ := h
 have HS := Lh hs
 obtain ⟨A1, kk1, A2, k2, A3, k3, A4, k4, A5, k5, A6, k6, rfl, rfl, rfl, rfl, rfl, rfl, p1, q1, p2, q2, p3, q3, p4, q4, p5, q5, p6, q6⟩ := sslSix hs
 have HI := Lh hi
 obtain ⟨y0, y1, x0, x1, hcl, hrl, c2, r2, hlen⟩ := dIn hi
 have c3 : s.cols ≤ 1000 := by omega
 have r3 : s.rows ≤ 1000 := by omega
 have r4 : 1 ≤ s.rows := by omega
 have c4 : s.x < s.cols := by omega
 have c5 : 1 ≤ s.cols := by omega
 have yr : s.y < s.rows := by omega
 have HN := Lh hn
 have HMM := Lh hm
 have HK := Lh hk
 obtain ⟨Al, kl, rfl, pl, ql⟩ := hl.form
 clear hi hcl hrl hn hm hk
 have h2 := two_new w (.cells (vA s A1 A2 A3 A4 A5 A6 kk1 k2 k3 k4 k5 k6) 30) (.cells zQ 30)
 have HS2 : Hid (∀ x, S x → x < _) := fun x hx => Nat.lt_of_lt_of_le (HSS.out x hx) h2.1.size
 have H2 := Lh h2
 have HL := Lh (hl.keep (fun q hq => h2.1.cell (hT _ hq)))
 have HV := Lh (show SCV _ S (.agg (vA s A1 A2 A3 A4 A5 A6 kk1 k2 k3 k4 k5 k6)) s from ⟨_, _, _, _, _, _, rfl, HS.out.below HSS.out h2.1⟩)
 have HLW := Lh hl
 have HTW := Lh hT
 have HP := Lh hp
 clear hl hT hp
 clear h2
 subst hb
 have hlb : ((l.length : Int) == 0) = false := bF (by omega)
 have HL0 := Lh hl0
 have HA0 := Lh HI.out.attr
 clear hl0
 go_enter Tryz.func76, Tryz.ntmps76
 go_upto_region 2 with (first | ((with_reducible refine (paramr_0 HL.out hl2 HN.out).mono ?_); rintro e w' ⟨rfl, rfl⟩) | ((with_reducible refine (paramr_1 HL.out hl2 HMM.out).mono ?_); rintro e w' ⟨rfl, rfl⟩) | ((with_reducible refine (paramr_0 HL.out hl2 HK.out).mono ?_); rintro e w' ⟨rfl, rfl⟩))
 go_upto_region 55 with fail
 go_loopw [12] (fun i wr => LookRel l s.attr (fun a => vS { s with attr := a } (.slice A1 s.cells.length kk1) (.slice A2 s.tabs.length k2) (.slice A3 s.other.length k3) (.slice A4 s.p.params.length k4) (.slice A5 s.p.inter.length k5) (.slice A6 s.p.utf.length k6)) (.cells zQ 30) w i wr) (fun i _ => l.length - (intOf i).toNat)
 case atStart => exact ⟨0, Nat.zero_le _, rfl, HA0.out, heap_a1 w _ _, heap_a2 w _ _, (two_new w _ _).1⟩
 case round =>
  generalize wr = w3 at *
  obtain ⟨j, hj, rfl, hat, k3, k31, b3⟩ := hrel
  generalize hA : (l.take j).foldl lookN s.attr = aa at *
  have z3 := b3.size
  have haa := attrB_lt hat
  have K3 := Lh k3
  have K31 := Lh k31
  have B3 := Lh b3
  have HAT := Lh hat
  have HAA := Lh hA
  have z3b : w.heap.size + 1 < w3.heap.size := by
   rcases Nat.lt_or_ge (w.heap.size + 1) w3.heap.size with hh | hh
   ·exact hh
   ·rw [Array.getElem?_eq_none hh] at k31; cases k31
  clear k3 k31 b3 hat hA
  by_cases hlt : j < l.length
  ·obtain ⟨x, hx⟩ : ∃ x, l[j]? = some x := ⟨_, List.getElem?_eq_getElem hlt⟩
   obtain ⟨ad, hAd, e1⟩ := HLW.out.get j x hx
   subst hAd
   obtain ⟨A', c', hv', _, _, h3'⟩ := HLW.out
   simp only [Value.slice.injEq, Option.some.injEq] at hv'
   obtain ⟨ad', hAd', hbl, _⟩ := h3' (by omega)
   have hbl2 : ad.block < w.heap.size := by
    have e : A' = some ad := hv'.1.symm
    rw [e] at hAd'
    injection hAd' with e2
    rw [e2]
    exact HTW.out _ hbl
   clear hv' h3' hAd'
   unfold vI at e1
   have e2 : w3.drew.cell? (ad.add j) = some (.int .i64 x) := (B3.out.cell (p := ad.add j) (by rw [block_add]; exact hbl2)).trans e1
   have tb : (ad.add j).block < w3.drew.heap.size := by rw [block_add]; show ad.block < w3.heap.size; omega
   obtain ⟨c6, f6⟩ := cellR (w := w3.drew) (v := .int .u16 (aa : Int)) K3.out 6 rfl
   have HX := Lh hx
   clear hx e1
   go_wp2
   go_region_with ((with_reducible refine (lookr_any aa x haa _).mono ?_); rintro e w' ⟨rfl, rfl⟩)
   all_goals
    go_wp2
    go_roundw
    case rel =>
     have hfold : (l.take (j + 1)).foldl lookN s.attr = lookN aa x := by
      rw [List.take_add_one, HX.out, List.foldl_append, HAA.out]
      rfl
     refine ⟨j + 1, by omega, by go_num, ?_, ?_, ?_, B3.out.drew.setCell (by simp) _⟩
     ·rw [hfold]; exact lookN_ok aa x HAT.out
     ·rw [hfold]; exact (heap_setCell_same w3.drew _ 6 _ _ _ K3.out).trans rfl
     ·exact (heap_setCell_other _ _ _ _ (by simp)).trans K31.out
    case measure => simp [intOf]; omega
  ·obtain rfl : j = l.length := by omega
   have hfin : l.foldl lookN s.attr = aa := by have := HAA.out; rw [List.take_of_length_le (Nat.le_refl _)] at this; exact this
   have HF := Lh hfin
   clear hfin
   go_upto_region 58 with fail
   refine wp_region_lit ?_
   refine wpl_loadS rfl (.tmp 3) rfl rfl K3.out rfl ?_
   refine wpl_storeS rfl (.tmp 6) (.tmp 272) rfl rfl rfl K31.out rfl rfl all25 ?_
   go_wp2
   rw [HF.out]
   refine scEnd (w.heap.size + 1) 6 Tryz.results76 ?_ ?_ K31.out (by omega) B3.out HSS.out (HS.out.like ?_ ?_ ?_ ?_)
   all_goals rfl
theorem seqr_m0 (v vl : Value) (s : Sc) (l : List Int) (b : Int) (r c : Nat) (S T : Nat → Prop) (w : World) (hS : ∀ x, S x → x < w.heap.size) (hT : ∀ x, T x → x < w.heap.size) (h : SCV w S v s) (hi : ScIn s r c) (hl : SL vI w T vl l) (hl2 : l.length ≤ 1048576) (n m k : Int) (hn : paramL l 0 1 = n) (hm : paramL l 1 1 = m) (hk : paramL l 0 0 = k) (n1 : 1 ≤ n) (n2 : n ≤ 65535) (m1 : 1 ≤ m) (m2 : m ≤ 65535) (k0 : 0 ≤ k) (k9 : k ≤ 65535) (hb : b = 109) (hp : ∀ x ∈ l, 0 ≤ x ∧ x ≤ 65535) (hl0 : l.length = 0) : Calls Tryz.prog 76 #[v, .int .u8 b, vl] w (ScPost S { s with attr := l.foldl lookN 0 } w) := by
 have HSS := Lh hS
 clear hS
 obtain ⟨vc, vt, vo, vp, vi, vu, rfl, hs⟩ := h
 have HS := Lh hs
 obtain ⟨A1, kk1, A2, k2, A3, k3, A4, k4, A5, k5, A6, k6, rfl, rfl, rfl, rfl, rfl, rfl, p1, q1, p2, q2, p3, q3, p4, q4, p5, q5, p6, q6⟩ := sslSix hs
 have HI := Lh hi
 obtain ⟨y0, y1, x0, x1, hcl, hrl, c2, r2, hlen⟩ := dIn hi
 have c3 : s.cols ≤ 1000 := by omega
 have r3 : s.rows ≤ 1000 := by omega
 have r4 : 1 ≤ s.rows := by omega
 have c4 : s.x < s.cols := by omega
 have c5 : 1 ≤ s.cols := by omega
 have yr : s.y < s.rows := by omega
 have HN := Lh hn
 have HMM := Lh hm
 have HK := Lh hk
 obtain ⟨Al, kl, rfl, pl, ql⟩ := hl.form
 clear hi hcl hrl hn hm hk
 have h2 := two_new w (.cells (vA s A1 A2 A3 A4 A5 A6 kk1 k2 k3 k4 k5 k6) 30) (.cells zQ 30)
 have HS2 : Hid (∀ x, S x → x < _) := fun x hx => Nat.lt_of_lt_of_le (HSS.out x hx) h2.1.size
 have H2 := Lh h2
 have HL := Lh (hl.keep (fun q hq => h2.1.cell (hT _ hq)))
 have HV := Lh (show SCV _ S (.agg (vA s A1 A2 A3 A4 A5 A6 kk1 k2 k3 k4 k5 k6)) s from ⟨_, _, _, _, _, _, rfl, HS.out.below HSS.out h2.1⟩)
 have HLW := Lh hl
 have HTW := Lh hT
 have HP := Lh hp
 clear hl hT hp
 clear h2
 subst hb
 have hlb : ((l.length : Int) == 0) = true := beq_iff_eq.2 (by omega)
 have HL0 := Lh hl0
 have HA0 : Hid (attrB 0 = true) := rfl
 clear hl0
 go_enter Tryz.func76, Tryz.ntmps76
 go_upto_region 2 with (first | ((with_reducible refine (paramr_0 HL.out hl2 HN.out).mono ?_); rintro e w' ⟨rfl, rfl⟩) | ((with_reducible refine (paramr_1 HL.out hl2 HMM.out).mono ?_); rintro e w' ⟨rfl, rfl⟩) | ((with_reducible refine (paramr_0 HL.out hl2 HK.out).mono ?_); rintro e w' ⟨rfl, rfl⟩))
 go_upto_region 55 with fail
 go_loopw [12] (fun i wr => LookRel l 0 (fun a => vS { s with attr := a } (.slice A1 s.cells.length kk1) (.slice A2 s.tabs.length k2) (.slice A3 s.other.length k3) (.slice A4 s.p.params.length k4) (.slice A5 s.p.inter.length k5) (.slice A6 s.p.utf.length k6)) (.cells zQ 30) w i wr) (fun i _ => l.length - (intOf i).toNat)
 case atStart => exact ⟨0, Nat.zero_le _, rfl, HA0.out, heap_a1 w _ _, heap_a2 w _ _, (two_new w _ _).1⟩
 case round =>
  generalize wr = w3 at *
  obtain ⟨j, hj, rfl, hat, k3, k31, b3⟩ := hrel
  generalize hA : (l.take j).foldl lookN 0 = aa at *
  have z3 := b3.size
  have haa := attrB_lt hat
  have K3 := Lh k3
  have K31 := Lh k31
  have B3 := Lh b3
  have HAT := Lh hat
  have HAA := Lh hA
  have z3b : w.heap.size + 1 < w3.heap.size := by
   rcases Nat.lt_or_ge (w.heap.size + 1) w3.heap.size with hh | hh
   ·exact hh
   ·rw [Array.getElem?_eq_none hh] at k31; cases k31
  clear k3 k31 b3 hat hA
  by_cases hlt : j < l.length
  ·obtain ⟨x, hx⟩ : ∃ x, l[j]? = some x := ⟨_, List.getElem?_eq_getElem hlt⟩
   obtain ⟨ad, hAd, e1⟩ := HLW.out.get j x hx
   subst hAd
   obtain ⟨A', c', hv', _, _, h3'⟩ := HLW.out
   simp only [Value.slice.injEq, Option.some.injEq] at hv'
   obtain ⟨ad', hAd', hbl, _⟩ := h3' (by omega)
   have hbl2 : ad.block < w.heap.size := by
    have e : A' = some ad := hv'.1.symm
    rw [e] at hAd'
    injection hAd' with e2
    rw [e2]
    exact HTW.out _ hbl
   clear hv' h3' hAd'
   unfold vI at e1
   have e2 : w3.drew.cell? (ad.add j) = some (.int .i64 x) := (B3.out.cell (p := ad.add j) (by rw [block_add]; exact hbl2)).trans e1
   have tb : (ad.add j).block < w3.drew.heap.size := by rw [block_add]; show ad.block < w3.heap.size; omega
   obtain ⟨c6, f6⟩ := cellR (w := w3.drew) (v := .int .u16 (aa : Int)) K3.out 6 rfl
   have HX := Lh hx
   clear hx e1
   go_wp2
   go_region_with ((with_reducible refine (lookr_any aa x haa _).mono ?_); rintro e w' ⟨rfl, rfl⟩)
   all_goals
    go_wp2
    go_roundw
    case rel =>
     have hfold : (l.take (j + 1)).foldl lookN 0 = lookN aa x := by
      rw [List.take_add_one, HX.out, List.foldl_append, HAA.out]
      rfl
     refine ⟨j + 1, by omega, by go_num, ?_, ?_, ?_, B3.out.drew.setCell (by simp) _⟩
     ·rw [hfold]; exact lookN_ok aa x HAT.out
     ·rw [hfold]; exact (heap_setCell_same w3.drew _ 6 _ _ _ K3.out).trans rfl
     ·exact (heap_setCell_other _ _ _ _ (by simp)).trans K31.out
    case measure => simp [intOf]; omega
  ·obtain rfl : j = l.length := by omega
   have hfin : l.foldl lookN 0 = aa := by have := HAA.out; rw [List.take_of_length_le (Nat.le_refl _)] at this; exact this
   have HF := Lh hfin
   clear hfin
   go_upto_region 58 with fail
   refine wp_region_lit ?_
   refine wpl_loadS rfl (.tmp 3) rfl rfl K3.out rfl ?_
   refine wpl_storeS rfl (.tmp 6) (.tmp 272) rfl rfl rfl K31.out rfl rfl all25 ?_
   go_wp2
   rw [HF.out]
   refine scEnd (w.heap.size + 1) 6 Tryz.results76 ?_ ?_ K31.out (by omega) B3.out HSS.out (HS.out.like ?_ ?_ ?_ ?_)
   all_goals rfl
theorem seqr_g0 (v vl : Value) (s : Sc) (l : List Int) (b : Int) (r c : Nat) (S T : Nat → Prop) (w : World) (hS : ∀ x, S x → x < w.heap.size) (hT : ∀ x, T x → x < w.heap.size) (h : SCV w S v s) (hi : ScIn s r c) (hl : SL vI w T vl l) (hl2 : l.length ≤ 1048576) (n m k : Int) (hn : paramL l 0 1 = n) (hm : paramL l 1 1 = m) (hk : paramL l 0 0 = k) (n1 : 1 ≤ n) (n2 : n ≤ 65535) (m1 : 1 ≤ m) (m2 : m ≤ 65535) (k0 : 0 ≤ k) (k9 : k ≤ 65535) (hb : b = 103) (g0 : k = 0) : Calls Tryz.prog 76 #[v, .int .u8 b, vl] w (ScPost S { s with tabs := s.tabs.set s.x.toNat false } w) := by
 have HSS := Lh hS
 clear hS
 obtain ⟨vc, vt, vo, vp, vi, vu, rfl, hs⟩ := h
 have HS := Lh hs
 obtain ⟨A1, kk1, A2, k2, A3, k3, A4, k4, A5, k5, A6, k6, rfl, rfl, rfl, rfl, rfl, rfl, p1, q1, p2, q2, p3, q3, p4, q4, p5, q5, p6, q6⟩ := sslSix hs
 have HI := Lh hi
 obtain ⟨y0, y1, x0, x1, hcl, hrl, c2, r2, hlen⟩ := dIn hi
 have c3 : s.cols ≤ 1000 := by omega
 have r3 : s.rows ≤ 1000 := by omega
 have r4 : 1 ≤ s.rows := by omega
 have c4 : s.x < s.cols := by omega
 have c5 : 1 ≤ s.cols := by omega
 have yr : s.y < s.rows := by omega
 have HN := Lh hn
 have HMM := Lh hm
 have HK := Lh hk
 obtain ⟨Al, kl, rfl, pl, ql⟩ := hl.form
 clear hi hcl hrl hn hm hk
 have h2 := two_new w (.cells (vA s A1 A2 A3 A4 A5 A6 kk1 k2 k3 k4 k5 k6) 30) (.cells zQ 30)
 have HS2 : Hid (∀ x, S x → x < _) := fun x hx => Nat.lt_of_lt_of_le (HSS.out x hx) h2.1.size
 have H2 := Lh h2
 have HL := Lh (hl.keep (fun q hq => h2.1.cell (hT _ hq)))
 have HV := Lh (show SCV _ S (.agg (vA s A1 A2 A3 A4 A5 A6 kk1 k2 k3 k4 k5 k6)) s from ⟨_, _, _, _, _, _, rfl, HS.out.below HSS.out h2.1⟩)
 clear hl hT
 subst hb
 have htl : (s.tabs.length : Int) = s.cols := by rw [HI.out.cols, HI.out.tabs]
 have htb : s.tabs.length ≤ 1000 := by omega
 have htp : 0 < s.tabs.length := by omega
 obtain ⟨xx, hxx⟩ : ∃ xx : Nat, xx = s.x.toNat := ⟨_, rfl⟩
 rw [← hxx]
 have hxt : xx < s.tabs.length := by omega
 have hxs : s.x = (xx : Int) := by omega
 have hti : (s.x : Int) < (s.tabs.length : Int) := by omega
 have HXX := Lh hxs
 have HTL := Lh htl
 have HT2 : Hid (TS _ w.heap.size (.slice A2 s.tabs.length k2) s.tabs) := (HS.out.2.1.keep (fun q hq => h2.1.cell (HSS.out _ hq))).mono (fun x hx => HSS.out x hx)
 have hb2 := h2.2
 clear hxx hxs htl h2
 have k0b : (k == 0) = true := by simpa using g0
 have k3b : (k == 3) = false := by simp; omega
 clear g0
 go_enter Tryz.func76, Tryz.ntmps76
 go_upto_region 2 with (first | ((with_reducible refine (paramr_0 HL.out hl2 HN.out).mono ?_); rintro e w' ⟨rfl, rfl⟩) | ((with_reducible refine (paramr_1 HL.out hl2 HMM.out).mono ?_); rintro e w' ⟨rfl, rfl⟩) | ((with_reducible refine (paramr_0 HL.out hl2 HK.out).mono ?_); rintro e w' ⟨rfl, rfl⟩))
 go_upto_region 47 with fail
 refine wp_region_lit ?_
 iterate 2 (refine wpList_plain rfl fun K hK => ?_; go_simp; refine hK _ _ ?_; clear hK K)
 refine wpl_appT _ rfl (.const (.slice none 0 0)) (.tmp 238) rfl (w.heap.size + 1 + 1) w.heap.size (.slice none 0 0) (.slice A2 s.tabs.length k2) [] s.tabs rfl rfl (OT.nil _ _) HT2.out (by simp; omega) (by rw [hb2]; exact Nat.le_refl _) ?_
 intro v4 w4 o4 g4 b4 _
 clear g4
 rw [List.nil_append] at o4
 obtain ⟨e0, e1⟩ := two_keptB b4
 obtain ⟨gt, cap, rfl, hg1, hg2, hg3, hg4⟩ := o4.open_ htp
 obtain ⟨c9, f9⟩ := cellR (v := .slice A2 s.tabs.length k2) e0 9 rfl
 obtain ⟨cx, fx⟩ := cellR (v := .int .i64 s.x) e0 4 rfl
 obtain ⟨q, s0, f0⟩ := o4.spot xx hxt
 have K0 := Lh e0
 have K1 := Lh e1
 have O4 := Lh o4
 have Z4 := b4.size
 rw [hb2] at Z4
 have B4 := Lh (H2.out.1.trans (b4.mono (by omega)))
 clear e0 e1 o4 b4 hb2
 have hne : ¬ gt = w.heap.size := by omega
 rw [HXX.out] at cx
 go_simp
 go_upto_region 58 with fail
 have e1 : ((w4.setCell ⟨w.heap.size, 9, none⟩ (.slice (some ⟨gt, 0, none⟩) s.tabs.length cap)).setCell ⟨gt, xx, none⟩ (.bool false)).heap[w.heap.size + 1]? = some (.cells zQ 30) := (heap_setCell_other _ _ _ _ (by simp; omega)).trans ((heap_setCell_other _ _ _ _ (by simp)).trans K1.out)
 refine wp_region_lit ?_
 refine wpl_loadS rfl (.tmp 3) rfl rfl ((heap_setCell_other _ _ _ _ (by simp; omega)).trans ((heap_setCell_same _ _ 9 _ _ _ K0.out).trans rfl)) rfl ?_
 refine wpl_storeS rfl (.tmp 6) (.tmp 272) rfl rfl rfl e1 rfl rfl all25 ?_
 go_wp2
 refine scEndT (s0 := s) (w.heap.size + 1) 6 Tryz.results76 ?_ ?_ e1 (by omega) ((B4.out.setCell (by simp) _).setCell (by simp; omega) _) HSS.out HS.out ?_ ?_ ?_ (w.heap.size + 1 + 1) (by omega) ((O4.out.other ⟨w.heap.size, 9, none⟩ _ (by simp; omega)).put xx false)
 all_goals rfl
theorem seqr_g3 (v vl : Value) (s : Sc) (l : List Int) (b : Int) (r c : Nat) (S T : Nat → Prop) (w : World) (hS : ∀ x, S x → x < w.heap.size) (hT : ∀ x, T x → x < w.heap.size) (h : SCV w S v s) (hi : ScIn s r c) (hl : SL vI w T vl l) (hl2 : l.length ≤ 1048576) (n m k : Int) (hn : paramL l 0 1 = n) (hm : paramL l 1 1 = m) (hk : paramL l 0 0 = k) (n1 : 1 ≤ n) (n2 : n ≤ 65535) (m1 : 1 ≤ m) (m2 : m ≤ 65535) (k0 : 0 ≤ k) (k9 : k ≤ 65535) (hb : b = 103) (g3 : k = 3) : Calls Tryz.prog 76 #[v, .int .u8 b, vl] w (ScPost S { s with tabs := List.replicate s.cols.toNat false } w) := by
 have HSS := Lh hS
 clear hS
 obtain ⟨vc, vt, vo, vp, vi, vu, rfl, hs⟩ := h
 have HS := Lh hs
 obtain ⟨A1, kk1, A2, k2, A3, k3, A4, k4, A5, k5, A6, k6, rfl, rfl, rfl, rfl, rfl, rfl, p1, q1, p2, q2, p3, q3, p4, q4, p5, q5, p6, q6⟩ := sslSix hs
 have HI := Lh hi
 obtain ⟨y0, y1, x0, x1, hcl, hrl, c2, r2, hlen⟩ := dIn hi
 have c3 : s.cols ≤ 1000 := by omega
 have r3 : s.rows ≤ 1000 := by omega
 have r4 : 1 ≤ s.rows := by omega
 have c4 : s.x < s.cols := by omega
 have c5 : 1 ≤ s.cols := by omega
 have yr : s.y < s.rows := by omega
 have HN := Lh hn
 have HMM := Lh hm
 have HK := Lh hk
 obtain ⟨Al, kl, rfl, pl, ql⟩ := hl.form
 clear hi hcl hrl hn hm hk
 have h2 := two_new w (.cells (vA s A1 A2 A3 A4 A5 A6 kk1 k2 k3 k4 k5 k6) 30) (.cells zQ 30)
 have HS2 : Hid (∀ x, S x → x < _) := fun x hx => Nat.lt_of_lt_of_le (HSS.out x hx) h2.1.size
 have H2 := Lh h2
 have HL := Lh (hl.keep (fun q hq => h2.1.cell (hT _ hq)))
 have HV := Lh (show SCV _ S (.agg (vA s A1 A2 A3 A4 A5 A6 kk1 k2 k3 k4 k5 k6)) s from ⟨_, _, _, _, _, _, rfl, HS.out.below HSS.out h2.1⟩)
 clear hl hT
 subst hb
 have htl : (s.tabs.length : Int) = s.cols := by rw [HI.out.cols, HI.out.tabs]
 have htb : s.tabs.length ≤ 1000 := by omega
 have htp : 0 < s.tabs.length := by omega
 obtain ⟨xx, hxx⟩ : ∃ xx : Nat, xx = s.x.toNat := ⟨_, rfl⟩
 skip
 have hxt : xx < s.tabs.length := by omega
 have hxs : s.x = (xx : Int) := by omega
 have hti : (s.x : Int) < (s.tabs.length : Int) := by omega
 have HXX := Lh hxs
 have HTL := Lh htl
 have HT2 : Hid (TS _ w.heap.size (.slice A2 s.tabs.length k2) s.tabs) := (HS.out.2.1.keep (fun q hq => h2.1.cell (HSS.out _ hq))).mono (fun x hx => HSS.out x hx)
 have hb2 := h2.2
 clear hxx hxs htl h2
 have k0b : (k == 0) = false := by simp; omega
 have k3b : (k == 3) = true := by simpa using g3
 obtain ⟨cn, hcn⟩ : ∃ cn : Nat, s.cols = (cn : Int) := ⟨s.cols.toNat, by omega⟩
 have HCN := Lh hcn
 have hmk := run_makeT cn (by omega)
 rw [← hcn] at hmk
 have HMK := Lh hmk
 clear g3 hcn hmk
 go_enter Tryz.func76, Tryz.ntmps76
 go_upto_region 2 with (first | ((with_reducible refine (paramr_0 HL.out hl2 HN.out).mono ?_); rintro e w' ⟨rfl, rfl⟩) | ((with_reducible refine (paramr_1 HL.out hl2 HMM.out).mono ?_); rintro e w' ⟨rfl, rfl⟩) | ((with_reducible refine (paramr_0 HL.out hl2 HK.out).mono ?_); rintro e w' ⟨rfl, rfl⟩))
 go_upto_region 47 with fail
 refine wp_region_lit ?_
 iterate 2 (refine wpList_plain rfl fun K hK => ?_; go_simp; refine hK _ _ ?_; clear hK K)
 refine wpl_appT _ rfl (.const (.slice none 0 0)) (.tmp 238) rfl (w.heap.size + 1 + 1) w.heap.size (.slice none 0 0) (.slice A2 s.tabs.length k2) [] s.tabs rfl rfl (OT.nil _ _) HT2.out (by simp; omega) (by rw [hb2]; exact Nat.le_refl _) ?_
 intro v4 w4 o4 g4 b4 _
 clear g4
 rw [List.nil_append] at o4
 obtain ⟨e0, e1⟩ := two_keptB b4
 obtain ⟨gt, cap, rfl, hg1, hg2, hg3, hg4⟩ := o4.open_ htp
 obtain ⟨c9, f9⟩ := cellR (v := .slice A2 s.tabs.length k2) e0 9 rfl
 obtain ⟨cx, fx⟩ := cellR (v := .int .i64 s.x) e0 4 rfl
 obtain ⟨q, s0, f0⟩ := o4.spot xx hxt
 have K0 := Lh e0
 have K1 := Lh e1
 have O4 := Lh o4
 have Z4 := b4.size
 rw [hb2] at Z4
 have B4 := Lh (H2.out.1.trans (b4.mono (by omega)))
 clear e0 e1 o4 b4 hb2
 have hne : ¬ gt = w.heap.size := by omega
 rw [HXX.out] at cx
 go_simp
 go_upto_region 50 with fail
 generalize hW6 : World.setCell _ _ _ = W6
 have k6 : W6.heap[w.heap.size]? = some (.cells (vS s (.slice A1 s.cells.length kk1) (.slice (some ⟨gt, 0, none⟩) s.tabs.length cap) (.slice A3 s.other.length k3) (.slice A4 s.p.params.length k4) (.slice A5 s.p.inter.length k5) (.slice A6 s.p.utf.length k6)) 30) := by rw [← hW6]; exact (heap_setCell_other _ _ _ _ (by simp; omega)).trans ((heap_setCell_same _ _ 9 _ _ _ K0.out).trans rfl)
 have k61 : W6.heap[w.heap.size + 1]? = some (.cells zQ 30) := by rw [← hW6]; exact (heap_setCell_other _ _ _ _ (by simp; omega)).trans ((heap_setCell_other _ _ _ _ (by simp)).trans K1.out)
 have z6 : W6.heap.size = w4.heap.size := by rw [← hW6]; simp
 have b6 : Below w.heap.size w W6 := by rw [← hW6]; exact (B4.out.setCell (by simp) _).setCell (by simp; omega) _
 obtain ⟨a1, n1'⟩ := cellR (v := .int .i64 s.cols) k6 1 rfl
 obtain ⟨a9, n9'⟩ := cellR (v := .slice (some ⟨gt, 0, none⟩) s.tabs.length cap) k6 9 rfl
 have K6 := Lh k6
 have K61 := Lh k61
 have Z6 := Lh z6
 have B6 := Lh b6
 have hz6 : w.heap.size < W6.heap.size := by rw [z6]; omega
 have hmk := HMK.out W6
 clear k6 k61 z6 b6 hW6 c9 f9 cx fx s0 f0
 go_upto_region 58 with fail
 clear hmk a1 n1' a9 n9'
 have hxz : (W6.setCell ⟨w.heap.size, 9, none⟩ (.slice (some ⟨W6.heap.size, 0, none⟩) cn cn)).heap.size = W6.heap.size := by simp
 have hot := OT.made (W6.setCell ⟨w.heap.size, 9, none⟩ (.slice (some ⟨W6.heap.size, 0, none⟩) cn cn)) cn (by have := HCN.out; omega)
 rw [hxz] at hot
 have z6 := Z6.out
 have e0 : ((W6.setCell ⟨w.heap.size, 9, none⟩ (.slice (some ⟨W6.heap.size, 0, none⟩) cn cn)).alloc (.cells (madeCells #[.bool false] cn) 4)).heap[w.heap.size]? = _ := (heap_al _ _ _ (by rw [hxz]; omega)).trans (heap_setCell_same _ _ 9 _ _ _ K6.out)
 have e1 : ((W6.setCell ⟨w.heap.size, 9, none⟩ (.slice (some ⟨W6.heap.size, 0, none⟩) cn cn)).alloc (.cells (madeCells #[.bool false] cn) 4)).heap[w.heap.size + 1]? = some (.cells zQ 30) := (heap_al _ _ _ (by rw [hxz]; omega)).trans ((heap_setCell_other _ _ _ _ (by simp)).trans K61.out)
 have hcn2 : s.cols.toNat = cn := by have := HCN.out; omega
 have HCN2 := Lh hcn2
 have HOT := Lh hot
 have E1 := Lh e1
 have E0 := Lh e0
 clear hcn2 hot e1 e0 hxz z6
 refine wp_region_lit ?_
 refine wpl_loadS rfl (.tmp 3) rfl rfl (E0.out.trans rfl) rfl ?_
 refine wpl_storeS rfl (.tmp 6) (.tmp 272) rfl rfl rfl E1.out rfl rfl all25 ?_
 go_wp2
 rw [HCN2.out]
 have hsz : (List.replicate cn false).length = cn := by simp
 refine scEndT (s := { s with tabs := List.replicate cn false }) (s0 := s) (w.heap.size + 1) 6 Tryz.results76 ?_ ?_ E1.out (by omega) ((B6.out.setCell (by simp) _).alloc (by simp; omega) _) HSS.out HS.out ?_ ?_ ?_ W6.heap.size (by rw [Z6.out]; omega) HOT.out
 all_goals rfl
theorem seqr_rno (v vl : Value) (s : Sc) (l : List Int) (b : Int) (r c : Nat) (S T : Nat → Prop) (w : World) (hS : ∀ x, S x → x < w.heap.size) (hT : ∀ x, T x → x < w.heap.size) (h : SCV w S v s) (hi : ScIn s r c) (hl : SL vI w T vl l) (hl2 : l.length ≤ 1048576) (n m k : Int) (hn : paramL l 0 1 = n) (hm : paramL l 1 1 = m) (hk : paramL l 0 0 = k) (n1 : 1 ≤ n) (n2 : n ≤ 65535) (m1 : 1 ≤ m) (m2 : m ≤ 65535) (k0 : 0 ≤ k) (k9 : k ≤ 65535) (hb : b = 114) (q : Int) (hq : paramL l 1 s.rows = q) (q1 : 1 ≤ q) (q2 : q ≤ 65535) (hno : ¬ n - 1 < min q s.rows - 1) : Calls Tryz.prog 76 #[v, .int .u8 b, vl] w (ScPost S s w) := by
 have HSS := Lh hS
 clear hS
 obtain ⟨vc, vt, vo, vp, vi, vu, rfl, hs⟩ := h
 have HS := Lh hs
 obtain ⟨A1, kk1, A2, k2, A3, k3, A4, k4, A5, k5, A6, k6, rfl, rfl, rfl, rfl, rfl, rfl, p1, q1, p2, q2, p3, q3, p4, q4, p5, q5, p6, q6⟩ := sslSix hs
 have HI := Lh hi
 obtain ⟨y0, y1, x0, x1, hcl, hrl, c2, r2, hlen⟩ := dIn hi
 have c3 : s.cols ≤ 1000 := by omega
 have r3 : s.rows ≤ 1000 := by omega
 have r4 : 1 ≤ s.rows := by omega
 have c4 : s.x < s.cols := by omega
 have c5 : 1 ≤ s.cols := by omega
 have yr : s.y < s.rows := by omega
 have HN := Lh hn
 have HMM := Lh hm
 have HK := Lh hk
 obtain ⟨Al, kl, rfl, pl, ql⟩ := hl.form
 clear hi hcl hrl hn hm hk
 have h2 := two_new w (.cells (vA s A1 A2 A3 A4 A5 A6 kk1 k2 k3 k4 k5 k6) 30) (.cells zQ 30)
 have HS2 : Hid (∀ x, S x → x < _) := fun x hx => Nat.lt_of_lt_of_le (HSS.out x hx) h2.1.size
 have H2 := Lh h2
 have HL := Lh (hl.keep (fun q hq => h2.1.cell (hT _ hq)))
 have HV := Lh (show SCV _ S (.agg (vA s A1 A2 A3 A4 A5 A6 kk1 k2 k3 k4 k5 k6)) s from ⟨_, _, _, _, _, _, rfl, HS.out.below HSS.out h2.1⟩)
 clear hl hT
 subst hb
 obtain ⟨bt, hbt⟩ : ∃ bt, bt = (if s.rows < q then s.rows else q) := ⟨_, rfl⟩
 have hbt2 : min q s.rows = bt := by rw [hbt]; split <;> omega
 have hbt3 : bt ≤ s.rows := by omega
 have hbt4 : 0 ≤ bt := by omega
 have HBT := Lh hbt
 have HBT2 := Lh hbt2
 have HQ := Lh hq
 clear h2 hbt hbt2 hq
 have hno2 : ¬ n - 1 < bt - 1 := by rw [← HBT2.out]; exact hno
 have hno3 : bt - 1 ≤ n - 1 := by omega
 clear hno hno2
 go_enter Tryz.func76, Tryz.ntmps76
 go_upto_region 2 with (first | ((with_reducible refine (paramr_0 HL.out hl2 HN.out).mono ?_); rintro e w' ⟨rfl, rfl⟩) | ((with_reducible refine (paramr_1 HL.out hl2 HMM.out).mono ?_); rintro e w' ⟨rfl, rfl⟩) | ((with_reducible refine (paramr_0 HL.out hl2 HK.out).mono ?_); rintro e w' ⟨rfl, rfl⟩))
 go_upto_region 41 with fail
 generalize hW2 : World.alloc (World.alloc w _) _ = W2 at *
 have e0 : W2.heap[w.heap.size]? = some (.cells (vA s A1 A2 A3 A4 A5 A6 kk1 k2 k3 k4 k5 k6) 30) := by rw [← hW2]; exact heap_a1 w _ _
 have e1 : W2.heap[w.heap.size + 1]? = some (.cells zQ 30) := by rw [← hW2]; exact heap_a2 w _ _
 have hLd : SL vI W2.drew T (.slice Al l.length kl) l := HL.out
 obtain ⟨a0, n0'⟩ := cellR (w := W2.drew) (v := .int .i64 s.rows) e0 0 rfl
 have K0 := Lh e0
 have K1 := Lh e1
 have HLd := Lh hLd
 clear e0 e1 hLd hW2
 have w1 : IntKind.i64.wrap (n - 1) = n - 1 := IntWalk.i64_in _ (by omega)
 have w2 : IntKind.i64.wrap ((if s.rows < q then s.rows else q) - 1) = (if s.rows < q then s.rows else q) - 1 := IntWalk.i64_in _ (by rw [← HBT.out]; omega)
 go_region_with ((with_reducible refine (paramr_1 HLd.out hl2 HQ.out).mono ?_); rintro e w' ⟨rfl, rfl⟩)
 all_goals
  clear w1 w2
  go_upto_region 42 with fail
  rw [← HBT.out]
  go_upto_region 58 with fail
  refine wp_region_lit ?_
  refine wpl_loadS rfl (.tmp 3) rfl rfl K0.out rfl ?_
  refine wpl_storeS rfl (.tmp 6) (.tmp 272) rfl rfl rfl K1.out rfl rfl all25 ?_
  go_wp2
  refine scEnd (w.heap.size + 1) 6 Tryz.results76 ?_ ?_ K1.out (by omega) H2.out.1.drew HSS.out (HS.out.like ?_ ?_ ?_ ?_)
  all_goals rfl
theorem seqr_ryes (v vl : Value) (s : Sc) (l : List Int) (b : Int) (r c : Nat) (S T : Nat → Prop) (w : World) (hS : ∀ x, S x → x < w.heap.size) (hT : ∀ x, T x → x < w.heap.size) (h : SCV w S v s) (hi : ScIn s r c) (hl : SL vI w T vl l) (hl2 : l.length ≤ 1048576) (n m k : Int) (hn : paramL l 0 1 = n) (hm : paramL l 1 1 = m) (hk : paramL l 0 0 = k) (n1 : 1 ≤ n) (n2 : n ≤ 65535) (m1 : 1 ≤ m) (m2 : m ≤ 65535) (k0 : 0 ≤ k) (k9 : k ≤ 65535) (hb : b = 114) (q : Int) (hq : paramL l 1 s.rows = q) (q1 : 1 ≤ q) (q2 : q ≤ 65535) (hno : n - 1 < min q s.rows - 1) : Calls Tryz.prog 76 #[v, .int .u8 b, vl] w (ScPost S { toS s 0 0 with top := n - 1, bottom := min q s.rows - 1 } w) := by
 have HSS := Lh hS
 clear hS
 obtain ⟨vc, vt, vo, vp, vi, vu, rfl, hs⟩ := h
 have HS := Lh hs
 obtain ⟨A1, kk1, A2, k2, A3, k3, A4, k4, A5, k5, A6, k6, rfl, rfl, rfl, rfl, rfl, rfl, p1, q1, p2, q2, p3, q3, p4, q4, p5, q5, p6, q6⟩ := sslSix hs
 have HI := Lh hi
 obtain ⟨y0, y1, x0, x1, hcl, hrl, c2, r2, hlen⟩ := dIn hi
 have c3 : s.cols ≤ 1000 := by omega
 have r3 : s.rows ≤ 1000 := by omega
 have r4 : 1 ≤ s.rows := by omega
 have c4 : s.x < s.cols := by omega
 have c5 : 1 ≤ s.cols := by omega
 have yr : s.y < s.rows := by omega
 have HN := Lh hn
 have HMM := Lh hm
 have HK := Lh hk
 obtain ⟨Al, kl, rfl, pl, ql⟩ := hl.form
 clear hi hcl hrl hn hm hk
 have h2 := two_new w (.cells (vA s A1 A2 A3 A4 A5 A6 kk1 k2 k3 k4 k5 k6) 30) (.cells zQ 30)
 have HS2 : Hid (∀ x, S x → x < _) := fun x hx => Nat.lt_of_lt_of_le (HSS.out x hx) h2.1.size
 have H2 := Lh h2
 have HL := Lh (hl.keep (fun q hq => h2.1.cell (hT _ hq)))
 have HV := Lh (show SCV _ S (.agg (vA s A1 A2 A3 A4 A5 A6 kk1 k2 k3 k4 k5 k6)) s from ⟨_, _, _, _, _, _, rfl, HS.out.below HSS.out h2.1⟩)
 clear hl hT
 subst hb
 obtain ⟨bt, hbt⟩ : ∃ bt, bt = (if s.rows < q then s.rows else q) := ⟨_, rfl⟩
 have hbt2 : min q s.rows = bt := by rw [hbt]; split <;> omega
 have hbt3 : bt ≤ s.rows := by omega
 have hbt4 : 0 ≤ bt := by omega
 have HBT := Lh hbt
 have HBT2 := Lh hbt2
 have HQ := Lh hq
 clear h2 hbt hbt2 hq
 have hno2 : n - 1 < bt - 1 := by rw [← HBT2.out]; exact hno
 rw [HBT2.out]
 clear hno
 go_enter Tryz.func76, Tryz.ntmps76
 go_upto_region 2 with (first | ((with_reducible refine (paramr_0 HL.out hl2 HN.out).mono ?_); rintro e w' ⟨rfl, rfl⟩) | ((with_reducible refine (paramr_1 HL.out hl2 HMM.out).mono ?_); rintro e w' ⟨rfl, rfl⟩) | ((with_reducible refine (paramr_0 HL.out hl2 HK.out).mono ?_); rintro e w' ⟨rfl, rfl⟩))
 go_upto_region 41 with fail
 generalize hW2 : World.alloc (World.alloc w _) _ = W2 at *
 have e0 : W2.heap[w.heap.size]? = some (.cells (vA s A1 A2 A3 A4 A5 A6 kk1 k2 k3 k4 k5 k6) 30) := by rw [← hW2]; exact heap_a1 w _ _
 have e1 : W2.heap[w.heap.size + 1]? = some (.cells zQ 30) := by rw [← hW2]; exact heap_a2 w _ _
 have hLd : SL vI W2.drew T (.slice Al l.length kl) l := HL.out
 obtain ⟨a0, n0'⟩ := cellR (w := W2.drew) (v := .int .i64 s.rows) e0 0 rfl
 have K0 := Lh e0
 have K1 := Lh e1
 have HLd := Lh hLd
 clear e0 e1 hLd hW2
 have w1 : IntKind.i64.wrap (n - 1) = n - 1 := IntWalk.i64_in _ (by omega)
 have w2 : IntKind.i64.wrap ((if s.rows < q then s.rows else q) - 1) = (if s.rows < q then s.rows else q) - 1 := IntWalk.i64_in _ (by rw [← HBT.out]; omega)
 go_region_with ((with_reducible refine (paramr_1 HLd.out hl2 HQ.out).mono ?_); rintro e w' ⟨rfl, rfl⟩)
 all_goals
  clear w1 w2
  go_upto_region 42 with fail
  rw [← HBT.out]
  have hz2 := H2.out.2
  have hVd : SCV W2.drew S (.agg (vA s A1 A2 A3 A4 A5 A6 kk1 k2 k3 k4 k5 k6)) s := HV.out
  have HVd := Lh hVd
  have HSd : Hid (∀ x, S x → x < W2.drew.heap.size) := HS2.out
  clear hVd
  go_upto_region 43 with fail
  refine wp_region_lit ?_
  refine wpl_loadS rfl (.tmp 3) rfl rfl K0.out rfl ?_
  go_wp2_with fail
  ((with_reducible refine (tor_any _ s 0 0 S _ HSd.out HVd.out r4 r3 c5 c3).mono ?_); rintro e w4 ⟨v4, rfl, hv4, b4⟩)
  have z4 : W2.heap.size ≤ w4.heap.size := b4.size
  obtain ⟨uc, ut, uo, up, ui, uu, rfl, hs4⟩ := hv4
  have e0 : w4.heap[w.heap.size]? = _ := (b4.block _ (by show w.heap.size < W2.heap.size; omega)).trans K0.out
  have e1 : w4.heap[w.heap.size + 1]? = _ := (b4.block _ (by show w.heap.size + 1 < W2.heap.size; omega)).trans K1.out
  rename_i K hK
  refine hK _ _ ?_
  clear hK
  refine wpl_storeS rfl (.tmp 3) (.tmp 224) rfl rfl rfl e0 rfl rfl hs4.one ?_
  obtain ⟨W5, hW5⟩ : ∃ W5, W5 = w4.setRow w.heap.size (vS (toS s 0 0) uc ut uo up ui uu) := ⟨_, rfl⟩
  rw [← hW5]
  have k5 : W5.heap[w.heap.size]? = some (.cells (vS (toS s 0 0) uc ut uo up ui uu) 30) := by rw [hW5]; exact heap_setRow_same e0
  have o5 : ∀ b, b ≠ w.heap.size → W5.heap[b]? = w4.heap[b]? := fun b hb => by rw [hW5]; exact heap_setRow_other (fun e => hb e.symm)
  have z5 : W5.heap.size = w4.heap.size := by rw [hW5, size_setRow]
  have b5 : Below w.heap.size w W5 := by rw [hW5]; exact below_setRow (H2.out.1.drew.trans (b4.mono (by show w.heap.size ≤ W2.heap.size; omega))) (Nat.le_refl _) _
  obtain ⟨c7, f7⟩ := cellR k5 7 rfl
  obtain ⟨c8, f8⟩ := cellR k5 8 rfl
  have K5 := Lh k5
  have O5 := Lh o5
  have B5 := Lh b5
  have Z5 := Lh z5
  have HS4 := Lh hs4
  have E1 := Lh e1
  clear k5 o5 b5 z5 hs4 hW5 e0 e1 b4
  go_simp
  go_upto_region 58 with fail
  refine wp_region_lit ?_
  refine wpl_loadS rfl (.tmp 3) rfl rfl ((heap_setCell_same _ _ 8 _ _ _ ((heap_setCell_same _ _ 7 _ _ _ K5.out).trans rfl)).trans rfl) rfl ?_
  have e1 := (heap_setCell_other (W5.setCell ⟨w.heap.size, 7, none⟩ (.int .i64 (n - 1))) ⟨w.heap.size, 8, none⟩ (w.heap.size + 1) (.int .i64 (bt - 1)) (by simp)).trans ((heap_setCell_other _ _ _ _ (by simp)).trans ((O5.out _ (by omega)).trans E1.out))
  have hsW : SSl ((W5.setCell ⟨w.heap.size, 7, none⟩ (.int .i64 (n - 1))).setCell ⟨w.heap.size, 8, none⟩ (.int .i64 (bt - 1))) _ { toS s 0 0 with top := n - 1, bottom := bt - 1 } uc ut uo up ui uu := (HS4.out.keep (fun q hq => World.cell?_of_block ((heap_setCell_other _ _ _ _ (by
    rcases hq with h | h
    ·have := HSS.out _ h; simp; omega
    ·have h1 : W2.heap.size ≤ q.block := h.1; simp; omega)).trans ((heap_setCell_other _ _ _ _ (by
    rcases hq with h | h
    ·have := HSS.out _ h; simp; omega
    ·have h1 : W2.heap.size ≤ q.block := h.1; simp; omega)).trans (O5.out _ (by
    rcases hq with h | h
    ·have := HSS.out _ h; omega
    ·have h1 : W2.heap.size ≤ q.block := h.1; omega)))))).like rfl rfl rfl rfl
  refine wpl_storeS rfl (.tmp 6) (.tmp 272) rfl rfl rfl e1 rfl rfl (hsW.one (s' := { toS s 0 0 with top := n - 1, bottom := bt - 1 })) ?_
  go_wp2
  refine scEndV (w.heap.size + 1) 6 Tryz.results76 ?_ ?_ e1 (by omega) ((B5.out.setCell (by simp) _).setCell (by simp) _) HSS.out hsW (fun x hx => ?_)
  ·rfl
  ·rfl
  rcases hx with h | h
  ·exact .inl h
  ·have h1 : W2.heap.size ≤ x := h.1
   have h3 := h.2
   exact .inr ⟨by omega, by simp; rw [Z5.out]; omega⟩
theorem seqr_any (v vl : Value) (s : Sc) (l : List Int) (b : Nat) (r c : Nat) (S T : Nat → Prop) (w : World) (hS : ∀ x, S x → x < w.heap.size) (hT : ∀ x, T x → x < w.heap.size) (h : SCV w S v s) (hi : ScIn s r c) (hl : SL vI w T vl l) (hl2 : l.length ≤ 1048576) (hp : ∀ x ∈ l, 0 ≤ x ∧ x ≤ 65535) :
  Calls Tryz.prog 76 #[v, .int .u8 (b : Int), vl] w (ScPost S (seqS s b l) w) := by
 obtain ⟨n, hn⟩ : ∃ n, paramL l 0 1 = n := ⟨_, rfl⟩
 obtain ⟨m, hm⟩ : ∃ m, paramL l 1 1 = m := ⟨_, rfl⟩
 obtain ⟨k, hk⟩ : ∃ k, paramL l 0 0 = k := ⟨_, rfl⟩
 obtain ⟨q, hq⟩ : ∃ q, paramL l 1 s.rows = q := ⟨_, rfl⟩
 have rr := hi.rows
 have r1 := hi.g.r1
 have r2 := hi.g.r2
 have n1 : 1 ≤ n := by have := paramL_bd hp 0 1 (by omega) (by omega); omega
 have n2 : n ≤ 65535 := by have := paramL_hi hp 0 1 (by omega) (by omega); omega
 have m1 : 1 ≤ m := by have := paramL_bd hp 1 1 (by omega) (by omega); omega
 have m2 : m ≤ 65535 := by have := paramL_hi hp 1 1 (by omega) (by omega); omega
 have k0 : 0 ≤ k := by have := paramL_hi hp 0 0 (by omega) (by omega); omega
 have k9 : k ≤ 65535 := by have := paramL_hi hp 0 0 (by omega) (by omega); omega
 have q1 : 1 ≤ q := by have := paramL_bd hp 1 s.rows (by omega) (by omega); omega
 have q2 : q ≤ 65535 := by have := paramL_hi hp 1 s.rows (by omega) (by omega); omega
 unfold seqS
 simp only [hn, hm, hk, hq]
 by_cases c1 : b = 65
 ·rw [if_pos c1]
  exact seqr_65 v vl s l b r c S T w hS hT h hi hl hl2 n m k hn hm hk n1 n2 m1 m2 k0 k9 (by omega)
 rw [if_neg c1]
 by_cases c2 : b = 66
 ·rw [if_pos c2]
  exact seqr_66 v vl s l b r c S T w hS hT h hi hl hl2 n m k hn hm hk n1 n2 m1 m2 k0 k9 (by omega)
 rw [if_neg c2]
 by_cases c3 : b = 67
 ·rw [if_pos c3]
  exact seqr_67 v vl s l b r c S T w hS hT h hi hl hl2 n m k hn hm hk n1 n2 m1 m2 k0 k9 (by omega)
 rw [if_neg c3]
 by_cases c4 : b = 68
 ·rw [if_pos c4]
  exact seqr_68 v vl s l b r c S T w hS hT h hi hl hl2 n m k hn hm hk n1 n2 m1 m2 k0 k9 (by omega)
 rw [if_neg c4]
 by_cases c5 : b = 71 ∨ b = 96
 ·rw [if_pos c5]
  exact seqr_71 v vl s l b r c S T w hS hT h hi hl hl2 n m k hn hm hk n1 n2 m1 m2 k0 k9 (by omega)
 rw [if_neg c5]
 by_cases c6 : b = 100
 ·rw [if_pos c6]
  exact seqr_100 v vl s l b r c S T w hS hT h hi hl hl2 n m k hn hm hk n1 n2 m1 m2 k0 k9 (by omega)
 rw [if_neg c6]
 by_cases c7 : b = 72 ∨ b = 102
 ·rw [if_pos c7]
  exact seqr_72 v vl s l b r c S T w hS hT h hi hl hl2 n m k hn hm hk n1 n2 m1 m2 k0 k9 (by omega)
 rw [if_neg c7]
 by_cases c8 : b = 74
 ·rw [if_pos c8]
  exact seqr_74 v vl s l b r c S T w hS hT h hi hl hl2 n m k hn hm hk n1 n2 m1 m2 k0 k9 (by omega)
 rw [if_neg c8]
 by_cases c9 : b = 75
 ·rw [if_pos c9]
  exact seqr_75 v vl s l b r c S T w hS hT h hi hl hl2 n m k hn hm hk n1 n2 m1 m2 k0 k9 (by omega)
 rw [if_neg c9]
 by_cases c10 : b = 76
 ·rw [if_pos c10]
  by_cases hy : s.top ≤ s.y ∧ s.y ≤ s.bottom
  ·rw [if_pos hy]; exact seqr_76 v vl s l b r c S T w hS hT h hi hl hl2 n m k hn hm hk n1 n2 m1 m2 k0 k9 (by omega) hy.1 hy.2
  ·rw [if_neg hy]; exact seqr_lm v vl s l b r c S T w hS hT h hi hl hl2 n m k hn hm hk n1 n2 m1 m2 k0 k9 (by omega) hy
 rw [if_neg c10]
 by_cases c11 : b = 77
 ·rw [if_pos c11]
  by_cases hy : s.top ≤ s.y ∧ s.y ≤ s.bottom
  ·rw [if_pos hy]; exact seqr_77 v vl s l b r c S T w hS hT h hi hl hl2 n m k hn hm hk n1 n2 m1 m2 k0 k9 (by omega) hy.1 hy.2
  ·rw [if_neg hy]; exact seqr_lm v vl s l b r c S T w hS hT h hi hl hl2 n m k hn hm hk n1 n2 m1 m2 k0 k9 (by omega) hy
 rw [if_neg c11]
 by_cases c12 : b = 64
 ·rw [if_pos c12]
  exact seqr_64 v vl s l b r c S T w hS hT h hi hl hl2 n m k hn hm hk n1 n2 m1 m2 k0 k9 (by omega)
 rw [if_neg c12]
 by_cases c13 : b = 80
 ·rw [if_pos c13]
  exact seqr_80 v vl s l b r c S T w hS hT h hi hl hl2 n m k hn hm hk n1 n2 m1 m2 k0 k9 (by omega)
 rw [if_neg c13]
 by_cases c14 : b = 88
 ·rw [if_pos c14]
  exact seqr_88 v vl s l b r c S T w hS hT h hi hl hl2 n m k hn hm hk n1 n2 m1 m2 k0 k9 (by omega)
 rw [if_neg c14]
 by_cases c15 : b = 83
 ·rw [if_pos c15]
  exact seqr_83 v vl s l b r c S T w hS hT h hi hl hl2 n m k hn hm hk n1 n2 m1 m2 k0 k9 (by omega)
 rw [if_neg c15]
 by_cases c16 : b = 84
 ·rw [if_pos c16]
  exact seqr_84 v vl s l b r c S T w hS hT h hi hl hl2 n m k hn hm hk n1 n2 m1 m2 k0 k9 (by omega)
 rw [if_neg c16]
 by_cases c17 : b = 114
 ·rw [if_pos c17]
  by_cases hy : n - 1 < min q s.rows - 1
  ·rw [if_pos hy]; exact seqr_ryes v vl s l b r c S T w hS hT h hi hl hl2 n m k hn hm hk n1 n2 m1 m2 k0 k9 (by omega) q hq q1 q2 hy
  ·rw [if_neg hy]; exact seqr_rno v vl s l b r c S T w hS hT h hi hl hl2 n m k hn hm hk n1 n2 m1 m2 k0 k9 (by omega) q hq q1 q2 hy
 rw [if_neg c17]
 by_cases c18 : b = 103
 ·rw [if_pos c18]
  by_cases g0 : k = 0
  ·rw [if_pos g0]; exact seqr_g0 v vl s l b r c S T w hS hT h hi hl hl2 n m k hn hm hk n1 n2 m1 m2 k0 k9 (by omega) g0
  rw [if_neg g0]
  by_cases g3 : k = 3
  ·rw [if_pos g3]; exact seqr_g3 v vl s l b r c S T w hS hT h hi hl hl2 n m k hn hm hk n1 n2 m1 m2 k0 k9 (by omega) g3
  rw [if_neg g3]
  exact seqr_gno v vl s l b r c S T w hS hT h hi hl hl2 n m k hn hm hk n1 n2 m1 m2 k0 k9 (by omega) g0 g3
 rw [if_neg c18]
 by_cases c19 : b = 109
 ·rw [if_pos c19]
  by_cases hl0 : l.length = 0
  ·rw [if_pos hl0]
   have e : l.foldl lookN 0 = 0 := by rw [List.eq_nil_of_length_eq_zero hl0]; rfl
   have := seqr_m0 v vl s l b r c S T w hS hT h hi hl hl2 n m k hn hm hk n1 n2 m1 m2 k0 k9 (by omega) hp hl0
   rw [e] at this
   exact this
  ·rw [if_neg hl0]; exact seqr_m1 v vl s l b r c S T w hS hT h hi hl hl2 n m k hn hm hk n1 n2 m1 m2 k0 k9 (by omega) hp hl0
 rw [if_neg c19]
 exact seqr_no v vl s l b r c S T w hS hT h hi hl hl2 n m k hn hm hk n1 n2 m1 m2 k0 k9 (by omega)
theorem tri_new (w : World) (x y z : Obj) : Below w.heap.size w (((w.alloc x).alloc y).alloc z) ∧ (((w.alloc x).alloc y).alloc z).heap.size = w.heap.size + 1 + 1 + 1 :=
 ⟨(two_new w x y).1.alloc (by simp; omega) z, by simp⟩
theorem heap_b1 (w : World) (x y z : Obj) : (((w.alloc x).alloc y).alloc z).heap[w.heap.size]? = some x := (heap_al _ _ _ (by simp; omega)).trans (heap_a1 w x y)
theorem heap_b2 (w : World) (x y z : Obj) : (((w.alloc x).alloc y).alloc z).heap[w.heap.size + 1]? = some y := (heap_al _ _ _ (by simp)).trans (heap_a2 w x y)
theorem heap_b3 (w : World) (x y z : Obj) : (((w.alloc x).alloc y).alloc z).heap[w.heap.size + 1 + 1]? = some z := by
 have := heap_alloc_new ((w.alloc x).alloc y) z
 rw [(two_new w x y).2] at this
 exact this
theorem dor_0 (v vp vi : Value) (s : Sc) (a : Ac) (r c : Nat) (S T : Nat → Prop) (w : World) (hS : ∀ x, S x → x < w.heap.size) (hT : ∀ x, T x → x < w.heap.size) (h : SCV w S v s) (hi : ScIn s r c) (hap : SL vI w T vp a.params) (hai : SL vB w T vi a.inter) (hp2 : a.params.length ≤ 1048576) (hk : a.kind = 0) (r0 : -2147483648 ≤ a.r) (r1 : a.r ≤ 2147483647) : Calls Tryz.prog 42 #[v, .agg #[.int .i64 (a.kind : Int), .int .i32 a.r, .int .u8 (a.b : Int), .int .u8 (a.priv : Int), vp, vi]] w (ScPost S (printS s a.r) w) := by
 have HSS := Lh hS
 clear hS
 obtain ⟨vc, vt, vo, vp, vi, vu, rfl, hs⟩ := h
 have HS := Lh hs
 obtain ⟨A1, kk1, A2, k2, A3, k3, A4, k4, A5, k5, A6, k6, rfl, rfl, rfl, rfl, rfl, rfl, p1, q1, p2, q2, p3, q3, p4, q4, p5, q5, p6, q6⟩ := sslSix hs
 have HI := Lh hi
 obtain ⟨Ap, kp, rfl, pp1, pp2⟩ := hap.form
 obtain ⟨Ai, ki, rfl, pi1, pi2⟩ := hai.form
 have h3 := tri_new w (.cells (vA s A1 A2 A3 A4 A5 A6 kk1 k2 k3 k4 k5 k6) 30) (.cells #[.int .i64 (a.kind : Int), .int .i32 a.r, .int .u8 (a.b : Int), .int .u8 (a.priv : Int), .slice Ap a.params.length kp, .slice Ai a.inter.length ki] 85) (.cells zQ 30)
 have HS3 : Hid (∀ x, S x → x < _) := fun x hx => Nat.lt_of_lt_of_le (HSS.out x hx) h3.1.size
 have HT3 : Hid (∀ x, T x → x < _) := fun x hx => Nat.lt_of_lt_of_le (hT x hx) h3.1.size
 have HV := Lh (show SCV _ S (.agg (vA s A1 A2 A3 A4 A5 A6 kk1 k2 k3 k4 k5 k6)) s from ⟨_, _, _, _, _, _, rfl, HS.out.below HSS.out h3.1⟩)
 have HP := Lh (hap.keep (fun q hq => h3.1.cell (hT _ hq)))
 have H3 := Lh h3
 clear hi hap hai hT h3
 have kb0 : ((a.kind : Int) == 0) = true := by simp; omega
 have HKK := Lh hk
 clear hk
 go_enter Tryz.func42, Tryz.ntmps42
 go_upto_region 3 with fail
 refine wp_region_lit ?_
 refine wpl_loadS rfl (.tmp 2) rfl rfl (heap_b1 w _ _ _) rfl ?_
 go_wp2_with fail
 ((with_reducible refine (printr_any _ s a.r r c S _ HS3.out HV.out HI.out r0 r1).mono ?_); rintro e w4 ⟨v4, rfl, hv4, b4⟩)
 have z4 := b4.size
 rw [H3.out.2] at z4
 have e2 := (b4.block (w.heap.size + 1 + 1) (by rw [H3.out.2]; omega)).trans (heap_b3 w _ _ _)
 obtain ⟨uc, ut, uo, up, ui, uu, rfl, hs4⟩ := hv4
 rename_i K hK
 refine hK _ _ ?_
 refine wpl_storeS rfl (.tmp 4) (.tmp 13) rfl rfl rfl e2 rfl rfl hs4.one ?_
 go_wp2
 refine scEndV (w.heap.size + 1 + 1) 4 Tryz.results42 ?_ ?_ e2 (by omega) (H3.out.1.trans (b4.mono (by rw [H3.out.2]; omega))) HSS.out hs4 (fun x hx => ?_)
 ·rfl
 ·rfl
 rcases hx with h | h
 ·exact .inl h
 ·have := h.1
  rw [H3.out.2] at this
  exact .inr ⟨by omega, h.2⟩
theorem dor_1 (v vp vi : Value) (s : Sc) (a : Ac) (r c : Nat) (S T : Nat → Prop) (w : World) (hS : ∀ x, S x → x < w.heap.size) (hT : ∀ x, T x → x < w.heap.size) (h : SCV w S v s) (hi : ScIn s r c) (hap : SL vI w T vp a.params) (hai : SL vB w T vi a.inter) (hp2 : a.params.length ≤ 1048576) (hk : a.kind = 1) : Calls Tryz.prog 42 #[v, .agg #[.int .i64 (a.kind : Int), .int .i32 a.r, .int .u8 (a.b : Int), .int .u8 (a.priv : Int), vp, vi]] w (ScPost S (controlS s a.b) w) := by
 have HSS := Lh hS
 clear hS
 obtain ⟨vc, vt, vo, vp, vi, vu, rfl, hs⟩ := h
 have HS := Lh hs
 obtain ⟨A1, kk1, A2, k2, A3, k3, A4, k4, A5, k5, A6, k6, rfl, rfl, rfl, rfl, rfl, rfl, p1, q1, p2, q2, p3, q3, p4, q4, p5, q5, p6, q6⟩ := sslSix hs
 have HI := Lh hi
 obtain ⟨Ap, kp, rfl, pp1, pp2⟩ := hap.form
 obtain ⟨Ai, ki, rfl, pi1, pi2⟩ := hai.form
 have h3 := tri_new w (.cells (vA s A1 A2 A3 A4 A5 A6 kk1 k2 k3 k4 k5 k6) 30) (.cells #[.int .i64 (a.kind : Int), .int .i32 a.r, .int .u8 (a.b : Int), .int .u8 (a.priv : Int), .slice Ap a.params.length kp, .slice Ai a.inter.length ki] 85) (.cells zQ 30)
 have HS3 : Hid (∀ x, S x → x < _) := fun x hx => Nat.lt_of_lt_of_le (HSS.out x hx) h3.1.size
 have HT3 : Hid (∀ x, T x → x < _) := fun x hx => Nat.lt_of_lt_of_le (hT x hx) h3.1.size
 have HV := Lh (show SCV _ S (.agg (vA s A1 A2 A3 A4 A5 A6 kk1 k2 k3 k4 k5 k6)) s from ⟨_, _, _, _, _, _, rfl, HS.out.below HSS.out h3.1⟩)
 have HP := Lh (hap.keep (fun q hq => h3.1.cell (hT _ hq)))
 have H3 := Lh h3
 clear hi hap hai hT h3
 have kb0 : ((a.kind : Int) == 0) = false := by simp; omega
 have kb1 : ((a.kind : Int) == 1) = true := by simp; omega
 have HKK := Lh hk
 clear hk
 go_enter Tryz.func42, Tryz.ntmps42
 go_upto_region 5 with fail
 refine wp_region_lit ?_
 refine wpl_loadS rfl (.tmp 2) rfl rfl (heap_b1 w _ _ _) rfl ?_
 go_wp2_with fail
 ((with_reducible refine (controlr_any _ s a.b r c S _ HS3.out HV.out HI.out).mono ?_); rintro e w4 ⟨v4, rfl, hv4, b4⟩)
 have z4 := b4.size
 rw [H3.out.2] at z4
 have e2 := (b4.block (w.heap.size + 1 + 1) (by rw [H3.out.2]; omega)).trans (heap_b3 w _ _ _)
 obtain ⟨uc, ut, uo, up, ui, uu, rfl, hs4⟩ := hv4
 rename_i K hK
 refine hK _ _ ?_
 refine wpl_storeS rfl (.tmp 4) (.tmp 19) rfl rfl rfl e2 rfl rfl hs4.one ?_
 go_wp2
 refine scEndV (w.heap.size + 1 + 1) 4 Tryz.results42 ?_ ?_ e2 (by omega) (H3.out.1.trans (b4.mono (by rw [H3.out.2]; omega))) HSS.out hs4 (fun x hx => ?_)
 ·rfl
 ·rfl
 rcases hx with h | h
 ·exact .inl h
 ·have := h.1
  rw [H3.out.2] at this
  exact .inr ⟨by omega, h.2⟩
theorem dor_2 (v vp vi : Value) (s : Sc) (a : Ac) (r c : Nat) (S T : Nat → Prop) (w : World) (hS : ∀ x, S x → x < w.heap.size) (hT : ∀ x, T x → x < w.heap.size) (h : SCV w S v s) (hi : ScIn s r c) (hap : SL vI w T vp a.params) (hai : SL vB w T vi a.inter) (hp2 : a.params.length ≤ 1048576) (hk : a.kind = 2) (hi0 : a.inter.length = 0) : Calls Tryz.prog 42 #[v, .agg #[.int .i64 (a.kind : Int), .int .i32 a.r, .int .u8 (a.b : Int), .int .u8 (a.priv : Int), vp, vi]] w (ScPost S (escapeS s a.b) w) := by
 have HSS := Lh hS
 clear hS
 obtain ⟨vc, vt, vo, vp, vi, vu, rfl, hs⟩ := h
 have HS := Lh hs
 obtain ⟨A1, kk1, A2, k2, A3, k3, A4, k4, A5, k5, A6, k6, rfl, rfl, rfl, rfl, rfl, rfl, p1, q1, p2, q2, p3, q3, p4, q4, p5, q5, p6, q6⟩ := sslSix hs
 have HI := Lh hi
 obtain ⟨Ap, kp, rfl, pp1, pp2⟩ := hap.form
 obtain ⟨Ai, ki, rfl, pi1, pi2⟩ := hai.form
 have h3 := tri_new w (.cells (vA s A1 A2 A3 A4 A5 A6 kk1 k2 k3 k4 k5 k6) 30) (.cells #[.int .i64 (a.kind : Int), .int .i32 a.r, .int .u8 (a.b : Int), .int .u8 (a.priv : Int), .slice Ap a.params.length kp, .slice Ai a.inter.length ki] 85) (.cells zQ 30)
 have HS3 : Hid (∀ x, S x → x < _) := fun x hx => Nat.lt_of_lt_of_le (HSS.out x hx) h3.1.size
 have HT3 : Hid (∀ x, T x → x < _) := fun x hx => Nat.lt_of_lt_of_le (hT x hx) h3.1.size
 have HV := Lh (show SCV _ S (.agg (vA s A1 A2 A3 A4 A5 A6 kk1 k2 k3 k4 k5 k6)) s from ⟨_, _, _, _, _, _, rfl, HS.out.below HSS.out h3.1⟩)
 have HP := Lh (hap.keep (fun q hq => h3.1.cell (hT _ hq)))
 have H3 := Lh h3
 clear hi hap hai hT h3
 have kb0 : ((a.kind : Int) == 0) = false := by simp; omega
 have kb1 : ((a.kind : Int) == 1) = false := by simp; omega
 have kb2 : ((a.kind : Int) == 2) = true := by simp; omega
 have HKK := Lh hk
 clear hk
 have ib : ((a.inter.length : Int) == 0) = true := beq_iff_eq.2 (by omega)
 have HI0 := Lh hi0
 clear hi0
 go_enter Tryz.func42, Tryz.ntmps42
 go_upto_region 8 with fail
 refine wp_region_lit ?_
 refine wpl_loadS rfl (.tmp 2) rfl rfl (heap_b1 w _ _ _) rfl ?_
 go_wp2_with fail
 ((with_reducible refine (escaper_any _ s a.b r c S _ HS3.out HV.out HI.out).mono ?_); rintro e w4 ⟨v4, rfl, hv4, b4⟩)
 have z4 := b4.size
 rw [H3.out.2] at z4
 have e2 := (b4.block (w.heap.size + 1 + 1) (by rw [H3.out.2]; omega)).trans (heap_b3 w _ _ _)
 obtain ⟨uc, ut, uo, up, ui, uu, rfl, hs4⟩ := hv4
 rename_i K hK
 refine hK _ _ ?_
 refine wpl_storeS rfl (.tmp 4) (.tmp 29) rfl rfl rfl e2 rfl rfl hs4.one ?_
 go_wp2
 refine scEndV (w.heap.size + 1 + 1) 4 Tryz.results42 ?_ ?_ e2 (by omega) (H3.out.1.trans (b4.mono (by rw [H3.out.2]; omega))) HSS.out hs4 (fun x hx => ?_)
 ·rfl
 ·rfl
 rcases hx with h | h
 ·exact .inl h
 ·have := h.1
  rw [H3.out.2] at this
  exact .inr ⟨by omega, h.2⟩
theorem dor_2n (v vp vi : Value) (s : Sc) (a : Ac) (r c : Nat) (S T : Nat → Prop) (w : World) (hS : ∀ x, S x → x < w.heap.size) (hT : ∀ x, T x → x < w.heap.size) (h : SCV w S v s) (hi : ScIn s r c) (hap : SL vI w T vp a.params) (hai : SL vB w T vi a.inter) (hp2 : a.params.length ≤ 1048576) (hk : a.kind = 2) (hi0 : ¬ a.inter.length = 0) : Calls Tryz.prog 42 #[v, .agg #[.int .i64 (a.kind : Int), .int .i32 a.r, .int .u8 (a.b : Int), .int .u8 (a.priv : Int), vp, vi]] w (ScPost S s w) := by
 have HSS := Lh hS
 clear hS
 obtain ⟨vc, vt, vo, vp, vi, vu, rfl, hs⟩ := h
 have HS := Lh hs
 obtain ⟨A1, kk1, A2, k2, A3, k3, A4, k4, A5, k5, A6, k6, rfl, rfl, rfl, rfl, rfl, rfl, p1, q1, p2, q2, p3, q3, p4, q4, p5, q5, p6, q6⟩ := sslSix hs
 have HI := Lh hi
 obtain ⟨Ap, kp, rfl, pp1, pp2⟩ := hap.form
 obtain ⟨Ai, ki, rfl, pi1, pi2⟩ := hai.form
 have h3 := tri_new w (.cells (vA s A1 A2 A3 A4 A5 A6 kk1 k2 k3 k4 k5 k6) 30) (.cells #[.int .i64 (a.kind : Int), .int .i32 a.r, .int .u8 (a.b : Int), .int .u8 (a.priv : Int), .slice Ap a.params.length kp, .slice Ai a.inter.length ki] 85) (.cells zQ 30)
 have HS3 : Hid (∀ x, S x → x < _) := fun x hx => Nat.lt_of_lt_of_le (HSS.out x hx) h3.1.size
 have HT3 : Hid (∀ x, T x → x < _) := fun x hx => Nat.lt_of_lt_of_le (hT x hx) h3.1.size
 have HV := Lh (show SCV _ S (.agg (vA s A1 A2 A3 A4 A5 A6 kk1 k2 k3 k4 k5 k6)) s from ⟨_, _, _, _, _, _, rfl, HS.out.below HSS.out h3.1⟩)
 have HP := Lh (hap.keep (fun q hq => h3.1.cell (hT _ hq)))
 have H3 := Lh h3
 clear hi hap hai hT h3
 have kb0 : ((a.kind : Int) == 0) = false := by simp; omega
 have kb1 : ((a.kind : Int) == 1) = false := by simp; omega
 have kb2 : ((a.kind : Int) == 2) = true := by simp; omega
 have HKK := Lh hk
 clear hk
 have ib : ((a.inter.length : Int) == 0) = false := bF (by omega)
 clear hi0
 go_enter Tryz.func42, Tryz.ntmps42
 go_upto_region 20 with fail
 refine wp_region_lit ?_
 refine wpl_loadS rfl (.tmp 2) rfl rfl (heap_b1 w _ _ _) rfl ?_
 refine wpl_storeS rfl (.tmp 4) (.tmp 77) rfl rfl rfl (heap_b3 w _ _ _) rfl rfl all25 ?_
 go_wp2
 refine scEnd (w.heap.size + 1 + 1) 4 Tryz.results42 ?_ ?_ (heap_b3 w _ _ _) (by omega) (tri_new w _ _ _).1 HSS.out (HS.out.like ?_ ?_ ?_ ?_)
 all_goals rfl
theorem dor_3i (v vp vi : Value) (s : Sc) (a : Ac) (r c : Nat) (S T : Nat → Prop) (w : World) (hS : ∀ x, S x → x < w.heap.size) (hT : ∀ x, T x → x < w.heap.size) (h : SCV w S v s) (hi : ScIn s r c) (hap : SL vI w T vp a.params) (hai : SL vB w T vi a.inter) (hp2 : a.params.length ≤ 1048576) (hk : a.kind = 3) (hi0 : 0 < a.inter.length) : Calls Tryz.prog 42 #[v, .agg #[.int .i64 (a.kind : Int), .int .i32 a.r, .int .u8 (a.b : Int), .int .u8 (a.priv : Int), vp, vi]] w (ScPost S s w) := by
 have HSS := Lh hS
 clear hS
 obtain ⟨vc, vt, vo, vp, vi, vu, rfl, hs⟩ := h
 have HS := Lh hs
 obtain ⟨A1, kk1, A2, k2, A3, k3, A4, k4, A5, k5, A6, k6, rfl, rfl, rfl, rfl, rfl, rfl, p1, q1, p2, q2, p3, q3, p4, q4, p5, q5, p6, q6⟩ := sslSix hs
 have HI := Lh hi
 obtain ⟨Ap, kp, rfl, pp1, pp2⟩ := hap.form
 obtain ⟨Ai, ki, rfl, pi1, pi2⟩ := hai.form
 have h3 := tri_new w (.cells (vA s A1 A2 A3 A4 A5 A6 kk1 k2 k3 k4 k5 k6) 30) (.cells #[.int .i64 (a.kind : Int), .int .i32 a.r, .int .u8 (a.b : Int), .int .u8 (a.priv : Int), .slice Ap a.params.length kp, .slice Ai a.inter.length ki] 85) (.cells zQ 30)
 have HS3 : Hid (∀ x, S x → x < _) := fun x hx => Nat.lt_of_lt_of_le (HSS.out x hx) h3.1.size
 have HT3 : Hid (∀ x, T x → x < _) := fun x hx => Nat.lt_of_lt_of_le (hT x hx) h3.1.size
 have HV := Lh (show SCV _ S (.agg (vA s A1 A2 A3 A4 A5 A6 kk1 k2 k3 k4 k5 k6)) s from ⟨_, _, _, _, _, _, rfl, HS.out.below HSS.out h3.1⟩)
 have HP := Lh (hap.keep (fun q hq => h3.1.cell (hT _ hq)))
 have H3 := Lh h3
 clear hi hap hai hT h3
 have kb0 : ((a.kind : Int) == 0) = false := by simp; omega
 have kb1 : ((a.kind : Int) == 1) = false := by simp; omega
 have kb2 : ((a.kind : Int) == 2) = false := by simp; omega
 have kb3 : ((a.kind : Int) == 3) = true := by simp; omega
 have HKK := Lh hk
 clear hk
 go_enter Tryz.func42, Tryz.ntmps42
 go_upto_region 11 with fail
 refine wp_region_lit ?_
 refine wpl_loadS rfl (.tmp 2) rfl rfl (heap_b1 w _ _ _) rfl ?_
 refine wpl_storeS rfl (.tmp 4) (.tmp 36) rfl rfl rfl (heap_b3 w _ _ _) rfl rfl all25 ?_
 go_wp2
 refine scEnd (w.heap.size + 1 + 1) 4 Tryz.results42 ?_ ?_ (heap_b3 w _ _ _) (by omega) (tri_new w _ _ _).1 HSS.out (HS.out.like ?_ ?_ ?_ ?_)
 all_goals rfl
theorem dor_3s (v vp vi : Value) (s : Sc) (a : Ac) (r c : Nat) (S T : Nat → Prop) (w : World) (hS : ∀ x, S x → x < w.heap.size) (hT : ∀ x, T x → x < w.heap.size) (h : SCV w S v s) (hi : ScIn s r c) (hap : SL vI w T vp a.params) (hai : SL vB w T vi a.inter) (hp2 : a.params.length ≤ 1048576) (hk : a.kind = 3) (hi0 : a.inter.length = 0) (hpr : a.priv = 0) (hpp : ∀ x ∈ a.params, 0 ≤ x ∧ x ≤ 65535) : Calls Tryz.prog 42 #[v, .agg #[.int .i64 (a.kind : Int), .int .i32 a.r, .int .u8 (a.b : Int), .int .u8 (a.priv : Int), vp, vi]] w (ScPost S (seqS s a.b a.params) w) := by
 have HSS := Lh hS
 clear hS
 obtain ⟨vc, vt, vo, vp, vi, vu, rfl, hs⟩ := h
 have HS := Lh hs
 obtain ⟨A1, kk1, A2, k2, A3, k3, A4, k4, A5, k5, A6, k6, rfl, rfl, rfl, rfl, rfl, rfl, p1, q1, p2, q2, p3, q3, p4, q4, p5, q5, p6, q6⟩ := sslSix hs
 have HI := Lh hi
 obtain ⟨Ap, kp, rfl, pp1, pp2⟩ := hap.form
 obtain ⟨Ai, ki, rfl, pi1, pi2⟩ := hai.form
 have h3 := tri_new w (.cells (vA s A1 A2 A3 A4 A5 A6 kk1 k2 k3 k4 k5 k6) 30) (.cells #[.int .i64 (a.kind : Int), .int .i32 a.r, .int .u8 (a.b : Int), .int .u8 (a.priv : Int), .slice Ap a.params.length kp, .slice Ai a.inter.length ki] 85) (.cells zQ 30)
 have HS3 : Hid (∀ x, S x → x < _) := fun x hx => Nat.lt_of_lt_of_le (HSS.out x hx) h3.1.size
 have HT3 : Hid (∀ x, T x → x < _) := fun x hx => Nat.lt_of_lt_of_le (hT x hx) h3.1.size
 have HV := Lh (show SCV _ S (.agg (vA s A1 A2 A3 A4 A5 A6 kk1 k2 k3 k4 k5 k6)) s from ⟨_, _, _, _, _, _, rfl, HS.out.below HSS.out h3.1⟩)
 have HP := Lh (hap.keep (fun q hq => h3.1.cell (hT _ hq)))
 have H3 := Lh h3
 clear hi hap hai hT h3
 have kb0 : ((a.kind : Int) == 0) = false := by simp; omega
 have kb1 : ((a.kind : Int) == 1) = false := by simp; omega
 have kb2 : ((a.kind : Int) == 2) = false := by simp; omega
 have kb3 : ((a.kind : Int) == 3) = true := by simp; omega
 have HKK := Lh hk
 clear hk
 have hile : (a.inter.length : Int) ≤ 0 := by omega
 have hidf : decide (0 < a.inter.length) = false := decide_eq_false (by omega)
 have HI0 := Lh hi0
 clear hi0
 have pb : ((a.priv : Int) == 63) = false := by simp; omega
 have pb0 : ((a.priv : Int) == 0) = true := by simp; omega
 have HPP := Lh hpp
 have HPR := Lh hpr
 clear hpp hpr
 go_enter Tryz.func42, Tryz.ntmps42
 go_upto_region 19 with fail
 refine wp_region_lit ?_
 refine wpl_loadS rfl (.tmp 2) rfl rfl (heap_b1 w _ _ _) rfl ?_
 go_wp2_with fail
 ((with_reducible refine (seqr_any _ _ s a.params a.b r c S T _ HS3.out HT3.out HV.out HI.out HP.out hp2 HPP.out).mono ?_); rintro e w4 ⟨v4, rfl, hv4, b4⟩)
 have z4 := b4.size
 rw [H3.out.2] at z4
 have e2 := (b4.block (w.heap.size + 1 + 1) (by rw [H3.out.2]; omega)).trans (heap_b3 w _ _ _)
 obtain ⟨uc, ut, uo, up, ui, uu, rfl, hs4⟩ := hv4
 rename_i K hK
 refine hK _ _ ?_
 refine wpl_storeS rfl (.tmp 4) (.tmp 76) rfl rfl rfl e2 rfl rfl hs4.one ?_
 go_wp2
 refine scEndV (w.heap.size + 1 + 1) 4 Tryz.results42 ?_ ?_ e2 (by omega) (H3.out.1.trans (b4.mono (by rw [H3.out.2]; omega))) HSS.out hs4 (fun x hx => ?_)
 ·rfl
 ·rfl
 rcases hx with h | h
 ·exact .inl h
 ·have := h.1
  rw [H3.out.2] at this
  exact .inr ⟨by omega, h.2⟩
theorem dor_3n (v vp vi : Value) (s : Sc) (a : Ac) (r c : Nat) (S T : Nat → Prop) (w : World) (hS : ∀ x, S x → x < w.heap.size) (hT : ∀ x, T x → x < w.heap.size) (h : SCV w S v s) (hi : ScIn s r c) (hap : SL vI w T vp a.params) (hai : SL vB w T vi a.inter) (hp2 : a.params.length ≤ 1048576) (hk : a.kind = 3) (hi0 : a.inter.length = 0) (hpr : ¬ a.priv = 0) (hno : ¬ (a.priv = 63 ∧ (a.b = 104 ∨ a.b = 108))) : Calls Tryz.prog 42 #[v, .agg #[.int .i64 (a.kind : Int), .int .i32 a.r, .int .u8 (a.b : Int), .int .u8 (a.priv : Int), vp, vi]] w (ScPost S s w) := by
 have HSS := Lh hS
 clear hS
 obtain ⟨vc, vt, vo, vp, vi, vu, rfl, hs⟩ := h
 have HS := Lh hs
 obtain ⟨A1, kk1, A2, k2, A3, k3, A4, k4, A5, k5, A6, k6, rfl, rfl, rfl, rfl, rfl, rfl, p1, q1, p2, q2, p3, q3, p4, q4, p5, q5, p6, q6⟩ := sslSix hs
 have HI := Lh hi
 obtain ⟨Ap, kp, rfl, pp1, pp2⟩ := hap.form
 obtain ⟨Ai, ki, rfl, pi1, pi2⟩ := hai.form
 have h3 := tri_new w (.cells (vA s A1 A2 A3 A4 A5 A6 kk1 k2 k3 k4 k5 k6) 30) (.cells #[.int .i64 (a.kind : Int), .int .i32 a.r, .int .u8 (a.b : Int), .int .u8 (a.priv : Int), .slice Ap a.params.length kp, .slice Ai a.inter.length ki] 85) (.cells zQ 30)
 have HS3 : Hid (∀ x, S x → x < _) := fun x hx => Nat.lt_of_lt_of_le (HSS.out x hx) h3.1.size
 have HT3 : Hid (∀ x, T x → x < _) := fun x hx => Nat.lt_of_lt_of_le (hT x hx) h3.1.size
 have HV := Lh (show SCV _ S (.agg (vA s A1 A2 A3 A4 A5 A6 kk1 k2 k3 k4 k5 k6)) s from ⟨_, _, _, _, _, _, rfl, HS.out.below HSS.out h3.1⟩)
 have HP := Lh (hap.keep (fun q hq => h3.1.cell (hT _ hq)))
 have H3 := Lh h3
 clear hi hap hai hT h3
 have kb0 : ((a.kind : Int) == 0) = false := by simp; omega
 have kb1 : ((a.kind : Int) == 1) = false := by simp; omega
 have kb2 : ((a.kind : Int) == 2) = false := by simp; omega
 have kb3 : ((a.kind : Int) == 3) = true := by simp; omega
 have HKK := Lh hk
 clear hk
 have hile : (a.inter.length : Int) ≤ 0 := by omega
 have hidf : decide (0 < a.inter.length) = false := decide_eq_false (by omega)
 have HI0 := Lh hi0
 clear hi0
 have pb0 : ((a.priv : Int) == 0) = false := by simp; omega
 by_cases h63 : a.priv = 63
 ·have pb : ((a.priv : Int) == 63) = true := by simp; omega
  have b1 : ((a.b : Int) == 104) = false := by simp; omega
  have b2 : ((a.b : Int) == 108) = false := by simp; omega
  clear hno h63 hpr
  go_enter Tryz.func42, Tryz.ntmps42
  go_upto_region 20 with fail
  refine wp_region_lit ?_
  refine wpl_loadS rfl (.tmp 2) rfl rfl (heap_b1 w _ _ _) rfl ?_
  refine wpl_storeS rfl (.tmp 4) (.tmp 77) rfl rfl rfl (heap_b3 w _ _ _) rfl rfl all25 ?_
  go_wp2
  refine scEnd (w.heap.size + 1 + 1) 4 Tryz.results42 ?_ ?_ (heap_b3 w _ _ _) (by omega) (tri_new w _ _ _).1 HSS.out (HS.out.like ?_ ?_ ?_ ?_)
  all_goals rfl
 ·have pb : ((a.priv : Int) == 63) = false := by simp; omega
  clear hno h63 hpr
  go_enter Tryz.func42, Tryz.ntmps42
  go_upto_region 20 with fail
  refine wp_region_lit ?_
  refine wpl_loadS rfl (.tmp 2) rfl rfl (heap_b1 w _ _ _) rfl ?_
  refine wpl_storeS rfl (.tmp 4) (.tmp 77) rfl rfl rfl (heap_b3 w _ _ _) rfl rfl all25 ?_
  go_wp2
  refine scEnd (w.heap.size + 1 + 1) 4 Tryz.results42 ?_ ?_ (heap_b3 w _ _ _) (by omega) (tri_new w _ _ _).1 HSS.out (HS.out.like ?_ ?_ ?_ ?_)
  all_goals rfl
theorem wpStill_loadS {w : World} {ops : Array Oper} {rest : List Oper} {o : Oper} {a : Act} {Q : Act → Prop} (hgd : o.guard = none) (x : Operand) (ho : o.op = .load 30 x) {g : Nat} {xs : Array Value} (hx : a.eval x = .pointer (some ⟨g, 0, none⟩)) (hg : w.heap[g]? = some (.cells xs 30)) (hn : xs.size = 24) (h : wpStill Tryz.prog ops w Q rest (a.put o.dst (.agg xs))) : wpStill Tryz.prog ops w Q (o :: rest) a := by
 refine wpStill_step fun K hK => ?_
 have hw : Region.wanted o (yielded ops a.tmps) = true := by simp [Region.wanted, hgd]
 rw [if_pos hw]
 unfold Oper.still execOp
 simp only [ho, hx, Sem.run_bind, run_loadS hg hn, Result.andThen_ok, Sem.run_pure]
 exact ⟨rfl, hK _ h⟩
def modesS (s : Sc) (on : Bool) (l : List Int) : Sc := l.foldl (fun s k => modeS s k on) s
def ModeRel (s : Sc) (l : List Int) (on : Bool) (r c : Nat) (S : Nat → Prop) (w : World) (A Z : Obj) (i : Value) (wr : World) : Prop :=
 ∃ j : Nat, j ≤ l.length ∧ i = .int .i64 (j : Int) ∧ ScIn (modesS s on (l.take j)) r c ∧ Below w.heap.size w wr ∧ w.heap.size + 1 + 1 + 1 ≤ wr.heap.size ∧ wr.heap[w.heap.size + 1]? = some A ∧ wr.heap[w.heap.size + 1 + 1]? = some Z ∧
  ∃ uc ut uo up ui uu, wr.heap[w.heap.size]? = some (.cells (vS (modesS s on (l.take j)) uc ut uo up ui uu) 30) ∧ SSl wr (fun x => S x ∨ (w.heap.size + 1 + 1 < x ∧ x < wr.heap.size)) (modesS s on (l.take j)) uc ut uo up ui uu
theorem dor_3h (v vp vi : Value) (s : Sc) (a : Ac) (r c : Nat) (S T : Nat → Prop) (w : World) (hS : ∀ x, S x → x < w.heap.size) (hT : ∀ x, T x → x < w.heap.size) (h : SCV w S v s) (hi : ScIn s r c) (hap : SL vI w T vp a.params) (hai : SL vB w T vi a.inter) (hp2 : a.params.length ≤ 1048576) (hk : a.kind = 3) (hi0 : a.inter.length = 0) (hpr : a.priv = 63) (hbb : a.b = 104) : Calls Tryz.prog 42 #[v, .agg #[.int .i64 (a.kind : Int), .int .i32 a.r, .int .u8 (a.b : Int), .int .u8 (a.priv : Int), vp, vi]] w (ScPost S (modesS s true a.params) w) := by
 have HSS := Lh hS
 clear hS
 obtain ⟨vc, vt, vo, vp, vi, vu, rfl, hs⟩ := h
 have HS := Lh hs
 obtain ⟨A1, kk1, A2, k2, A3, k3, A4, k4, A5, k5, A6, k6, rfl, rfl, rfl, rfl, rfl, rfl, p1, q1, p2, q2, p3, q3, p4, q4, p5, q5, p6, q6⟩ := sslSix hs
 have HI := Lh hi
 obtain ⟨Ap, kp, rfl, pp1, pp2⟩ := hap.form
 obtain ⟨Ai, ki, rfl, pi1, pi2⟩ := hai.form
 have h3 := tri_new w (.cells (vA s A1 A2 A3 A4 A5 A6 kk1 k2 k3 k4 k5 k6) 30) (.cells #[.int .i64 (a.kind : Int), .int .i32 a.r, .int .u8 (a.b : Int), .int .u8 (a.priv : Int), .slice Ap a.params.length kp, .slice Ai a.inter.length ki] 85) (.cells zQ 30)
 have HS3 : Hid (∀ x, S x → x < _) := fun x hx => Nat.lt_of_lt_of_le (HSS.out x hx) h3.1.size
 have HT3 : Hid (∀ x, T x → x < _) := fun x hx => Nat.lt_of_lt_of_le (hT x hx) h3.1.size
 have HV := Lh (show SCV _ S (.agg (vA s A1 A2 A3 A4 A5 A6 kk1 k2 k3 k4 k5 k6)) s from ⟨_, _, _, _, _, _, rfl, HS.out.below HSS.out h3.1⟩)
 have HP := Lh (hap.keep (fun q hq => h3.1.cell (hT _ hq)))
 have H3 := Lh h3
 have HAP := Lh hap
 have HTT := Lh hT
 clear hi hap hai hT h3
 have kb0 : ((a.kind : Int) == 0) = false := by simp; omega
 have kb1 : ((a.kind : Int) == 1) = false := by simp; omega
 have kb2 : ((a.kind : Int) == 2) = false := by simp; omega
 have kb3 : ((a.kind : Int) == 3) = true := by simp; omega
 have HKK := Lh hk
 clear hk
 have hile : (a.inter.length : Int) ≤ 0 := by omega
 have hidf : decide (0 < a.inter.length) = false := decide_eq_false (by omega)
 have HI0 := Lh hi0
 have pb : ((a.priv : Int) == 63) = true := by simp; omega
 have bb : ((a.b : Int) == 104) = true := by simp; omega
 have HBB := Lh hbb
 have HPR := Lh hpr
 clear hi0 hpr hbb
 go_enter Tryz.func42, Tryz.ntmps42
 go_wp2
 go_loopw [5] (fun i wr => ModeRel s a.params true r c S w (.cells #[.int .i64 (a.kind : Int), .int .i32 a.r, .int .u8 (a.b : Int), .int .u8 (a.priv : Int), .slice Ap a.params.length kp, .slice Ai a.inter.length ki] 85) (.cells zQ 30) i wr) (fun i _ => a.params.length - (intOf i).toNat)
 case atStart => exact ⟨0, Nat.zero_le _, rfl, HI.out, H3.out.1, by rw [H3.out.2]; exact Nat.le_refl _, heap_b2 w _ _ _, heap_b3 w _ _ _, _, _, _, _, _, _, heap_b1 w _ _ _, (HS.out.below HSS.out H3.out.1).mono (fun x hx => .inl hx)⟩
 case round =>
  generalize wr = w5 at *
  obtain ⟨j, hj, rfl, hin, hb, hz, kA, kZ, uc, ut, uo, up, ui, uu, kS, hs5⟩ := hrel
  obtain ⟨c4, f4⟩ := cellR (w := w5.drew) (v := .slice Ap a.params.length kp) kA 4 rfl
  obtain ⟨c2, f2⟩ := cellR (w := w5.drew) (v := .int .u8 (a.b : Int)) kA 2 rfl
  obtain ⟨d4, g4⟩ := cellR (w := w5) (v := .slice Ap a.params.length kp) kA 4 rfl
  have HIN := Lh hin
  have HB5 := Lh hb
  have KA := Lh kA
  have KZ := Lh kZ
  have KS := Lh kS
  have HS5 := Lh hs5
  clear hin hb kA kZ kS hs5
  by_cases hlt : j < a.params.length
  ·obtain ⟨x, hx⟩ : ∃ x, a.params[j]? = some x := ⟨_, List.getElem?_eq_getElem hlt⟩
   obtain ⟨A', c', hv', _, _, h3'⟩ := HAP.out
   simp only [Value.slice.injEq] at hv'
   obtain ⟨ad, hAd, hbl, hcl⟩ := h3' (by omega)
   have e : Ap = some ad := hv'.1.trans hAd
   subst e
   have e2 : w5.drew.cell? (ad.add j) = some (.int .i64 x) := (HB5.out.cell (p := ad.add j) (by rw [block_add]; exact HTT.out _ hbl)).trans (hcl j x hx)
   have HX := Lh hx
   have HVd := Lh (show SCV w5.drew (fun x => S x ∨ (w.heap.size + 1 + 1 < x ∧ x < w5.heap.size)) (.agg (vS (modesS s true (a.params.take j)) uc ut uo up ui uu)) (modesS s true (a.params.take j)) from ⟨_, _, _, _, _, _, rfl, HS5.out⟩)
   have HSd : Hid (∀ x, (S x ∨ (w.heap.size + 1 + 1 < x ∧ x < w5.heap.size)) → x < w5.drew.heap.size) := fun x hx => hx.elim (fun h => by show x < w5.heap.size; have := HSS.out x h; omega) (fun h => h.2)
   have hsz : sizeOk (modesS s true (a.params.take j)).rows (modesS s true (a.params.take j)).cols = true := by
    have i1 := HIN.out.rows
    have i2 := HIN.out.cols
    have i3 := HIN.out.g.r1
    have i4 := HIN.out.g.r2
    have i5 := HIN.out.g.c1
    have i6 := HIN.out.g.c2
    exact sizeOk_mk (by omega) (by omega) (by omega) (by omega)
   have HSZ := Lh hsz
   clear hx hcl hv' h3' hAd hsz
   go_wp2_with fail
   refine wp_region_still_tail 9 (by kernel_rfl) (by kernel_rfl) ?_
   simp only [List.take_succ_cons, List.take_zero, List.drop_succ_cons, List.drop_zero]
   refine wpStill_loadS rfl (.tmp 2) rfl rfl KS.out rfl ?_
   repeat still_step
   try refine wpStill_nil ?_
   go_wp2_with fail
   ((with_reducible refine (moder_any _ (modesS s true (a.params.take j)) x true (fun x => S x ∨ (w.heap.size + 1 + 1 < x ∧ x < w5.heap.size)) _ HSd.out HVd.out HSZ.out).mono ?_); rintro e w6 ⟨v6, rfl, hv6, b6⟩)
   have z6 : w5.heap.size ≤ w6.heap.size := b6.size
   have k6 : w6.heap[w.heap.size]? = _ := (b6.block _ (by show w.heap.size < w5.heap.size; omega)).trans KS.out
   have k61 : w6.heap[w.heap.size + 1]? = _ := (b6.block _ (by show w.heap.size + 1 < w5.heap.size; omega)).trans KA.out
   have k62 : w6.heap[w.heap.size + 1 + 1]? = _ := (b6.block _ (by show w.heap.size + 1 + 1 < w5.heap.size; omega)).trans KZ.out
   obtain ⟨xc, xt, xo, xp, xi, xu, rfl, hs6⟩ := hv6
   rename_i K hK
   refine hK _ _ ?_
   clear hK
   refine wpl_storeS rfl (.tmp 2) (.tmp 66) rfl rfl rfl k6 rfl rfl hs6.one ?_
   obtain ⟨W7, hW7⟩ : ∃ W7, W7 = w6.setRow w.heap.size (vS (modeS (modesS s true (a.params.take j)) x true) xc xt xo xp xi xu) := ⟨_, rfl⟩
   rw [← hW7]
   have k7 : W7.heap[w.heap.size]? = some (.cells (vS (modeS (modesS s true (a.params.take j)) x true) xc xt xo xp xi xu) 30) := by rw [hW7]; exact heap_setRow_same k6
   have o7 : ∀ b, b ≠ w.heap.size → W7.heap[b]? = w6.heap[b]? := fun b hb => by rw [hW7]; exact heap_setRow_other (fun e => hb e.symm)
   have z7 : W7.heap.size = w6.heap.size := by rw [hW7, size_setRow]
   have b7 : Below w.heap.size w W7 := by rw [hW7]; exact below_setRow (HB5.out.drew.trans (b6.mono (by show w.heap.size ≤ w5.heap.size; omega))) (Nat.le_refl _) _
   have hs7 : SSl W7 (fun x => S x ∨ (w.heap.size + 1 + 1 < x ∧ x < W7.heap.size)) (modeS (modesS s true (a.params.take j)) x true) xc xt xo xp xi xu := (hs6.keep (fun q hq => World.cell?_of_block (o7 _ (by
    rcases hq with (h | h) | h
    ·have := HSS.out _ h; omega
    ·omega
    ·have h1 : w5.heap.size ≤ q.block := h.1; omega)))).mono (fun x hx => by
    rcases hx with (h | h) | h
    ·exact .inl h
    ·exact .inr ⟨h.1, by rw [z7]; omega⟩
    ·have h1 : w5.heap.size ≤ x := h.1
     exact .inr ⟨by omega, by rw [z7]; exact h.2⟩)
   have K7 := Lh k7
   have K71 := Lh ((o7 (w.heap.size + 1) (by omega)).trans k61)
   have K72 := Lh ((o7 (w.heap.size + 1 + 1) (by omega)).trans k62)
   have Z7 := Lh z7
   have B7 := Lh b7
   have HS7 := Lh hs7
   clear k7 o7 z7 b7 hs7 hs6 k6 k61 k62 hW7 b6 c4 f4 c2 f2 d4 g4
   go_simp
   go_wp2
   go_roundw
   case rel =>
    have hm : modesS s true (a.params.take (j + 1)) = modeS (modesS s true (a.params.take j)) x true := by
     unfold modesS
     rw [List.take_add_one, HX.out, List.foldl_append]
     rfl
    refine ⟨j + 1, by omega, by go_num, ?_, B7.out, by rw [Z7.out]; omega, K71.out, K72.out, xc, xt, xo, xp, xi, xu, ?_, ?_⟩
    ·rw [hm]; exact modeS_in HIN.out x true
    ·rw [hm]; exact K7.out
    ·rw [hm]; exact HS7.out
   case measure => simp [intOf]; omega
  ·obtain rfl : j = a.params.length := by omega
   have hfin : modesS s true (a.params.take a.params.length) = modesS s true a.params := by rw [List.take_of_length_le (Nat.le_refl _)]
   have kS2 := KS.out
   have hs2 := HS5.out
   rw [hfin] at kS2 hs2
   have KS2 := Lh kS2
   have HS2 := Lh hs2
   clear kS2 hs2 hfin c4 f4 c2 f2
   go_upto_region 17 with fail
   refine wp_region_lit ?_
   refine wpl_loadS rfl (.tmp 2) rfl rfl KS2.out rfl ?_
   refine wpl_storeS rfl (.tmp 4) (.tmp 67) rfl rfl rfl KZ.out rfl rfl HS2.out.one ?_
   go_wp2
   refine scEndV (w.heap.size + 1 + 1) 4 Tryz.results42 ?_ ?_ KZ.out (by omega) HB5.out HSS.out HS2.out (fun x hx => hx)
   all_goals rfl
theorem dor_3l (v vp vi : Value) (s : Sc) (a : Ac) (r c : Nat) (S T : Nat → Prop) (w : World) (hS : ∀ x, S x → x < w.heap.size) (hT : ∀ x, T x → x < w.heap.size) (h : SCV w S v s) (hi : ScIn s r c) (hap : SL vI w T vp a.params) (hai : SL vB w T vi a.inter) (hp2 : a.params.length ≤ 1048576) (hk : a.kind = 3) (hi0 : a.inter.length = 0) (hpr : a.priv = 63) (hbb : a.b = 108) : Calls Tryz.prog 42 #[v, .agg #[.int .i64 (a.kind : Int), .int .i32 a.r, .int .u8 (a.b : Int), .int .u8 (a.priv : Int), vp, vi]] w (ScPost S (modesS s false a.params) w) := by
 have HSS := Lh hS
 clear hS
 obtain ⟨vc, vt, vo, vp, vi, vu, rfl, hs⟩ := h
 have HS := Lh hs
 obtain ⟨A1, kk1, A2, k2, A3, k3, A4, k4, A5, k5, A6, k6, rfl, rfl, rfl, rfl, rfl, rfl, p1, q1, p2, q2, p3, q3, p4, q4, p5, q5, p6, q6⟩ := sslSix hs
 have HI := Lh hi
 obtain ⟨Ap, kp, rfl, pp1, pp2⟩ := hap.form
 obtain ⟨Ai, ki, rfl, pi1, pi2⟩ := hai.form
 have h3 := tri_new w (.cells (vA s A1 A2 A3 A4 A5 A6 kk1 k2 k3 k4 k5 k6) 30) (.cells #[.int .i64 (a.kind : Int), .int .i32 a.r, .int .u8 (a.b : Int), .int .u8 (a.priv : Int), .slice Ap a.params.length kp, .slice Ai a.inter.length ki] 85) (.cells zQ 30)
 have HS3 : Hid (∀ x, S x → x < _) := fun x hx => Nat.lt_of_lt_of_le (HSS.out x hx) h3.1.size
 have HT3 : Hid (∀ x, T x → x < _) := fun x hx => Nat.lt_of_lt_of_le (hT x hx) h3.1.size
 have HV := Lh (show SCV _ S (.agg (vA s A1 A2 A3 A4 A5 A6 kk1 k2 k3 k4 k5 k6)) s from ⟨_, _, _, _, _, _, rfl, HS.out.below HSS.out h3.1⟩)
 have HP := Lh (hap.keep (fun q hq => h3.1.cell (hT _ hq)))
 have H3 := Lh h3
 have HAP := Lh hap
 have HTT := Lh hT
 clear hi hap hai hT h3
 have kb0 : ((a.kind : Int) == 0) = false := by simp; omega
 have kb1 : ((a.kind : Int) == 1) = false := by simp; omega
 have kb2 : ((a.kind : Int) == 2) = false := by simp; omega
 have kb3 : ((a.kind : Int) == 3) = true := by simp; omega
 have HKK := Lh hk
 clear hk
 have hile : (a.inter.length : Int) ≤ 0 := by omega
 have hidf : decide (0 < a.inter.length) = false := decide_eq_false (by omega)
 have HI0 := Lh hi0
 have pb : ((a.priv : Int) == 63) = true := by simp; omega
 have bb : ((a.b : Int) == 104) = false := by simp; omega
 have bb8 : ((a.b : Int) == 108) = true := by simp; omega
 have HBB := Lh hbb
 have HPR := Lh hpr
 clear hi0 hpr hbb
 go_enter Tryz.func42, Tryz.ntmps42
 go_wp2
 go_loopw [5] (fun i wr => ModeRel s a.params false r c S w (.cells #[.int .i64 (a.kind : Int), .int .i32 a.r, .int .u8 (a.b : Int), .int .u8 (a.priv : Int), .slice Ap a.params.length kp, .slice Ai a.inter.length ki] 85) (.cells zQ 30) i wr) (fun i _ => a.params.length - (intOf i).toNat)
 case atStart => exact ⟨0, Nat.zero_le _, rfl, HI.out, H3.out.1, by rw [H3.out.2]; exact Nat.le_refl _, heap_b2 w _ _ _, heap_b3 w _ _ _, _, _, _, _, _, _, heap_b1 w _ _ _, (HS.out.below HSS.out H3.out.1).mono (fun x hx => .inl hx)⟩
 case round =>
  generalize wr = w5 at *
  obtain ⟨j, hj, rfl, hin, hb, hz, kA, kZ, uc, ut, uo, up, ui, uu, kS, hs5⟩ := hrel
  obtain ⟨c4, f4⟩ := cellR (w := w5.drew) (v := .slice Ap a.params.length kp) kA 4 rfl
  obtain ⟨c2, f2⟩ := cellR (w := w5.drew) (v := .int .u8 (a.b : Int)) kA 2 rfl
  obtain ⟨d4, g4⟩ := cellR (w := w5) (v := .slice Ap a.params.length kp) kA 4 rfl
  have HIN := Lh hin
  have HB5 := Lh hb
  have KA := Lh kA
  have KZ := Lh kZ
  have KS := Lh kS
  have HS5 := Lh hs5
  clear hin hb kA kZ kS hs5
  by_cases hlt : j < a.params.length
  ·obtain ⟨x, hx⟩ : ∃ x, a.params[j]? = some x := ⟨_, List.getElem?_eq_getElem hlt⟩
   obtain ⟨A', c', hv', _, _, h3'⟩ := HAP.out
   simp only [Value.slice.injEq] at hv'
   obtain ⟨ad, hAd, hbl, hcl⟩ := h3' (by omega)
   have e : Ap = some ad := hv'.1.trans hAd
   subst e
   have e2 : w5.drew.cell? (ad.add j) = some (.int .i64 x) := (HB5.out.cell (p := ad.add j) (by rw [block_add]; exact HTT.out _ hbl)).trans (hcl j x hx)
   have HX := Lh hx
   have HVd := Lh (show SCV w5.drew (fun x => S x ∨ (w.heap.size + 1 + 1 < x ∧ x < w5.heap.size)) (.agg (vS (modesS s false (a.params.take j)) uc ut uo up ui uu)) (modesS s false (a.params.take j)) from ⟨_, _, _, _, _, _, rfl, HS5.out⟩)
   have HSd : Hid (∀ x, (S x ∨ (w.heap.size + 1 + 1 < x ∧ x < w5.heap.size)) → x < w5.drew.heap.size) := fun x hx => hx.elim (fun h => by show x < w5.heap.size; have := HSS.out x h; omega) (fun h => h.2)
   have hsz : sizeOk (modesS s false (a.params.take j)).rows (modesS s false (a.params.take j)).cols = true := by
    have i1 := HIN.out.rows
    have i2 := HIN.out.cols
    have i3 := HIN.out.g.r1
    have i4 := HIN.out.g.r2
    have i5 := HIN.out.g.c1
    have i6 := HIN.out.g.c2
    exact sizeOk_mk (by omega) (by omega) (by omega) (by omega)
   have HSZ := Lh hsz
   clear hx hcl hv' h3' hAd hsz
   go_wp2_with fail
   refine wp_region_still_tail 9 (by kernel_rfl) (by kernel_rfl) ?_
   simp only [List.take_succ_cons, List.take_zero, List.drop_succ_cons, List.drop_zero]
   refine wpStill_loadS rfl (.tmp 2) rfl rfl KS.out rfl ?_
   repeat still_step
   try refine wpStill_nil ?_
   go_wp2_with fail
   ((with_reducible refine (moder_any _ (modesS s false (a.params.take j)) x false (fun x => S x ∨ (w.heap.size + 1 + 1 < x ∧ x < w5.heap.size)) _ HSd.out HVd.out HSZ.out).mono ?_); rintro e w6 ⟨v6, rfl, hv6, b6⟩)
   have z6 : w5.heap.size ≤ w6.heap.size := b6.size
   have k6 : w6.heap[w.heap.size]? = _ := (b6.block _ (by show w.heap.size < w5.heap.size; omega)).trans KS.out
   have k61 : w6.heap[w.heap.size + 1]? = _ := (b6.block _ (by show w.heap.size + 1 < w5.heap.size; omega)).trans KA.out
   have k62 : w6.heap[w.heap.size + 1 + 1]? = _ := (b6.block _ (by show w.heap.size + 1 + 1 < w5.heap.size; omega)).trans KZ.out
   obtain ⟨xc, xt, xo, xp, xi, xu, rfl, hs6⟩ := hv6
   rename_i K hK
   refine hK _ _ ?_
   clear hK
   refine wpl_storeS rfl (.tmp 2) (.tmp 66) rfl rfl rfl k6 rfl rfl hs6.one ?_
   obtain ⟨W7, hW7⟩ : ∃ W7, W7 = w6.setRow w.heap.size (vS (modeS (modesS s false (a.params.take j)) x false) xc xt xo xp xi xu) := ⟨_, rfl⟩
   rw [← hW7]
   have k7 : W7.heap[w.heap.size]? = some (.cells (vS (modeS (modesS s false (a.params.take j)) x false) xc xt xo xp xi xu) 30) := by rw [hW7]; exact heap_setRow_same k6
   have o7 : ∀ b, b ≠ w.heap.size → W7.heap[b]? = w6.heap[b]? := fun b hb => by rw [hW7]; exact heap_setRow_other (fun e => hb e.symm)
   have z7 : W7.heap.size = w6.heap.size := by rw [hW7, size_setRow]
   have b7 : Below w.heap.size w W7 := by rw [hW7]; exact below_setRow (HB5.out.drew.trans (b6.mono (by show w.heap.size ≤ w5.heap.size; omega))) (Nat.le_refl _) _
   have hs7 : SSl W7 (fun x => S x ∨ (w.heap.size + 1 + 1 < x ∧ x < W7.heap.size)) (modeS (modesS s false (a.params.take j)) x false) xc xt xo xp xi xu := (hs6.keep (fun q hq => World.cell?_of_block (o7 _ (by
    rcases hq with (h | h) | h
    ·have := HSS.out _ h; omega
    ·omega
    ·have h1 : w5.heap.size ≤ q.block := h.1; omega)))).mono (fun x hx => by
    rcases hx with (h | h) | h
    ·exact .inl h
    ·exact .inr ⟨h.1, by rw [z7]; omega⟩
    ·have h1 : w5.heap.size ≤ x := h.1
     exact .inr ⟨by omega, by rw [z7]; exact h.2⟩)
   have K7 := Lh k7
   have K71 := Lh ((o7 (w.heap.size + 1) (by omega)).trans k61)
   have K72 := Lh ((o7 (w.heap.size + 1 + 1) (by omega)).trans k62)
   have Z7 := Lh z7
   have B7 := Lh b7
   have HS7 := Lh hs7
   clear k7 o7 z7 b7 hs7 hs6 k6 k61 k62 hW7 b6 c4 f4 c2 f2 d4 g4
   go_simp
   go_wp2
   go_roundw
   case rel =>
    have hm : modesS s false (a.params.take (j + 1)) = modeS (modesS s false (a.params.take j)) x false := by
     unfold modesS
     rw [List.take_add_one, HX.out, List.foldl_append]
     rfl
    refine ⟨j + 1, by omega, by go_num, ?_, B7.out, by rw [Z7.out]; omega, K71.out, K72.out, xc, xt, xo, xp, xi, xu, ?_, ?_⟩
    ·rw [hm]; exact modeS_in HIN.out x false
    ·rw [hm]; exact K7.out
    ·rw [hm]; exact HS7.out
   case measure => simp [intOf]; omega
  ·obtain rfl : j = a.params.length := by omega
   have hfin : modesS s false (a.params.take a.params.length) = modesS s false a.params := by rw [List.take_of_length_le (Nat.le_refl _)]
   have kS2 := KS.out
   have hs2 := HS5.out
   rw [hfin] at kS2 hs2
   have KS2 := Lh kS2
   have HS2 := Lh hs2
   clear kS2 hs2 hfin c4 f4 c2 f2
   go_upto_region 17 with fail
   refine wp_region_lit ?_
   refine wpl_loadS rfl (.tmp 2) rfl rfl KS2.out rfl ?_
   refine wpl_storeS rfl (.tmp 4) (.tmp 67) rfl rfl rfl KZ.out rfl rfl HS2.out.one ?_
   go_wp2
   refine scEndV (w.heap.size + 1 + 1) 4 Tryz.results42 ?_ ?_ KZ.out (by omega) HB5.out HSS.out HS2.out (fun x hx => hx)
   all_goals rfl
theorem dor_any (v vp vi : Value) (s : Sc) (a : Ac) (r c : Nat) (S T : Nat → Prop) (w : World) (hS : ∀ x, S x → x < w.heap.size) (hT : ∀ x, T x → x < w.heap.size) (h : SCV w S v s) (hi : ScIn s r c) (hap : SL vI w T vp a.params) (hai : SL vB w T vi a.inter) (ha : ActOk a) (hk3 : a.kind ≤ 3) :
  Calls Tryz.prog 42 #[v, .agg #[.int .i64 (a.kind : Int), .int .i32 a.r, .int .u8 (a.b : Int), .int .u8 (a.priv : Int), vp, vi]] w (ScPost S (doS s a) w) := by
 have hp2 : a.params.length ≤ 1048576 := by have := ha.params; omega
 have r0 := ha.r0
 have r1 := ha.r1
 unfold doS
 by_cases h0 : a.kind = 0
 ·rw [if_pos h0]; exact dor_0 v vp vi s a r c S T w hS hT h hi hap hai hp2 h0 (by omega) (by omega)
 rw [if_neg h0]
 by_cases h1 : a.kind = 1
 ·rw [if_pos h1]; exact dor_1 v vp vi s a r c S T w hS hT h hi hap hai hp2 h1
 rw [if_neg h1]
 by_cases h2 : a.kind = 2
 ·rw [if_pos h2]
  by_cases i0 : a.inter.length = 0
  ·rw [if_pos i0]; exact dor_2 v vp vi s a r c S T w hS hT h hi hap hai hp2 h2 i0
  ·rw [if_neg i0]; exact dor_2n v vp vi s a r c S T w hS hT h hi hap hai hp2 h2 i0
 rw [if_neg h2]
 have h3 : a.kind = 3 := by omega
 rw [if_pos h3]
 by_cases i0 : 0 < a.inter.length
 ·rw [if_pos i0]; exact dor_3i v vp vi s a r c S T w hS hT h hi hap hai hp2 h3 i0
 rw [if_neg i0]
 have i1 : a.inter.length = 0 := by omega
 by_cases p0 : a.priv = 63 ∧ (a.b = 104 ∨ a.b = 108)
 ·rw [if_pos p0]
  rcases p0.2 with hb | hb
  ·have := dor_3h v vp vi s a r c S T w hS hT h hi hap hai hp2 h3 i1 p0.1 hb
   rw [decide_eq_true hb]
   exact this
  ·have := dor_3l v vp vi s a r c S T w hS hT h hi hap hai hp2 h3 i1 p0.1 hb
   rw [decide_eq_false (by omega)]
   exact this
 rw [if_neg p0]
 by_cases q0 : a.priv = 0
 ·rw [if_pos q0]; exact dor_3s v vp vi s a r c S T w hS hT h hi hap hai hp2 h3 i1 q0 ha.each
 ·rw [if_neg q0]; exact dor_3n v vp vi s a r c S T w hS hT h hi hap hai hp2 h3 i1 q0 p0
end Go.Proofs.YthepofkdgbcifaaGreat
