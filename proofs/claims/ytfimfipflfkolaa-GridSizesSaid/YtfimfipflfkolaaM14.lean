/- What is proved here: the contract of the document's sequences that change cells. -/
import Derived.Test.YtfimfipflfkolaaM13
namespace Go.Proofs.Ytfimfipflfkolaa
open Go.RowKit
set_option linter.unusedVariables false
set_option linter.unusedSimpArgs false

set_option maxHeartbeats 2000000 in
set_option maxRecDepth 100000 in
theorem seqr_64 (v vl : Value) (s : Sc) (l : List Int) (b : Int) (r c : Nat) (S T : Nat → Prop) (w : World) (hS : ∀ x, S x → x < w.heap.size) (hT : ∀ x, T x → x < w.heap.size) (h : SCV w S v s) (hi : ScIn s r c) (hl : SL vI w T vl l) (hl2 : l.length ≤ 1048576) (n m k : Int) (hn : paramL l 0 1 = n) (hm : paramL l 1 1 = m) (hk : paramL l 0 0 = k) (n1 : 1 ≤ n) (n2 : n ≤ 65535) (m1 : 1 ≤ m) (m2 : m ≤ 65535) (k0 : 0 ≤ k) (k9 : k ≤ 65535) (hb : b = 64) : Calls Try.prog 54 #[v, .int .u8 b, vl] w (ScPost S { s with cells := insertL s.cells s.cols s.y s.x n, wrap := false } w) := by
  have HSS := Lib.hid hS
  clear hS
  obtain ⟨vc, vt, vo, vp, vi, vu, rfl, hs⟩ := h
  have HS := Lib.hid hs
  obtain ⟨g1, g2, g3, g4, g5, g6⟩ := hs
  obtain ⟨A1, kk1, rfl, p1, q1⟩ := g1.form
  obtain ⟨A2, k2, rfl, p2, q2⟩ := g2.form
  obtain ⟨A3, k3, rfl, p3, q3⟩ := g3.form
  obtain ⟨A4, k4, rfl, p4, q4⟩ := g4.form
  obtain ⟨A5, k5, rfl, p5, q5⟩ := g5.form
  obtain ⟨A6, k6, rfl, p6, q6⟩ := g6.form
  clear g1 g2 g3 g4 g5 g6
  have HI := Lib.hid hi
  have y0 := hi.y0
  have y1 := hi.y1
  have x0 := hi.x0
  have x1 := hi.x1
  have hcl := hi.cols
  have hrl := hi.rows
  have c2 := hi.g.c2
  have r2 := hi.g.r2
  have hlen : s.cells.length ≤ 1000000 := by rw [hi.g.n]; exact rc_le hi.g.r2 hi.g.c2
  have c3 : s.cols ≤ 1000 := by omega
  have r3 : s.rows ≤ 1000 := by omega
  have r4 : 1 ≤ s.rows := by omega
  have c4 : s.x < s.cols := by omega
  have c5 : 1 ≤ s.cols := by omega
  have yr : s.y < s.rows := by omega
  have HN := Lib.hid hn
  have HMM := Lib.hid hm
  have HK := Lib.hid hk
  obtain ⟨Al, kl, rfl, pl, ql⟩ := hl.form
  clear hi hcl hrl hn hm hk
  have h2 := two_new w (.cells #[.int .i64 s.rows, .int .i64 s.cols, .slice A1 s.cells.length kk1, .int .i64 s.y, .int .i64 s.x, .bool s.wrap, .int .u16 (s.attr : Int), .int .i64 s.top, .int .i64 s.bottom, .slice A2 s.tabs.length k2, .int .i64 s.sy, .int .i64 s.sx, .int .u16 (s.sattr : Int), .bool s.auto, .bool s.shown, .bool s.alt, .slice A3 s.other.length k3, .int .i64 s.oy, .int .i64 s.ox, .int .i64 (s.p.mode : Int), .int .u8 (s.p.priv : Int), .slice A4 s.p.params.length k4, .slice A5 s.p.inter.length k5, .slice A6 s.p.utf.length k6] 32) (.cells #[.int .i64 0, .int .i64 0, .slice none 0 0, .int .i64 0, .int .i64 0, .bool false, .int .u16 0, .int .i64 0, .int .i64 0, .slice none 0 0, .int .i64 0, .int .i64 0, .int .u16 0, .bool false, .bool false, .bool false, .slice none 0 0, .int .i64 0, .int .i64 0, .int .i64 0, .int .u8 0, .slice none 0 0, .slice none 0 0, .slice none 0 0] 32)
  have HS2 : Hid (∀ x, S x → x < _) := fun x hx => Nat.lt_of_lt_of_le (HSS.out x hx) h2.1.size
  have H2 := Lib.hid h2
  have HL := Lib.hid (hl.keep (fun q hq => h2.1.cell (hT _ hq)))
  have HV := Lib.hid (show SCV _ S (.agg (vS s (.slice A1 s.cells.length kk1) (.slice A2 s.tabs.length k2) (.slice A3 s.other.length k3) (.slice A4 s.p.params.length k4) (.slice A5 s.p.inter.length k5) (.slice A6 s.p.utf.length k6))) s from ⟨_, _, _, _, _, _, rfl, HS.out.below HSS.out h2.1⟩)
  clear hl hT
  have HC := Lib.hid (HS.out.1.cs' HSS.out h2.1 (Nat.le_refl _))
  clear h2
  subst hb
  go_enter Try.func54, Try.ntmps54
  go_upto_region 2 with (first | ((with_reducible refine (paramr_0 HL.out hl2 HN.out).mono ?_); rintro e w' ⟨rfl, rfl⟩) | ((with_reducible refine (paramr_1 HL.out hl2 HMM.out).mono ?_); rintro e w' ⟨rfl, rfl⟩) | ((with_reducible refine (paramr_0 HL.out hl2 HK.out).mono ?_); rintro e w' ⟨rfl, rfl⟩))
  go_upto_region 58 with fail
  ((with_reducible refine (Insert_any _ s.cells s.cols s.y s.x n _ HC.out (by omega)).mono ?_); rintro e w4 ⟨v4, rfl, o4, b4⟩; have hb4 : Below (w.heap.size + 1 + 1) _ w4 := (by rw [← H2.out.2]; exact b4); obtain ⟨e0, e1⟩ := two_keptB hb4; obtain ⟨cc2, ff2⟩ := cellR e0 2 rfl; obtain ⟨cc5, ff5⟩ := cellR e0 5 rfl; have K0 := Lib.hid e0; have K1 := Lib.hid e1; rw [H2.out.2] at o4; have O4 := Lib.hid o4; have B4 := Lib.hid (H2.out.1.trans (hb4.mono (by omega))); have Z4 := b4.size; rw [H2.out.2] at Z4; clear o4 b4 hb4 e0 e1)
  obtain ⟨A7, k7, rfl, p7, q7⟩ := O4.out.cs.form
  go_upto_region 58 with fail
  refine wp_region_lit ?_
  refine wpl_loadS rfl (.tmp 3) rfl rfl ((heap_setCell_same _ _ 5 _ _ _ ((heap_setCell_same _ _ 2 _ _ _ K0.out).trans rfl)).trans rfl) rfl ?_
  refine wpl_storeS rfl (.tmp 6) (.tmp 272) rfl rfl rfl ((heap_setCell_other _ _ _ _ (by simp)).trans ((heap_setCell_other _ _ _ _ (by simp)).trans K1.out)) rfl rfl (all24 rfl rfl rfl rfl rfl rfl rfl rfl rfl rfl rfl rfl rfl rfl rfl rfl rfl rfl rfl rfl rfl rfl rfl rfl) ?_
  go_wp2
  refine scEndC (w.heap.size + 1) 6 Try.results54 ?_ ?_ ((heap_setCell_other _ _ _ _ (by simp)).trans ((heap_setCell_other _ _ _ _ (by simp)).trans K1.out)) (by omega) ((B4.out.setCell (by simp) _).setCell (by simp) _) HSS.out HS.out ?_ ?_ ?_ (w.heap.size + 1 + 1) (by omega) O4.out (fun b hb => (heap_setCell_other _ _ _ _ (by simp; omega)).trans (heap_setCell_other _ _ _ _ (by simp; omega))) (by simp)
  all_goals rfl
set_option maxHeartbeats 2000000 in
set_option maxRecDepth 100000 in
theorem seqr_80 (v vl : Value) (s : Sc) (l : List Int) (b : Int) (r c : Nat) (S T : Nat → Prop) (w : World) (hS : ∀ x, S x → x < w.heap.size) (hT : ∀ x, T x → x < w.heap.size) (h : SCV w S v s) (hi : ScIn s r c) (hl : SL vI w T vl l) (hl2 : l.length ≤ 1048576) (n m k : Int) (hn : paramL l 0 1 = n) (hm : paramL l 1 1 = m) (hk : paramL l 0 0 = k) (n1 : 1 ≤ n) (n2 : n ≤ 65535) (m1 : 1 ≤ m) (m2 : m ≤ 65535) (k0 : 0 ≤ k) (k9 : k ≤ 65535) (hb : b = 80) : Calls Try.prog 54 #[v, .int .u8 b, vl] w (ScPost S { s with cells := deleteL s.cells s.cols s.y s.x n, wrap := false } w) := by
  have HSS := Lib.hid hS
  clear hS
  obtain ⟨vc, vt, vo, vp, vi, vu, rfl, hs⟩ := h
  have HS := Lib.hid hs
  obtain ⟨g1, g2, g3, g4, g5, g6⟩ := hs
  obtain ⟨A1, kk1, rfl, p1, q1⟩ := g1.form
  obtain ⟨A2, k2, rfl, p2, q2⟩ := g2.form
  obtain ⟨A3, k3, rfl, p3, q3⟩ := g3.form
  obtain ⟨A4, k4, rfl, p4, q4⟩ := g4.form
  obtain ⟨A5, k5, rfl, p5, q5⟩ := g5.form
  obtain ⟨A6, k6, rfl, p6, q6⟩ := g6.form
  clear g1 g2 g3 g4 g5 g6
  have HI := Lib.hid hi
  have y0 := hi.y0
  have y1 := hi.y1
  have x0 := hi.x0
  have x1 := hi.x1
  have hcl := hi.cols
  have hrl := hi.rows
  have c2 := hi.g.c2
  have r2 := hi.g.r2
  have hlen : s.cells.length ≤ 1000000 := by rw [hi.g.n]; exact rc_le hi.g.r2 hi.g.c2
  have c3 : s.cols ≤ 1000 := by omega
  have r3 : s.rows ≤ 1000 := by omega
  have r4 : 1 ≤ s.rows := by omega
  have c4 : s.x < s.cols := by omega
  have c5 : 1 ≤ s.cols := by omega
  have yr : s.y < s.rows := by omega
  have HN := Lib.hid hn
  have HMM := Lib.hid hm
  have HK := Lib.hid hk
  obtain ⟨Al, kl, rfl, pl, ql⟩ := hl.form
  clear hi hcl hrl hn hm hk
  have h2 := two_new w (.cells #[.int .i64 s.rows, .int .i64 s.cols, .slice A1 s.cells.length kk1, .int .i64 s.y, .int .i64 s.x, .bool s.wrap, .int .u16 (s.attr : Int), .int .i64 s.top, .int .i64 s.bottom, .slice A2 s.tabs.length k2, .int .i64 s.sy, .int .i64 s.sx, .int .u16 (s.sattr : Int), .bool s.auto, .bool s.shown, .bool s.alt, .slice A3 s.other.length k3, .int .i64 s.oy, .int .i64 s.ox, .int .i64 (s.p.mode : Int), .int .u8 (s.p.priv : Int), .slice A4 s.p.params.length k4, .slice A5 s.p.inter.length k5, .slice A6 s.p.utf.length k6] 32) (.cells #[.int .i64 0, .int .i64 0, .slice none 0 0, .int .i64 0, .int .i64 0, .bool false, .int .u16 0, .int .i64 0, .int .i64 0, .slice none 0 0, .int .i64 0, .int .i64 0, .int .u16 0, .bool false, .bool false, .bool false, .slice none 0 0, .int .i64 0, .int .i64 0, .int .i64 0, .int .u8 0, .slice none 0 0, .slice none 0 0, .slice none 0 0] 32)
  have HS2 : Hid (∀ x, S x → x < _) := fun x hx => Nat.lt_of_lt_of_le (HSS.out x hx) h2.1.size
  have H2 := Lib.hid h2
  have HL := Lib.hid (hl.keep (fun q hq => h2.1.cell (hT _ hq)))
  have HV := Lib.hid (show SCV _ S (.agg (vS s (.slice A1 s.cells.length kk1) (.slice A2 s.tabs.length k2) (.slice A3 s.other.length k3) (.slice A4 s.p.params.length k4) (.slice A5 s.p.inter.length k5) (.slice A6 s.p.utf.length k6))) s from ⟨_, _, _, _, _, _, rfl, HS.out.below HSS.out h2.1⟩)
  clear hl hT
  have HC := Lib.hid (HS.out.1.cs' HSS.out h2.1 (Nat.le_refl _))
  clear h2
  subst hb
  go_enter Try.func54, Try.ntmps54
  go_upto_region 2 with (first | ((with_reducible refine (paramr_0 HL.out hl2 HN.out).mono ?_); rintro e w' ⟨rfl, rfl⟩) | ((with_reducible refine (paramr_1 HL.out hl2 HMM.out).mono ?_); rintro e w' ⟨rfl, rfl⟩) | ((with_reducible refine (paramr_0 HL.out hl2 HK.out).mono ?_); rintro e w' ⟨rfl, rfl⟩))
  go_upto_region 58 with fail
  ((with_reducible refine (Delete_any _ s.cells s.cols s.y s.x n _ HC.out (by omega)).mono ?_); rintro e w4 ⟨v4, rfl, o4, b4⟩; have hb4 : Below (w.heap.size + 1 + 1) _ w4 := (by rw [← H2.out.2]; exact b4); obtain ⟨e0, e1⟩ := two_keptB hb4; obtain ⟨cc2, ff2⟩ := cellR e0 2 rfl; obtain ⟨cc5, ff5⟩ := cellR e0 5 rfl; have K0 := Lib.hid e0; have K1 := Lib.hid e1; rw [H2.out.2] at o4; have O4 := Lib.hid o4; have B4 := Lib.hid (H2.out.1.trans (hb4.mono (by omega))); have Z4 := b4.size; rw [H2.out.2] at Z4; clear o4 b4 hb4 e0 e1)
  obtain ⟨A7, k7, rfl, p7, q7⟩ := O4.out.cs.form
  go_upto_region 58 with fail
  refine wp_region_lit ?_
  refine wpl_loadS rfl (.tmp 3) rfl rfl ((heap_setCell_same _ _ 5 _ _ _ ((heap_setCell_same _ _ 2 _ _ _ K0.out).trans rfl)).trans rfl) rfl ?_
  refine wpl_storeS rfl (.tmp 6) (.tmp 272) rfl rfl rfl ((heap_setCell_other _ _ _ _ (by simp)).trans ((heap_setCell_other _ _ _ _ (by simp)).trans K1.out)) rfl rfl (all24 rfl rfl rfl rfl rfl rfl rfl rfl rfl rfl rfl rfl rfl rfl rfl rfl rfl rfl rfl rfl rfl rfl rfl rfl) ?_
  go_wp2
  refine scEndC (w.heap.size + 1) 6 Try.results54 ?_ ?_ ((heap_setCell_other _ _ _ _ (by simp)).trans ((heap_setCell_other _ _ _ _ (by simp)).trans K1.out)) (by omega) ((B4.out.setCell (by simp) _).setCell (by simp) _) HSS.out HS.out ?_ ?_ ?_ (w.heap.size + 1 + 1) (by omega) O4.out (fun b hb => (heap_setCell_other _ _ _ _ (by simp; omega)).trans (heap_setCell_other _ _ _ _ (by simp; omega))) (by simp)
  all_goals rfl
set_option maxHeartbeats 2000000 in
set_option maxRecDepth 100000 in
theorem seqr_88 (v vl : Value) (s : Sc) (l : List Int) (b : Int) (r c : Nat) (S T : Nat → Prop) (w : World) (hS : ∀ x, S x → x < w.heap.size) (hT : ∀ x, T x → x < w.heap.size) (h : SCV w S v s) (hi : ScIn s r c) (hl : SL vI w T vl l) (hl2 : l.length ≤ 1048576) (n m k : Int) (hn : paramL l 0 1 = n) (hm : paramL l 1 1 = m) (hk : paramL l 0 0 = k) (n1 : 1 ≤ n) (n2 : n ≤ 65535) (m1 : 1 ≤ m) (m2 : m ≤ 65535) (k0 : 0 ≤ k) (k9 : k ≤ 65535) (hb : b = 88) : Calls Try.prog 54 #[v, .int .u8 b, vl] w (ScPost S { s with cells := eraseL s.cells s.cols s.y s.x (s.x + n), wrap := false } w) := by
  have HSS := Lib.hid hS
  clear hS
  obtain ⟨vc, vt, vo, vp, vi, vu, rfl, hs⟩ := h
  have HS := Lib.hid hs
  obtain ⟨g1, g2, g3, g4, g5, g6⟩ := hs
  obtain ⟨A1, kk1, rfl, p1, q1⟩ := g1.form
  obtain ⟨A2, k2, rfl, p2, q2⟩ := g2.form
  obtain ⟨A3, k3, rfl, p3, q3⟩ := g3.form
  obtain ⟨A4, k4, rfl, p4, q4⟩ := g4.form
  obtain ⟨A5, k5, rfl, p5, q5⟩ := g5.form
  obtain ⟨A6, k6, rfl, p6, q6⟩ := g6.form
  clear g1 g2 g3 g4 g5 g6
  have HI := Lib.hid hi
  have y0 := hi.y0
  have y1 := hi.y1
  have x0 := hi.x0
  have x1 := hi.x1
  have hcl := hi.cols
  have hrl := hi.rows
  have c2 := hi.g.c2
  have r2 := hi.g.r2
  have hlen : s.cells.length ≤ 1000000 := by rw [hi.g.n]; exact rc_le hi.g.r2 hi.g.c2
  have c3 : s.cols ≤ 1000 := by omega
  have r3 : s.rows ≤ 1000 := by omega
  have r4 : 1 ≤ s.rows := by omega
  have c4 : s.x < s.cols := by omega
  have c5 : 1 ≤ s.cols := by omega
  have yr : s.y < s.rows := by omega
  have HN := Lib.hid hn
  have HMM := Lib.hid hm
  have HK := Lib.hid hk
  obtain ⟨Al, kl, rfl, pl, ql⟩ := hl.form
  clear hi hcl hrl hn hm hk
  have h2 := two_new w (.cells #[.int .i64 s.rows, .int .i64 s.cols, .slice A1 s.cells.length kk1, .int .i64 s.y, .int .i64 s.x, .bool s.wrap, .int .u16 (s.attr : Int), .int .i64 s.top, .int .i64 s.bottom, .slice A2 s.tabs.length k2, .int .i64 s.sy, .int .i64 s.sx, .int .u16 (s.sattr : Int), .bool s.auto, .bool s.shown, .bool s.alt, .slice A3 s.other.length k3, .int .i64 s.oy, .int .i64 s.ox, .int .i64 (s.p.mode : Int), .int .u8 (s.p.priv : Int), .slice A4 s.p.params.length k4, .slice A5 s.p.inter.length k5, .slice A6 s.p.utf.length k6] 32) (.cells #[.int .i64 0, .int .i64 0, .slice none 0 0, .int .i64 0, .int .i64 0, .bool false, .int .u16 0, .int .i64 0, .int .i64 0, .slice none 0 0, .int .i64 0, .int .i64 0, .int .u16 0, .bool false, .bool false, .bool false, .slice none 0 0, .int .i64 0, .int .i64 0, .int .i64 0, .int .u8 0, .slice none 0 0, .slice none 0 0, .slice none 0 0] 32)
  have HS2 : Hid (∀ x, S x → x < _) := fun x hx => Nat.lt_of_lt_of_le (HSS.out x hx) h2.1.size
  have H2 := Lib.hid h2
  have HL := Lib.hid (hl.keep (fun q hq => h2.1.cell (hT _ hq)))
  have HV := Lib.hid (show SCV _ S (.agg (vS s (.slice A1 s.cells.length kk1) (.slice A2 s.tabs.length k2) (.slice A3 s.other.length k3) (.slice A4 s.p.params.length k4) (.slice A5 s.p.inter.length k5) (.slice A6 s.p.utf.length k6))) s from ⟨_, _, _, _, _, _, rfl, HS.out.below HSS.out h2.1⟩)
  clear hl hT
  have HC := Lib.hid (HS.out.1.cs' HSS.out h2.1 (Nat.le_refl _))
  clear h2
  subst hb
  go_enter Try.func54, Try.ntmps54
  go_upto_region 2 with (first | ((with_reducible refine (paramr_0 HL.out hl2 HN.out).mono ?_); rintro e w' ⟨rfl, rfl⟩) | ((with_reducible refine (paramr_1 HL.out hl2 HMM.out).mono ?_); rintro e w' ⟨rfl, rfl⟩) | ((with_reducible refine (paramr_0 HL.out hl2 HK.out).mono ?_); rintro e w' ⟨rfl, rfl⟩))
  go_upto_region 58 with fail
  ((with_reducible refine (Erase_any _ s.cells s.cols s.y s.x (s.x + n) _ HC.out (by omega)).mono ?_); rintro e w4 ⟨v4, rfl, o4, b4⟩; have hb4 : Below (w.heap.size + 1 + 1) _ w4 := (by rw [← H2.out.2]; exact b4); obtain ⟨e0, e1⟩ := two_keptB hb4; obtain ⟨cc2, ff2⟩ := cellR e0 2 rfl; obtain ⟨cc5, ff5⟩ := cellR e0 5 rfl; have K0 := Lib.hid e0; have K1 := Lib.hid e1; rw [H2.out.2] at o4; have O4 := Lib.hid o4; have B4 := Lib.hid (H2.out.1.trans (hb4.mono (by omega))); have Z4 := b4.size; rw [H2.out.2] at Z4; clear o4 b4 hb4 e0 e1)
  obtain ⟨A7, k7, rfl, p7, q7⟩ := O4.out.cs.form
  go_upto_region 58 with fail
  refine wp_region_lit ?_
  refine wpl_loadS rfl (.tmp 3) rfl rfl ((heap_setCell_same _ _ 5 _ _ _ ((heap_setCell_same _ _ 2 _ _ _ K0.out).trans rfl)).trans rfl) rfl ?_
  refine wpl_storeS rfl (.tmp 6) (.tmp 272) rfl rfl rfl ((heap_setCell_other _ _ _ _ (by simp)).trans ((heap_setCell_other _ _ _ _ (by simp)).trans K1.out)) rfl rfl (all24 rfl rfl rfl rfl rfl rfl rfl rfl rfl rfl rfl rfl rfl rfl rfl rfl rfl rfl rfl rfl rfl rfl rfl rfl) ?_
  go_wp2
  refine scEndC (w.heap.size + 1) 6 Try.results54 ?_ ?_ ((heap_setCell_other _ _ _ _ (by simp)).trans ((heap_setCell_other _ _ _ _ (by simp)).trans K1.out)) (by omega) ((B4.out.setCell (by simp) _).setCell (by simp) _) HSS.out HS.out ?_ ?_ ?_ (w.heap.size + 1 + 1) (by omega) O4.out (fun b hb => (heap_setCell_other _ _ _ _ (by simp; omega)).trans (heap_setCell_other _ _ _ _ (by simp; omega))) (by simp)
  all_goals rfl
set_option maxHeartbeats 2000000 in
set_option maxRecDepth 100000 in
theorem seqr_83 (v vl : Value) (s : Sc) (l : List Int) (b : Int) (r c : Nat) (S T : Nat → Prop) (w : World) (hS : ∀ x, S x → x < w.heap.size) (hT : ∀ x, T x → x < w.heap.size) (h : SCV w S v s) (hi : ScIn s r c) (hl : SL vI w T vl l) (hl2 : l.length ≤ 1048576) (n m k : Int) (hn : paramL l 0 1 = n) (hm : paramL l 1 1 = m) (hk : paramL l 0 0 = k) (n1 : 1 ≤ n) (n2 : n ≤ 65535) (m1 : 1 ≤ m) (m2 : m ≤ 65535) (k0 : 0 ≤ k) (k9 : k ≤ 65535) (hb : b = 83) : Calls Try.prog 54 #[v, .int .u8 b, vl] w (ScPost S { s with cells := upL s.cells s.cols s.top s.bottom n, wrap := false } w) := by
  have HSS := Lib.hid hS
  clear hS
  obtain ⟨vc, vt, vo, vp, vi, vu, rfl, hs⟩ := h
  have HS := Lib.hid hs
  obtain ⟨g1, g2, g3, g4, g5, g6⟩ := hs
  obtain ⟨A1, kk1, rfl, p1, q1⟩ := g1.form
  obtain ⟨A2, k2, rfl, p2, q2⟩ := g2.form
  obtain ⟨A3, k3, rfl, p3, q3⟩ := g3.form
  obtain ⟨A4, k4, rfl, p4, q4⟩ := g4.form
  obtain ⟨A5, k5, rfl, p5, q5⟩ := g5.form
  obtain ⟨A6, k6, rfl, p6, q6⟩ := g6.form
  clear g1 g2 g3 g4 g5 g6
  have HI := Lib.hid hi
  have y0 := hi.y0
  have y1 := hi.y1
  have x0 := hi.x0
  have x1 := hi.x1
  have hcl := hi.cols
  have hrl := hi.rows
  have c2 := hi.g.c2
  have r2 := hi.g.r2
  have hlen : s.cells.length ≤ 1000000 := by rw [hi.g.n]; exact rc_le hi.g.r2 hi.g.c2
  have c3 : s.cols ≤ 1000 := by omega
  have r3 : s.rows ≤ 1000 := by omega
  have r4 : 1 ≤ s.rows := by omega
  have c4 : s.x < s.cols := by omega
  have c5 : 1 ≤ s.cols := by omega
  have yr : s.y < s.rows := by omega
  have HN := Lib.hid hn
  have HMM := Lib.hid hm
  have HK := Lib.hid hk
  obtain ⟨Al, kl, rfl, pl, ql⟩ := hl.form
  clear hi hcl hrl hn hm hk
  have h2 := two_new w (.cells #[.int .i64 s.rows, .int .i64 s.cols, .slice A1 s.cells.length kk1, .int .i64 s.y, .int .i64 s.x, .bool s.wrap, .int .u16 (s.attr : Int), .int .i64 s.top, .int .i64 s.bottom, .slice A2 s.tabs.length k2, .int .i64 s.sy, .int .i64 s.sx, .int .u16 (s.sattr : Int), .bool s.auto, .bool s.shown, .bool s.alt, .slice A3 s.other.length k3, .int .i64 s.oy, .int .i64 s.ox, .int .i64 (s.p.mode : Int), .int .u8 (s.p.priv : Int), .slice A4 s.p.params.length k4, .slice A5 s.p.inter.length k5, .slice A6 s.p.utf.length k6] 32) (.cells #[.int .i64 0, .int .i64 0, .slice none 0 0, .int .i64 0, .int .i64 0, .bool false, .int .u16 0, .int .i64 0, .int .i64 0, .slice none 0 0, .int .i64 0, .int .i64 0, .int .u16 0, .bool false, .bool false, .bool false, .slice none 0 0, .int .i64 0, .int .i64 0, .int .i64 0, .int .u8 0, .slice none 0 0, .slice none 0 0, .slice none 0 0] 32)
  have HS2 : Hid (∀ x, S x → x < _) := fun x hx => Nat.lt_of_lt_of_le (HSS.out x hx) h2.1.size
  have H2 := Lib.hid h2
  have HL := Lib.hid (hl.keep (fun q hq => h2.1.cell (hT _ hq)))
  have HV := Lib.hid (show SCV _ S (.agg (vS s (.slice A1 s.cells.length kk1) (.slice A2 s.tabs.length k2) (.slice A3 s.other.length k3) (.slice A4 s.p.params.length k4) (.slice A5 s.p.inter.length k5) (.slice A6 s.p.utf.length k6))) s from ⟨_, _, _, _, _, _, rfl, HS.out.below HSS.out h2.1⟩)
  clear hl hT
  have HC := Lib.hid (HS.out.1.cs' HSS.out h2.1 (Nat.le_refl _))
  clear h2
  subst hb
  go_enter Try.func54, Try.ntmps54
  go_upto_region 2 with (first | ((with_reducible refine (paramr_0 HL.out hl2 HN.out).mono ?_); rintro e w' ⟨rfl, rfl⟩) | ((with_reducible refine (paramr_1 HL.out hl2 HMM.out).mono ?_); rintro e w' ⟨rfl, rfl⟩) | ((with_reducible refine (paramr_0 HL.out hl2 HK.out).mono ?_); rintro e w' ⟨rfl, rfl⟩))
  go_upto_region 58 with fail
  ((with_reducible refine (Up_any _ s.cells s.cols s.top s.bottom n _ HC.out (by omega)).mono ?_); rintro e w4 ⟨v4, rfl, o4, b4⟩; have hb4 : Below (w.heap.size + 1 + 1) _ w4 := (by rw [← H2.out.2]; exact b4); obtain ⟨e0, e1⟩ := two_keptB hb4; obtain ⟨cc2, ff2⟩ := cellR e0 2 rfl; obtain ⟨cc5, ff5⟩ := cellR e0 5 rfl; have K0 := Lib.hid e0; have K1 := Lib.hid e1; rw [H2.out.2] at o4; have O4 := Lib.hid o4; have B4 := Lib.hid (H2.out.1.trans (hb4.mono (by omega))); have Z4 := b4.size; rw [H2.out.2] at Z4; clear o4 b4 hb4 e0 e1)
  obtain ⟨A7, k7, rfl, p7, q7⟩ := O4.out.cs.form
  go_upto_region 58 with fail
  refine wp_region_lit ?_
  refine wpl_loadS rfl (.tmp 3) rfl rfl ((heap_setCell_same _ _ 5 _ _ _ ((heap_setCell_same _ _ 2 _ _ _ K0.out).trans rfl)).trans rfl) rfl ?_
  refine wpl_storeS rfl (.tmp 6) (.tmp 272) rfl rfl rfl ((heap_setCell_other _ _ _ _ (by simp)).trans ((heap_setCell_other _ _ _ _ (by simp)).trans K1.out)) rfl rfl (all24 rfl rfl rfl rfl rfl rfl rfl rfl rfl rfl rfl rfl rfl rfl rfl rfl rfl rfl rfl rfl rfl rfl rfl rfl) ?_
  go_wp2
  refine scEndC (w.heap.size + 1) 6 Try.results54 ?_ ?_ ((heap_setCell_other _ _ _ _ (by simp)).trans ((heap_setCell_other _ _ _ _ (by simp)).trans K1.out)) (by omega) ((B4.out.setCell (by simp) _).setCell (by simp) _) HSS.out HS.out ?_ ?_ ?_ (w.heap.size + 1 + 1) (by omega) O4.out (fun b hb => (heap_setCell_other _ _ _ _ (by simp; omega)).trans (heap_setCell_other _ _ _ _ (by simp; omega))) (by simp)
  all_goals rfl
set_option maxHeartbeats 2000000 in
set_option maxRecDepth 100000 in
theorem seqr_84 (v vl : Value) (s : Sc) (l : List Int) (b : Int) (r c : Nat) (S T : Nat → Prop) (w : World) (hS : ∀ x, S x → x < w.heap.size) (hT : ∀ x, T x → x < w.heap.size) (h : SCV w S v s) (hi : ScIn s r c) (hl : SL vI w T vl l) (hl2 : l.length ≤ 1048576) (n m k : Int) (hn : paramL l 0 1 = n) (hm : paramL l 1 1 = m) (hk : paramL l 0 0 = k) (n1 : 1 ≤ n) (n2 : n ≤ 65535) (m1 : 1 ≤ m) (m2 : m ≤ 65535) (k0 : 0 ≤ k) (k9 : k ≤ 65535) (hb : b = 84) : Calls Try.prog 54 #[v, .int .u8 b, vl] w (ScPost S { s with cells := downL s.cells s.cols s.top s.bottom n, wrap := false } w) := by
  have HSS := Lib.hid hS
  clear hS
  obtain ⟨vc, vt, vo, vp, vi, vu, rfl, hs⟩ := h
  have HS := Lib.hid hs
  obtain ⟨g1, g2, g3, g4, g5, g6⟩ := hs
  obtain ⟨A1, kk1, rfl, p1, q1⟩ := g1.form
  obtain ⟨A2, k2, rfl, p2, q2⟩ := g2.form
  obtain ⟨A3, k3, rfl, p3, q3⟩ := g3.form
  obtain ⟨A4, k4, rfl, p4, q4⟩ := g4.form
  obtain ⟨A5, k5, rfl, p5, q5⟩ := g5.form
  obtain ⟨A6, k6, rfl, p6, q6⟩ := g6.form
  clear g1 g2 g3 g4 g5 g6
  have HI := Lib.hid hi
  have y0 := hi.y0
  have y1 := hi.y1
  have x0 := hi.x0
  have x1 := hi.x1
  have hcl := hi.cols
  have hrl := hi.rows
  have c2 := hi.g.c2
  have r2 := hi.g.r2
  have hlen : s.cells.length ≤ 1000000 := by rw [hi.g.n]; exact rc_le hi.g.r2 hi.g.c2
  have c3 : s.cols ≤ 1000 := by omega
  have r3 : s.rows ≤ 1000 := by omega
  have r4 : 1 ≤ s.rows := by omega
  have c4 : s.x < s.cols := by omega
  have c5 : 1 ≤ s.cols := by omega
  have yr : s.y < s.rows := by omega
  have HN := Lib.hid hn
  have HMM := Lib.hid hm
  have HK := Lib.hid hk
  obtain ⟨Al, kl, rfl, pl, ql⟩ := hl.form
  clear hi hcl hrl hn hm hk
  have h2 := two_new w (.cells #[.int .i64 s.rows, .int .i64 s.cols, .slice A1 s.cells.length kk1, .int .i64 s.y, .int .i64 s.x, .bool s.wrap, .int .u16 (s.attr : Int), .int .i64 s.top, .int .i64 s.bottom, .slice A2 s.tabs.length k2, .int .i64 s.sy, .int .i64 s.sx, .int .u16 (s.sattr : Int), .bool s.auto, .bool s.shown, .bool s.alt, .slice A3 s.other.length k3, .int .i64 s.oy, .int .i64 s.ox, .int .i64 (s.p.mode : Int), .int .u8 (s.p.priv : Int), .slice A4 s.p.params.length k4, .slice A5 s.p.inter.length k5, .slice A6 s.p.utf.length k6] 32) (.cells #[.int .i64 0, .int .i64 0, .slice none 0 0, .int .i64 0, .int .i64 0, .bool false, .int .u16 0, .int .i64 0, .int .i64 0, .slice none 0 0, .int .i64 0, .int .i64 0, .int .u16 0, .bool false, .bool false, .bool false, .slice none 0 0, .int .i64 0, .int .i64 0, .int .i64 0, .int .u8 0, .slice none 0 0, .slice none 0 0, .slice none 0 0] 32)
  have HS2 : Hid (∀ x, S x → x < _) := fun x hx => Nat.lt_of_lt_of_le (HSS.out x hx) h2.1.size
  have H2 := Lib.hid h2
  have HL := Lib.hid (hl.keep (fun q hq => h2.1.cell (hT _ hq)))
  have HV := Lib.hid (show SCV _ S (.agg (vS s (.slice A1 s.cells.length kk1) (.slice A2 s.tabs.length k2) (.slice A3 s.other.length k3) (.slice A4 s.p.params.length k4) (.slice A5 s.p.inter.length k5) (.slice A6 s.p.utf.length k6))) s from ⟨_, _, _, _, _, _, rfl, HS.out.below HSS.out h2.1⟩)
  clear hl hT
  have HC := Lib.hid (HS.out.1.cs' HSS.out h2.1 (Nat.le_refl _))
  clear h2
  subst hb
  go_enter Try.func54, Try.ntmps54
  go_upto_region 2 with (first | ((with_reducible refine (paramr_0 HL.out hl2 HN.out).mono ?_); rintro e w' ⟨rfl, rfl⟩) | ((with_reducible refine (paramr_1 HL.out hl2 HMM.out).mono ?_); rintro e w' ⟨rfl, rfl⟩) | ((with_reducible refine (paramr_0 HL.out hl2 HK.out).mono ?_); rintro e w' ⟨rfl, rfl⟩))
  go_upto_region 58 with fail
  ((with_reducible refine (Down_any _ s.cells s.cols s.top s.bottom n _ HC.out (by omega)).mono ?_); rintro e w4 ⟨v4, rfl, o4, b4⟩; have hb4 : Below (w.heap.size + 1 + 1) _ w4 := (by rw [← H2.out.2]; exact b4); obtain ⟨e0, e1⟩ := two_keptB hb4; obtain ⟨cc2, ff2⟩ := cellR e0 2 rfl; obtain ⟨cc5, ff5⟩ := cellR e0 5 rfl; have K0 := Lib.hid e0; have K1 := Lib.hid e1; rw [H2.out.2] at o4; have O4 := Lib.hid o4; have B4 := Lib.hid (H2.out.1.trans (hb4.mono (by omega))); have Z4 := b4.size; rw [H2.out.2] at Z4; clear o4 b4 hb4 e0 e1)
  obtain ⟨A7, k7, rfl, p7, q7⟩ := O4.out.cs.form
  go_upto_region 58 with fail
  refine wp_region_lit ?_
  refine wpl_loadS rfl (.tmp 3) rfl rfl ((heap_setCell_same _ _ 5 _ _ _ ((heap_setCell_same _ _ 2 _ _ _ K0.out).trans rfl)).trans rfl) rfl ?_
  refine wpl_storeS rfl (.tmp 6) (.tmp 272) rfl rfl rfl ((heap_setCell_other _ _ _ _ (by simp)).trans ((heap_setCell_other _ _ _ _ (by simp)).trans K1.out)) rfl rfl (all24 rfl rfl rfl rfl rfl rfl rfl rfl rfl rfl rfl rfl rfl rfl rfl rfl rfl rfl rfl rfl rfl rfl rfl rfl) ?_
  go_wp2
  refine scEndC (w.heap.size + 1) 6 Try.results54 ?_ ?_ ((heap_setCell_other _ _ _ _ (by simp)).trans ((heap_setCell_other _ _ _ _ (by simp)).trans K1.out)) (by omega) ((B4.out.setCell (by simp) _).setCell (by simp) _) HSS.out HS.out ?_ ?_ ?_ (w.heap.size + 1 + 1) (by omega) O4.out (fun b hb => (heap_setCell_other _ _ _ _ (by simp; omega)).trans (heap_setCell_other _ _ _ _ (by simp; omega))) (by simp)
  all_goals rfl
set_option maxHeartbeats 2000000 in
set_option maxRecDepth 100000 in
theorem seqr_76 (v vl : Value) (s : Sc) (l : List Int) (b : Int) (r c : Nat) (S T : Nat → Prop) (w : World) (hS : ∀ x, S x → x < w.heap.size) (hT : ∀ x, T x → x < w.heap.size) (h : SCV w S v s) (hi : ScIn s r c) (hl : SL vI w T vl l) (hl2 : l.length ≤ 1048576) (n m k : Int) (hn : paramL l 0 1 = n) (hm : paramL l 1 1 = m) (hk : paramL l 0 0 = k) (n1 : 1 ≤ n) (n2 : n ≤ 65535) (m1 : 1 ≤ m) (m2 : m ≤ 65535) (k0 : 0 ≤ k) (k9 : k ≤ 65535) (hb : b = 76) (hy1 : s.top ≤ s.y) (hy2 : s.y ≤ s.bottom) : Calls Try.prog 54 #[v, .int .u8 b, vl] w (ScPost S { s with wrap := false, x := 0, cells := downL s.cells s.cols s.y s.bottom n } w) := by
  have HSS := Lib.hid hS
  clear hS
  obtain ⟨vc, vt, vo, vp, vi, vu, rfl, hs⟩ := h
  have HS := Lib.hid hs
  obtain ⟨g1, g2, g3, g4, g5, g6⟩ := hs
  obtain ⟨A1, kk1, rfl, p1, q1⟩ := g1.form
  obtain ⟨A2, k2, rfl, p2, q2⟩ := g2.form
  obtain ⟨A3, k3, rfl, p3, q3⟩ := g3.form
  obtain ⟨A4, k4, rfl, p4, q4⟩ := g4.form
  obtain ⟨A5, k5, rfl, p5, q5⟩ := g5.form
  obtain ⟨A6, k6, rfl, p6, q6⟩ := g6.form
  clear g1 g2 g3 g4 g5 g6
  have HI := Lib.hid hi
  have y0 := hi.y0
  have y1 := hi.y1
  have x0 := hi.x0
  have x1 := hi.x1
  have hcl := hi.cols
  have hrl := hi.rows
  have c2 := hi.g.c2
  have r2 := hi.g.r2
  have hlen : s.cells.length ≤ 1000000 := by rw [hi.g.n]; exact rc_le hi.g.r2 hi.g.c2
  have c3 : s.cols ≤ 1000 := by omega
  have r3 : s.rows ≤ 1000 := by omega
  have r4 : 1 ≤ s.rows := by omega
  have c4 : s.x < s.cols := by omega
  have c5 : 1 ≤ s.cols := by omega
  have yr : s.y < s.rows := by omega
  have HN := Lib.hid hn
  have HMM := Lib.hid hm
  have HK := Lib.hid hk
  obtain ⟨Al, kl, rfl, pl, ql⟩ := hl.form
  clear hi hcl hrl hn hm hk
  have h2 := two_new w (.cells #[.int .i64 s.rows, .int .i64 s.cols, .slice A1 s.cells.length kk1, .int .i64 s.y, .int .i64 s.x, .bool s.wrap, .int .u16 (s.attr : Int), .int .i64 s.top, .int .i64 s.bottom, .slice A2 s.tabs.length k2, .int .i64 s.sy, .int .i64 s.sx, .int .u16 (s.sattr : Int), .bool s.auto, .bool s.shown, .bool s.alt, .slice A3 s.other.length k3, .int .i64 s.oy, .int .i64 s.ox, .int .i64 (s.p.mode : Int), .int .u8 (s.p.priv : Int), .slice A4 s.p.params.length k4, .slice A5 s.p.inter.length k5, .slice A6 s.p.utf.length k6] 32) (.cells #[.int .i64 0, .int .i64 0, .slice none 0 0, .int .i64 0, .int .i64 0, .bool false, .int .u16 0, .int .i64 0, .int .i64 0, .slice none 0 0, .int .i64 0, .int .i64 0, .int .u16 0, .bool false, .bool false, .bool false, .slice none 0 0, .int .i64 0, .int .i64 0, .int .i64 0, .int .u8 0, .slice none 0 0, .slice none 0 0, .slice none 0 0] 32)
  have HS2 : Hid (∀ x, S x → x < _) := fun x hx => Nat.lt_of_lt_of_le (HSS.out x hx) h2.1.size
  have H2 := Lib.hid h2
  have h3 := two_new w (.cells #[.int .i64 s.rows, .int .i64 s.cols, .slice A1 s.cells.length kk1, .int .i64 s.y, .int .i64 0, .bool false, .int .u16 (s.attr : Int), .int .i64 s.top, .int .i64 s.bottom, .slice A2 s.tabs.length k2, .int .i64 s.sy, .int .i64 s.sx, .int .u16 (s.sattr : Int), .bool s.auto, .bool s.shown, .bool s.alt, .slice A3 s.other.length k3, .int .i64 s.oy, .int .i64 s.ox, .int .i64 (s.p.mode : Int), .int .u8 (s.p.priv : Int), .slice A4 s.p.params.length k4, .slice A5 s.p.inter.length k5, .slice A6 s.p.utf.length k6] 32) (.cells #[.int .i64 0, .int .i64 0, .slice none 0 0, .int .i64 0, .int .i64 0, .bool false, .int .u16 0, .int .i64 0, .int .i64 0, .slice none 0 0, .int .i64 0, .int .i64 0, .int .u16 0, .bool false, .bool false, .bool false, .slice none 0 0, .int .i64 0, .int .i64 0, .int .i64 0, .int .u8 0, .slice none 0 0, .slice none 0 0, .slice none 0 0] 32)
  have HL := Lib.hid (hl.keep (fun q hq => h2.1.cell (hT _ hq)))
  have HV := Lib.hid (show SCV _ S (.agg (vS s (.slice A1 s.cells.length kk1) (.slice A2 s.tabs.length k2) (.slice A3 s.other.length k3) (.slice A4 s.p.params.length k4) (.slice A5 s.p.inter.length k5) (.slice A6 s.p.utf.length k6))) s from ⟨_, _, _, _, _, _, rfl, HS.out.below HSS.out h2.1⟩)
  clear hl hT
  have HC := Lib.hid (HS.out.1.cs' HSS.out h3.1 (Nat.le_refl _))
  clear H2
  have H2 := Lib.hid h3
  clear h2 h3
  subst hb
  go_enter Try.func54, Try.ntmps54
  go_upto_region 2 with (first | ((with_reducible refine (paramr_0 HL.out hl2 HN.out).mono ?_); rintro e w' ⟨rfl, rfl⟩) | ((with_reducible refine (paramr_1 HL.out hl2 HMM.out).mono ?_); rintro e w' ⟨rfl, rfl⟩) | ((with_reducible refine (paramr_0 HL.out hl2 HK.out).mono ?_); rintro e w' ⟨rfl, rfl⟩))
  go_upto_region 58 with fail
  ((with_reducible refine (Down_any _ s.cells s.cols s.y s.bottom n _ HC.out (by omega)).mono ?_); rintro e w4 ⟨v4, rfl, o4, b4⟩; have hb4 : Below (w.heap.size + 1 + 1) _ w4 := (by rw [← H2.out.2]; exact b4); obtain ⟨e0, e1⟩ := two_keptB hb4; obtain ⟨cc2, ff2⟩ := cellR e0 2 rfl; have K0 := Lib.hid e0; have K1 := Lib.hid e1; rw [H2.out.2] at o4; have O4 := Lib.hid o4; have B4 := Lib.hid (H2.out.1.trans (hb4.mono (by omega))); have Z4 := b4.size; rw [H2.out.2] at Z4; clear o4 b4 hb4 e0 e1)
  obtain ⟨A7, k7, rfl, p7, q7⟩ := O4.out.cs.form
  go_upto_region 58 with fail
  refine wp_region_lit ?_
  refine wpl_loadS rfl (.tmp 3) rfl rfl ((heap_setCell_same _ _ 2 _ _ _ K0.out).trans rfl) rfl ?_
  refine wpl_storeS rfl (.tmp 6) (.tmp 272) rfl rfl rfl ((heap_setCell_other _ _ _ _ (by simp)).trans K1.out) rfl rfl (all24 rfl rfl rfl rfl rfl rfl rfl rfl rfl rfl rfl rfl rfl rfl rfl rfl rfl rfl rfl rfl rfl rfl rfl rfl) ?_
  go_wp2
  refine scEndC (w.heap.size + 1) 6 Try.results54 ?_ ?_ ((heap_setCell_other _ _ _ _ (by simp)).trans K1.out) (by omega) (B4.out.setCell (by simp) _) HSS.out HS.out ?_ ?_ ?_ (w.heap.size + 1 + 1) (by omega) O4.out (fun b hb => heap_setCell_other _ _ _ _ (by simp; omega)) (by simp)
  all_goals rfl
set_option maxHeartbeats 2000000 in
set_option maxRecDepth 100000 in
theorem seqr_77 (v vl : Value) (s : Sc) (l : List Int) (b : Int) (r c : Nat) (S T : Nat → Prop) (w : World) (hS : ∀ x, S x → x < w.heap.size) (hT : ∀ x, T x → x < w.heap.size) (h : SCV w S v s) (hi : ScIn s r c) (hl : SL vI w T vl l) (hl2 : l.length ≤ 1048576) (n m k : Int) (hn : paramL l 0 1 = n) (hm : paramL l 1 1 = m) (hk : paramL l 0 0 = k) (n1 : 1 ≤ n) (n2 : n ≤ 65535) (m1 : 1 ≤ m) (m2 : m ≤ 65535) (k0 : 0 ≤ k) (k9 : k ≤ 65535) (hb : b = 77) (hy1 : s.top ≤ s.y) (hy2 : s.y ≤ s.bottom) : Calls Try.prog 54 #[v, .int .u8 b, vl] w (ScPost S { s with wrap := false, x := 0, cells := upL s.cells s.cols s.y s.bottom n } w) := by
  have HSS := Lib.hid hS
  clear hS
  obtain ⟨vc, vt, vo, vp, vi, vu, rfl, hs⟩ := h
  have HS := Lib.hid hs
  obtain ⟨g1, g2, g3, g4, g5, g6⟩ := hs
  obtain ⟨A1, kk1, rfl, p1, q1⟩ := g1.form
  obtain ⟨A2, k2, rfl, p2, q2⟩ := g2.form
  obtain ⟨A3, k3, rfl, p3, q3⟩ := g3.form
  obtain ⟨A4, k4, rfl, p4, q4⟩ := g4.form
  obtain ⟨A5, k5, rfl, p5, q5⟩ := g5.form
  obtain ⟨A6, k6, rfl, p6, q6⟩ := g6.form
  clear g1 g2 g3 g4 g5 g6
  have HI := Lib.hid hi
  have y0 := hi.y0
  have y1 := hi.y1
  have x0 := hi.x0
  have x1 := hi.x1
  have hcl := hi.cols
  have hrl := hi.rows
  have c2 := hi.g.c2
  have r2 := hi.g.r2
  have hlen : s.cells.length ≤ 1000000 := by rw [hi.g.n]; exact rc_le hi.g.r2 hi.g.c2
  have c3 : s.cols ≤ 1000 := by omega
  have r3 : s.rows ≤ 1000 := by omega
  have r4 : 1 ≤ s.rows := by omega
  have c4 : s.x < s.cols := by omega
  have c5 : 1 ≤ s.cols := by omega
  have yr : s.y < s.rows := by omega
  have HN := Lib.hid hn
  have HMM := Lib.hid hm
  have HK := Lib.hid hk
  obtain ⟨Al, kl, rfl, pl, ql⟩ := hl.form
  clear hi hcl hrl hn hm hk
  have h2 := two_new w (.cells #[.int .i64 s.rows, .int .i64 s.cols, .slice A1 s.cells.length kk1, .int .i64 s.y, .int .i64 s.x, .bool s.wrap, .int .u16 (s.attr : Int), .int .i64 s.top, .int .i64 s.bottom, .slice A2 s.tabs.length k2, .int .i64 s.sy, .int .i64 s.sx, .int .u16 (s.sattr : Int), .bool s.auto, .bool s.shown, .bool s.alt, .slice A3 s.other.length k3, .int .i64 s.oy, .int .i64 s.ox, .int .i64 (s.p.mode : Int), .int .u8 (s.p.priv : Int), .slice A4 s.p.params.length k4, .slice A5 s.p.inter.length k5, .slice A6 s.p.utf.length k6] 32) (.cells #[.int .i64 0, .int .i64 0, .slice none 0 0, .int .i64 0, .int .i64 0, .bool false, .int .u16 0, .int .i64 0, .int .i64 0, .slice none 0 0, .int .i64 0, .int .i64 0, .int .u16 0, .bool false, .bool false, .bool false, .slice none 0 0, .int .i64 0, .int .i64 0, .int .i64 0, .int .u8 0, .slice none 0 0, .slice none 0 0, .slice none 0 0] 32)
  have HS2 : Hid (∀ x, S x → x < _) := fun x hx => Nat.lt_of_lt_of_le (HSS.out x hx) h2.1.size
  have H2 := Lib.hid h2
  have h3 := two_new w (.cells #[.int .i64 s.rows, .int .i64 s.cols, .slice A1 s.cells.length kk1, .int .i64 s.y, .int .i64 0, .bool false, .int .u16 (s.attr : Int), .int .i64 s.top, .int .i64 s.bottom, .slice A2 s.tabs.length k2, .int .i64 s.sy, .int .i64 s.sx, .int .u16 (s.sattr : Int), .bool s.auto, .bool s.shown, .bool s.alt, .slice A3 s.other.length k3, .int .i64 s.oy, .int .i64 s.ox, .int .i64 (s.p.mode : Int), .int .u8 (s.p.priv : Int), .slice A4 s.p.params.length k4, .slice A5 s.p.inter.length k5, .slice A6 s.p.utf.length k6] 32) (.cells #[.int .i64 0, .int .i64 0, .slice none 0 0, .int .i64 0, .int .i64 0, .bool false, .int .u16 0, .int .i64 0, .int .i64 0, .slice none 0 0, .int .i64 0, .int .i64 0, .int .u16 0, .bool false, .bool false, .bool false, .slice none 0 0, .int .i64 0, .int .i64 0, .int .i64 0, .int .u8 0, .slice none 0 0, .slice none 0 0, .slice none 0 0] 32)
  have HL := Lib.hid (hl.keep (fun q hq => h2.1.cell (hT _ hq)))
  have HV := Lib.hid (show SCV _ S (.agg (vS s (.slice A1 s.cells.length kk1) (.slice A2 s.tabs.length k2) (.slice A3 s.other.length k3) (.slice A4 s.p.params.length k4) (.slice A5 s.p.inter.length k5) (.slice A6 s.p.utf.length k6))) s from ⟨_, _, _, _, _, _, rfl, HS.out.below HSS.out h2.1⟩)
  clear hl hT
  have HC := Lib.hid (HS.out.1.cs' HSS.out h3.1 (Nat.le_refl _))
  clear H2
  have H2 := Lib.hid h3
  clear h2 h3
  subst hb
  go_enter Try.func54, Try.ntmps54
  go_upto_region 2 with (first | ((with_reducible refine (paramr_0 HL.out hl2 HN.out).mono ?_); rintro e w' ⟨rfl, rfl⟩) | ((with_reducible refine (paramr_1 HL.out hl2 HMM.out).mono ?_); rintro e w' ⟨rfl, rfl⟩) | ((with_reducible refine (paramr_0 HL.out hl2 HK.out).mono ?_); rintro e w' ⟨rfl, rfl⟩))
  go_upto_region 58 with fail
  ((with_reducible refine (Up_any _ s.cells s.cols s.y s.bottom n _ HC.out (by omega)).mono ?_); rintro e w4 ⟨v4, rfl, o4, b4⟩; have hb4 : Below (w.heap.size + 1 + 1) _ w4 := (by rw [← H2.out.2]; exact b4); obtain ⟨e0, e1⟩ := two_keptB hb4; obtain ⟨cc2, ff2⟩ := cellR e0 2 rfl; have K0 := Lib.hid e0; have K1 := Lib.hid e1; rw [H2.out.2] at o4; have O4 := Lib.hid o4; have B4 := Lib.hid (H2.out.1.trans (hb4.mono (by omega))); have Z4 := b4.size; rw [H2.out.2] at Z4; clear o4 b4 hb4 e0 e1)
  obtain ⟨A7, k7, rfl, p7, q7⟩ := O4.out.cs.form
  go_upto_region 58 with fail
  refine wp_region_lit ?_
  refine wpl_loadS rfl (.tmp 3) rfl rfl ((heap_setCell_same _ _ 2 _ _ _ K0.out).trans rfl) rfl ?_
  refine wpl_storeS rfl (.tmp 6) (.tmp 272) rfl rfl rfl ((heap_setCell_other _ _ _ _ (by simp)).trans K1.out) rfl rfl (all24 rfl rfl rfl rfl rfl rfl rfl rfl rfl rfl rfl rfl rfl rfl rfl rfl rfl rfl rfl rfl rfl rfl rfl rfl) ?_
  go_wp2
  refine scEndC (w.heap.size + 1) 6 Try.results54 ?_ ?_ ((heap_setCell_other _ _ _ _ (by simp)).trans K1.out) (by omega) (B4.out.setCell (by simp) _) HSS.out HS.out ?_ ?_ ?_ (w.heap.size + 1 + 1) (by omega) O4.out (fun b hb => heap_setCell_other _ _ _ _ (by simp; omega)) (by simp)
  all_goals rfl
set_option maxHeartbeats 2000000 in
set_option maxRecDepth 100000 in
theorem seqr_lm (v vl : Value) (s : Sc) (l : List Int) (b : Int) (r c : Nat) (S T : Nat → Prop) (w : World) (hS : ∀ x, S x → x < w.heap.size) (hT : ∀ x, T x → x < w.heap.size) (h : SCV w S v s) (hi : ScIn s r c) (hl : SL vI w T vl l) (hl2 : l.length ≤ 1048576) (n m k : Int) (hn : paramL l 0 1 = n) (hm : paramL l 1 1 = m) (hk : paramL l 0 0 = k) (n1 : 1 ≤ n) (n2 : n ≤ 65535) (m1 : 1 ≤ m) (m2 : m ≤ 65535) (k0 : 0 ≤ k) (k9 : k ≤ 65535) (hb : b = 76 ∨ b = 77) (hy : ¬ (s.top ≤ s.y ∧ s.y ≤ s.bottom)) : Calls Try.prog 54 #[v, .int .u8 b, vl] w (ScPost S { s with wrap := false } w) := by
  have HSS := Lib.hid hS
  clear hS
  obtain ⟨vc, vt, vo, vp, vi, vu, rfl, hs⟩ := h
  have HS := Lib.hid hs
  obtain ⟨g1, g2, g3, g4, g5, g6⟩ := hs
  obtain ⟨A1, kk1, rfl, p1, q1⟩ := g1.form
  obtain ⟨A2, k2, rfl, p2, q2⟩ := g2.form
  obtain ⟨A3, k3, rfl, p3, q3⟩ := g3.form
  obtain ⟨A4, k4, rfl, p4, q4⟩ := g4.form
  obtain ⟨A5, k5, rfl, p5, q5⟩ := g5.form
  obtain ⟨A6, k6, rfl, p6, q6⟩ := g6.form
  clear g1 g2 g3 g4 g5 g6
  have HI := Lib.hid hi
  have y0 := hi.y0
  have y1 := hi.y1
  have x0 := hi.x0
  have x1 := hi.x1
  have hcl := hi.cols
  have hrl := hi.rows
  have c2 := hi.g.c2
  have r2 := hi.g.r2
  have hlen : s.cells.length ≤ 1000000 := by rw [hi.g.n]; exact rc_le hi.g.r2 hi.g.c2
  have c3 : s.cols ≤ 1000 := by omega
  have r3 : s.rows ≤ 1000 := by omega
  have r4 : 1 ≤ s.rows := by omega
  have c4 : s.x < s.cols := by omega
  have c5 : 1 ≤ s.cols := by omega
  have yr : s.y < s.rows := by omega
  have HN := Lib.hid hn
  have HMM := Lib.hid hm
  have HK := Lib.hid hk
  obtain ⟨Al, kl, rfl, pl, ql⟩ := hl.form
  clear hi hcl hrl hn hm hk
  have h2 := two_new w (.cells #[.int .i64 s.rows, .int .i64 s.cols, .slice A1 s.cells.length kk1, .int .i64 s.y, .int .i64 s.x, .bool s.wrap, .int .u16 (s.attr : Int), .int .i64 s.top, .int .i64 s.bottom, .slice A2 s.tabs.length k2, .int .i64 s.sy, .int .i64 s.sx, .int .u16 (s.sattr : Int), .bool s.auto, .bool s.shown, .bool s.alt, .slice A3 s.other.length k3, .int .i64 s.oy, .int .i64 s.ox, .int .i64 (s.p.mode : Int), .int .u8 (s.p.priv : Int), .slice A4 s.p.params.length k4, .slice A5 s.p.inter.length k5, .slice A6 s.p.utf.length k6] 32) (.cells #[.int .i64 0, .int .i64 0, .slice none 0 0, .int .i64 0, .int .i64 0, .bool false, .int .u16 0, .int .i64 0, .int .i64 0, .slice none 0 0, .int .i64 0, .int .i64 0, .int .u16 0, .bool false, .bool false, .bool false, .slice none 0 0, .int .i64 0, .int .i64 0, .int .i64 0, .int .u8 0, .slice none 0 0, .slice none 0 0, .slice none 0 0] 32)
  have HS2 : Hid (∀ x, S x → x < _) := fun x hx => Nat.lt_of_lt_of_le (HSS.out x hx) h2.1.size
  have H2 := Lib.hid h2
  have HL := Lib.hid (hl.keep (fun q hq => h2.1.cell (hT _ hq)))
  have HV := Lib.hid (show SCV _ S (.agg (vS s (.slice A1 s.cells.length kk1) (.slice A2 s.tabs.length k2) (.slice A3 s.other.length k3) (.slice A4 s.p.params.length k4) (.slice A5 s.p.inter.length k5) (.slice A6 s.p.utf.length k6))) s from ⟨_, _, _, _, _, _, rfl, HS.out.below HSS.out h2.1⟩)
  clear hl hT
  clear h2
  by_cases hy1 : s.top ≤ s.y
  · have hy2 : s.bottom < s.y := by omega
    have hy3 : decide (s.y ≤ s.bottom) = false := by simpa using hy2
    clear hy
    rcases hb with rfl | rfl
    all_goals
      go_enter Try.func54, Try.ntmps54
      go_upto_region 2 with (first | ((with_reducible refine (paramr_0 HL.out hl2 HN.out).mono ?_); rintro e w' ⟨rfl, rfl⟩) | ((with_reducible refine (paramr_1 HL.out hl2 HMM.out).mono ?_); rintro e w' ⟨rfl, rfl⟩) | ((with_reducible refine (paramr_0 HL.out hl2 HK.out).mono ?_); rintro e w' ⟨rfl, rfl⟩))
      go_upto_region 58 with fail
      refine wp_region_lit ?_
      refine wpl_loadS rfl (.tmp 3) rfl rfl (heap_a1 w _ _) rfl ?_
      refine wpl_storeS rfl (.tmp 6) (.tmp 272) rfl rfl rfl (heap_a2 w _ _) rfl rfl (all24 rfl rfl rfl rfl rfl rfl rfl rfl rfl rfl rfl rfl rfl rfl rfl rfl rfl rfl rfl rfl rfl rfl rfl rfl) ?_
      go_wp2
      refine scEnd (w.heap.size + 1) 6 Try.results54 ?_ ?_ (heap_a2 w _ _) (by omega) (two_new w _ _).1 HSS.out (HS.out.like ?_ ?_ ?_ ?_)
      all_goals rfl
  · have hy2 : s.y < s.top := by omega
    have hy3 : decide (s.top ≤ s.y) = false := by simpa using hy2
    clear hy
    rcases hb with rfl | rfl
    all_goals
      go_enter Try.func54, Try.ntmps54
      go_upto_region 2 with (first | ((with_reducible refine (paramr_0 HL.out hl2 HN.out).mono ?_); rintro e w' ⟨rfl, rfl⟩) | ((with_reducible refine (paramr_1 HL.out hl2 HMM.out).mono ?_); rintro e w' ⟨rfl, rfl⟩) | ((with_reducible refine (paramr_0 HL.out hl2 HK.out).mono ?_); rintro e w' ⟨rfl, rfl⟩))
      go_upto_region 58 with fail
      refine wp_region_lit ?_
      refine wpl_loadS rfl (.tmp 3) rfl rfl (heap_a1 w _ _) rfl ?_
      refine wpl_storeS rfl (.tmp 6) (.tmp 272) rfl rfl rfl (heap_a2 w _ _) rfl rfl (all24 rfl rfl rfl rfl rfl rfl rfl rfl rfl rfl rfl rfl rfl rfl rfl rfl rfl rfl rfl rfl rfl rfl rfl rfl) ?_
      go_wp2
      refine scEnd (w.heap.size + 1) 6 Try.results54 ?_ ?_ (heap_a2 w _ _) (by omega) (two_new w _ _).1 HSS.out (HS.out.like ?_ ?_ ?_ ?_)
      all_goals rfl
end Go.Proofs.Ytfimfipflfkolaa
