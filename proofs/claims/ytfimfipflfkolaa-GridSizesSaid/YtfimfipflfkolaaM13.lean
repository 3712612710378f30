/- What is proved here: the contract of the document's sequences that move, that erase. -/
import Derived.Test.YtfimfipflfkolaaM12
namespace Go.Proofs.Ytfimfipflfkolaa
open Go.RowKit
set_option linter.unusedVariables false
set_option linter.unusedSimpArgs false

theorem paramr_0 {v : Value} {l : List Int} {u n : Int} {T : Nat → Prop} {w : World} (h : SL vI w T v l) (hl : l.length ≤ 1048576) (hn : paramL l 0 u = n) : Calls Try.prog 62 #[v, .int .i64 0, .int .i64 u] w fun e w' => e = .returned (.int .i64 n) ∧ w = w' := by
  subst hn
  exact paramr_any v l 0 u T w h hl (by omega)
theorem paramr_1 {v : Value} {l : List Int} {u n : Int} {T : Nat → Prop} {w : World} (h : SL vI w T v l) (hl : l.length ≤ 1048576) (hn : paramL l 1 u = n) : Calls Try.prog 62 #[v, .int .i64 1, .int .i64 u] w fun e w' => e = .returned (.int .i64 n) ∧ w = w' := by
  subst hn
  exact paramr_any v l 1 u T w h hl (by omega)
theorem paramL_bd {l : List Int} (h : ∀ x ∈ l, 0 ≤ x ∧ x ≤ 65535) (i : Nat) (u : Int) (hu : 0 ≤ u) (hu2 : u ≤ 65535) : u ≤ paramL l i u ∨ 1 ≤ paramL l i u := by
  unfold paramL
  split
  · exact .inl (Int.le_refl _)
  · rename_i hne
    refine .inr ?_
    have hm : 0 ≤ l.getD i 0 := by
      unfold List.getD
      cases hx : l[i]? with
      | none => exact Int.le_refl _
      | some x => exact (h x (List.mem_of_getElem? hx)).1
    omega
theorem paramL_hi {l : List Int} (h : ∀ x ∈ l, 0 ≤ x ∧ x ≤ 65535) (i : Nat) (u : Int) (hu : 0 ≤ u) (hu2 : u ≤ 65535) : 0 ≤ paramL l i u ∧ paramL l i u ≤ 65535 := by
  unfold paramL
  split
  · exact ⟨hu, hu2⟩
  · unfold List.getD
    cases hx : l[i]? with
    | none => exact ⟨Int.le_refl _, by show (0 : Int) ≤ 65535; omega⟩
    | some x => exact h x (List.mem_of_getElem? hx)
set_option maxHeartbeats 2000000 in
set_option maxRecDepth 100000 in
theorem seqr_65 (v vl : Value) (s : Sc) (l : List Int) (b : Int) (r c : Nat) (S T : Nat → Prop) (w : World) (hS : ∀ x, S x → x < w.heap.size) (hT : ∀ x, T x → x < w.heap.size) (h : SCV w S v s) (hi : ScIn s r c) (hl : SL vI w T vl l) (hl2 : l.length ≤ 1048576) (n m k : Int) (hn : paramL l 0 1 = n) (hm : paramL l 1 1 = m) (hk : paramL l 0 0 = k) (n1 : 1 ≤ n) (n2 : n ≤ 65535) (m1 : 1 ≤ m) (m2 : m ≤ 65535) (k0 : 0 ≤ k) (k9 : k ≤ 65535) (hb : b = 65) : Calls Try.prog 54 #[v, .int .u8 b, vl] w (ScPost S (toS s (s.y - n) (s.x)) w) := by
  have HSS := Lib.hid hS
  clear hS
  obtain ⟨vc, vt, vo, vp, vi, vu, rfl, hs⟩ := h
  have HS := Lib.hid hs
  obtain ⟨g1, g2, g3, g4, g5, g6⟩ := hs
  obtain ⟨A1, kk1, rfl, p1, q1⟩ := g1.form
  obtain ⟨A2, k2, rfl, p2, q2⟩ := g2.form
  obtain ⟨A3, k3, rfl, p3, q3⟩ := g3.form
  obtain ⟨A4, k4, rfl, p4, q4⟩ := g4.form
  obtain ⟨A5, k5, rfl, p5, q5⟩ := g5.form
  obtain ⟨A6, k6, rfl, p6, q6⟩ := g6.form
  clear g1 g2 g3 g4 g5 g6
  have HI := Lib.hid hi
  have y0 := hi.y0
  have y1 := hi.y1
  have x0 := hi.x0
  have x1 := hi.x1
  have hcl := hi.cols
  have hrl := hi.rows
  have c2 := hi.g.c2
  have r2 := hi.g.r2
  have hlen : s.cells.length ≤ 1000000 := by rw [hi.g.n]; exact rc_le hi.g.r2 hi.g.c2
  have c3 : s.cols ≤ 1000 := by omega
  have r3 : s.rows ≤ 1000 := by omega
  have r4 : 1 ≤ s.rows := by omega
  have c4 : s.x < s.cols := by omega
  have c5 : 1 ≤ s.cols := by omega
  have yr : s.y < s.rows := by omega
  have HN := Lib.hid hn
  have HMM := Lib.hid hm
  have HK := Lib.hid hk
  obtain ⟨Al, kl, rfl, pl, ql⟩ := hl.form
  clear hi hcl hrl hn hm hk
  have h2 := two_new w (.cells #[.int .i64 s.rows, .int .i64 s.cols, .slice A1 s.cells.length kk1, .int .i64 s.y, .int .i64 s.x, .bool s.wrap, .int .u16 (s.attr : Int), .int .i64 s.top, .int .i64 s.bottom, .slice A2 s.tabs.length k2, .int .i64 s.sy, .int .i64 s.sx, .int .u16 (s.sattr : Int), .bool s.auto, .bool s.shown, .bool s.alt, .slice A3 s.other.length k3, .int .i64 s.oy, .int .i64 s.ox, .int .i64 (s.p.mode : Int), .int .u8 (s.p.priv : Int), .slice A4 s.p.params.length k4, .slice A5 s.p.inter.length k5, .slice A6 s.p.utf.length k6] 32) (.cells #[.int .i64 0, .int .i64 0, .slice none 0 0, .int .i64 0, .int .i64 0, .bool false, .int .u16 0, .int .i64 0, .int .i64 0, .slice none 0 0, .int .i64 0, .int .i64 0, .int .u16 0, .bool false, .bool false, .bool false, .slice none 0 0, .int .i64 0, .int .i64 0, .int .i64 0, .int .u8 0, .slice none 0 0, .slice none 0 0, .slice none 0 0] 32)
  have HS2 : Hid (∀ x, S x → x < _) := fun x hx => Nat.lt_of_lt_of_le (HSS.out x hx) h2.1.size
  have H2 := Lib.hid h2
  have HL := Lib.hid (hl.keep (fun q hq => h2.1.cell (hT _ hq)))
  have HV := Lib.hid (show SCV _ S (.agg (vS s (.slice A1 s.cells.length kk1) (.slice A2 s.tabs.length k2) (.slice A3 s.other.length k3) (.slice A4 s.p.params.length k4) (.slice A5 s.p.inter.length k5) (.slice A6 s.p.utf.length k6))) s from ⟨_, _, _, _, _, _, rfl, HS.out.below HSS.out h2.1⟩)
  clear hl hT
  clear h2
  subst hb
  go_enter Try.func54, Try.ntmps54
  go_upto_region 2 with (first | ((with_reducible refine (paramr_0 HL.out hl2 HN.out).mono ?_); rintro e w' ⟨rfl, rfl⟩) | ((with_reducible refine (paramr_1 HL.out hl2 HMM.out).mono ?_); rintro e w' ⟨rfl, rfl⟩) | ((with_reducible refine (paramr_0 HL.out hl2 HK.out).mono ?_); rintro e w' ⟨rfl, rfl⟩))
  go_upto_region 4 with fail
  refine wp_region_lit ?_
  refine wpl_loadS rfl (.tmp 3) rfl rfl (heap_a1 w _ _) rfl ?_
  go_wp2_with fail
  ((with_reducible refine (tor_any _ s (s.y - n) (s.x) S _ HS2.out HV.out r4 r3 c5 c3).mono ?_); rintro e w4 ⟨v4, rfl, hv4, b4⟩)
  have hb4 : Below (w.heap.size + 1 + 1) _ w4 := (by rw [← H2.out.2]; exact b4)
  obtain ⟨e0, e1⟩ := two_keptB hb4
  have z4 := b4.size
  rw [H2.out.2] at z4
  obtain ⟨uc, ut, uo, up, ui, uu, rfl, hs4⟩ := hv4
  rename_i K hK
  refine hK _ _ ?_
  refine wpl_storeS rfl (.tmp 6) (.tmp 29) rfl rfl rfl e1 rfl rfl hs4.one ?_
  go_wp2
  refine scEndV (w.heap.size + 1) 6 Try.results54 rfl rfl e1 (by omega) (H2.out.1.trans (hb4.mono (by omega))) HSS.out hs4 (fun x hx => ?_)
  rcases hx with h | h
  · exact .inl h
  · have := h.1
    rw [H2.out.2] at this
    exact .inr ⟨by omega, h.2⟩
set_option maxHeartbeats 2000000 in
set_option maxRecDepth 100000 in
theorem seqr_66 (v vl : Value) (s : Sc) (l : List Int) (b : Int) (r c : Nat) (S T : Nat → Prop) (w : World) (hS : ∀ x, S x → x < w.heap.size) (hT : ∀ x, T x → x < w.heap.size) (h : SCV w S v s) (hi : ScIn s r c) (hl : SL vI w T vl l) (hl2 : l.length ≤ 1048576) (n m k : Int) (hn : paramL l 0 1 = n) (hm : paramL l 1 1 = m) (hk : paramL l 0 0 = k) (n1 : 1 ≤ n) (n2 : n ≤ 65535) (m1 : 1 ≤ m) (m2 : m ≤ 65535) (k0 : 0 ≤ k) (k9 : k ≤ 65535) (hb : b = 66) : Calls Try.prog 54 #[v, .int .u8 b, vl] w (ScPost S (toS s (s.y + n) (s.x)) w) := by
  have HSS := Lib.hid hS
  clear hS
  obtain ⟨vc, vt, vo, vp, vi, vu, rfl, hs⟩ := h
  have HS := Lib.hid hs
  obtain ⟨g1, g2, g3, g4, g5, g6⟩ := hs
  obtain ⟨A1, kk1, rfl, p1, q1⟩ := g1.form
  obtain ⟨A2, k2, rfl, p2, q2⟩ := g2.form
  obtain ⟨A3, k3, rfl, p3, q3⟩ := g3.form
  obtain ⟨A4, k4, rfl, p4, q4⟩ := g4.form
  obtain ⟨A5, k5, rfl, p5, q5⟩ := g5.form
  obtain ⟨A6, k6, rfl, p6, q6⟩ := g6.form
  clear g1 g2 g3 g4 g5 g6
  have HI := Lib.hid hi
  have y0 := hi.y0
  have y1 := hi.y1
  have x0 := hi.x0
  have x1 := hi.x1
  have hcl := hi.cols
  have hrl := hi.rows
  have c2 := hi.g.c2
  have r2 := hi.g.r2
  have hlen : s.cells.length ≤ 1000000 := by rw [hi.g.n]; exact rc_le hi.g.r2 hi.g.c2
  have c3 : s.cols ≤ 1000 := by omega
  have r3 : s.rows ≤ 1000 := by omega
  have r4 : 1 ≤ s.rows := by omega
  have c4 : s.x < s.cols := by omega
  have c5 : 1 ≤ s.cols := by omega
  have yr : s.y < s.rows := by omega
  have HN := Lib.hid hn
  have HMM := Lib.hid hm
  have HK := Lib.hid hk
  obtain ⟨Al, kl, rfl, pl, ql⟩ := hl.form
  clear hi hcl hrl hn hm hk
  have h2 := two_new w (.cells #[.int .i64 s.rows, .int .i64 s.cols, .slice A1 s.cells.length kk1, .int .i64 s.y, .int .i64 s.x, .bool s.wrap, .int .u16 (s.attr : Int), .int .i64 s.top, .int .i64 s.bottom, .slice A2 s.tabs.length k2, .int .i64 s.sy, .int .i64 s.sx, .int .u16 (s.sattr : Int), .bool s.auto, .bool s.shown, .bool s.alt, .slice A3 s.other.length k3, .int .i64 s.oy, .int .i64 s.ox, .int .i64 (s.p.mode : Int), .int .u8 (s.p.priv : Int), .slice A4 s.p.params.length k4, .slice A5 s.p.inter.length k5, .slice A6 s.p.utf.length k6] 32) (.cells #[.int .i64 0, .int .i64 0, .slice none 0 0, .int .i64 0, .int .i64 0, .bool false, .int .u16 0, .int .i64 0, .int .i64 0, .slice none 0 0, .int .i64 0, .int .i64 0, .int .u16 0, .bool false, .bool false, .bool false, .slice none 0 0, .int .i64 0, .int .i64 0, .int .i64 0, .int .u8 0, .slice none 0 0, .slice none 0 0, .slice none 0 0] 32)
  have HS2 : Hid (∀ x, S x → x < _) := fun x hx => Nat.lt_of_lt_of_le (HSS.out x hx) h2.1.size
  have H2 := Lib.hid h2
  have HL := Lib.hid (hl.keep (fun q hq => h2.1.cell (hT _ hq)))
  have HV := Lib.hid (show SCV _ S (.agg (vS s (.slice A1 s.cells.length kk1) (.slice A2 s.tabs.length k2) (.slice A3 s.other.length k3) (.slice A4 s.p.params.length k4) (.slice A5 s.p.inter.length k5) (.slice A6 s.p.utf.length k6))) s from ⟨_, _, _, _, _, _, rfl, HS.out.below HSS.out h2.1⟩)
  clear hl hT
  clear h2
  subst hb
  go_enter Try.func54, Try.ntmps54
  go_upto_region 2 with (first | ((with_reducible refine (paramr_0 HL.out hl2 HN.out).mono ?_); rintro e w' ⟨rfl, rfl⟩) | ((with_reducible refine (paramr_1 HL.out hl2 HMM.out).mono ?_); rintro e w' ⟨rfl, rfl⟩) | ((with_reducible refine (paramr_0 HL.out hl2 HK.out).mono ?_); rintro e w' ⟨rfl, rfl⟩))
  go_upto_region 6 with fail
  refine wp_region_lit ?_
  refine wpl_loadS rfl (.tmp 3) rfl rfl (heap_a1 w _ _) rfl ?_
  go_wp2_with fail
  ((with_reducible refine (tor_any _ s (s.y + n) (s.x) S _ HS2.out HV.out r4 r3 c5 c3).mono ?_); rintro e w4 ⟨v4, rfl, hv4, b4⟩)
  have hb4 : Below (w.heap.size + 1 + 1) _ w4 := (by rw [← H2.out.2]; exact b4)
  obtain ⟨e0, e1⟩ := two_keptB hb4
  have z4 := b4.size
  rw [H2.out.2] at z4
  obtain ⟨uc, ut, uo, up, ui, uu, rfl, hs4⟩ := hv4
  rename_i K hK
  refine hK _ _ ?_
  refine wpl_storeS rfl (.tmp 6) (.tmp 39) rfl rfl rfl e1 rfl rfl hs4.one ?_
  go_wp2
  refine scEndV (w.heap.size + 1) 6 Try.results54 rfl rfl e1 (by omega) (H2.out.1.trans (hb4.mono (by omega))) HSS.out hs4 (fun x hx => ?_)
  rcases hx with h | h
  · exact .inl h
  · have := h.1
    rw [H2.out.2] at this
    exact .inr ⟨by omega, h.2⟩
set_option maxHeartbeats 2000000 in
set_option maxRecDepth 100000 in
theorem seqr_67 (v vl : Value) (s : Sc) (l : List Int) (b : Int) (r c : Nat) (S T : Nat → Prop) (w : World) (hS : ∀ x, S x → x < w.heap.size) (hT : ∀ x, T x → x < w.heap.size) (h : SCV w S v s) (hi : ScIn s r c) (hl : SL vI w T vl l) (hl2 : l.length ≤ 1048576) (n m k : Int) (hn : paramL l 0 1 = n) (hm : paramL l 1 1 = m) (hk : paramL l 0 0 = k) (n1 : 1 ≤ n) (n2 : n ≤ 65535) (m1 : 1 ≤ m) (m2 : m ≤ 65535) (k0 : 0 ≤ k) (k9 : k ≤ 65535) (hb : b = 67) : Calls Try.prog 54 #[v, .int .u8 b, vl] w (ScPost S (toS s (s.y) (s.x + n)) w) := by
  have HSS := Lib.hid hS
  clear hS
  obtain ⟨vc, vt, vo, vp, vi, vu, rfl, hs⟩ := h
  have HS := Lib.hid hs
  obtain ⟨g1, g2, g3, g4, g5, g6⟩ := hs
  obtain ⟨A1, kk1, rfl, p1, q1⟩ := g1.form
  obtain ⟨A2, k2, rfl, p2, q2⟩ := g2.form
  obtain ⟨A3, k3, rfl, p3, q3⟩ := g3.form
  obtain ⟨A4, k4, rfl, p4, q4⟩ := g4.form
  obtain ⟨A5, k5, rfl, p5, q5⟩ := g5.form
  obtain ⟨A6, k6, rfl, p6, q6⟩ := g6.form
  clear g1 g2 g3 g4 g5 g6
  have HI := Lib.hid hi
  have y0 := hi.y0
  have y1 := hi.y1
  have x0 := hi.x0
  have x1 := hi.x1
  have hcl := hi.cols
  have hrl := hi.rows
  have c2 := hi.g.c2
  have r2 := hi.g.r2
  have hlen : s.cells.length ≤ 1000000 := by rw [hi.g.n]; exact rc_le hi.g.r2 hi.g.c2
  have c3 : s.cols ≤ 1000 := by omega
  have r3 : s.rows ≤ 1000 := by omega
  have r4 : 1 ≤ s.rows := by omega
  have c4 : s.x < s.cols := by omega
  have c5 : 1 ≤ s.cols := by omega
  have yr : s.y < s.rows := by omega
  have HN := Lib.hid hn
  have HMM := Lib.hid hm
  have HK := Lib.hid hk
  obtain ⟨Al, kl, rfl, pl, ql⟩ := hl.form
  clear hi hcl hrl hn hm hk
  have h2 := two_new w (.cells #[.int .i64 s.rows, .int .i64 s.cols, .slice A1 s.cells.length kk1, .int .i64 s.y, .int .i64 s.x, .bool s.wrap, .int .u16 (s.attr : Int), .int .i64 s.top, .int .i64 s.bottom, .slice A2 s.tabs.length k2, .int .i64 s.sy, .int .i64 s.sx, .int .u16 (s.sattr : Int), .bool s.auto, .bool s.shown, .bool s.alt, .slice A3 s.other.length k3, .int .i64 s.oy, .int .i64 s.ox, .int .i64 (s.p.mode : Int), .int .u8 (s.p.priv : Int), .slice A4 s.p.params.length k4, .slice A5 s.p.inter.length k5, .slice A6 s.p.utf.length k6] 32) (.cells #[.int .i64 0, .int .i64 0, .slice none 0 0, .int .i64 0, .int .i64 0, .bool false, .int .u16 0, .int .i64 0, .int .i64 0, .slice none 0 0, .int .i64 0, .int .i64 0, .int .u16 0, .bool false, .bool false, .bool false, .slice none 0 0, .int .i64 0, .int .i64 0, .int .i64 0, .int .u8 0, .slice none 0 0, .slice none 0 0, .slice none 0 0] 32)
  have HS2 : Hid (∀ x, S x → x < _) := fun x hx => Nat.lt_of_lt_of_le (HSS.out x hx) h2.1.size
  have H2 := Lib.hid h2
  have HL := Lib.hid (hl.keep (fun q hq => h2.1.cell (hT _ hq)))
  have HV := Lib.hid (show SCV _ S (.agg (vS s (.slice A1 s.cells.length kk1) (.slice A2 s.tabs.length k2) (.slice A3 s.other.length k3) (.slice A4 s.p.params.length k4) (.slice A5 s.p.inter.length k5) (.slice A6 s.p.utf.length k6))) s from ⟨_, _, _, _, _, _, rfl, HS.out.below HSS.out h2.1⟩)
  clear hl hT
  clear h2
  subst hb
  go_enter Try.func54, Try.ntmps54
  go_upto_region 2 with (first | ((with_reducible refine (paramr_0 HL.out hl2 HN.out).mono ?_); rintro e w' ⟨rfl, rfl⟩) | ((with_reducible refine (paramr_1 HL.out hl2 HMM.out).mono ?_); rintro e w' ⟨rfl, rfl⟩) | ((with_reducible refine (paramr_0 HL.out hl2 HK.out).mono ?_); rintro e w' ⟨rfl, rfl⟩))
  go_upto_region 8 with fail
  refine wp_region_lit ?_
  refine wpl_loadS rfl (.tmp 3) rfl rfl (heap_a1 w _ _) rfl ?_
  go_wp2_with fail
  ((with_reducible refine (tor_any _ s (s.y) (s.x + n) S _ HS2.out HV.out r4 r3 c5 c3).mono ?_); rintro e w4 ⟨v4, rfl, hv4, b4⟩)
  have hb4 : Below (w.heap.size + 1 + 1) _ w4 := (by rw [← H2.out.2]; exact b4)
  obtain ⟨e0, e1⟩ := two_keptB hb4
  have z4 := b4.size
  rw [H2.out.2] at z4
  obtain ⟨uc, ut, uo, up, ui, uu, rfl, hs4⟩ := hv4
  rename_i K hK
  refine hK _ _ ?_
  refine wpl_storeS rfl (.tmp 6) (.tmp 49) rfl rfl rfl e1 rfl rfl hs4.one ?_
  go_wp2
  refine scEndV (w.heap.size + 1) 6 Try.results54 rfl rfl e1 (by omega) (H2.out.1.trans (hb4.mono (by omega))) HSS.out hs4 (fun x hx => ?_)
  rcases hx with h | h
  · exact .inl h
  · have := h.1
    rw [H2.out.2] at this
    exact .inr ⟨by omega, h.2⟩
set_option maxHeartbeats 2000000 in
set_option maxRecDepth 100000 in
theorem seqr_68 (v vl : Value) (s : Sc) (l : List Int) (b : Int) (r c : Nat) (S T : Nat → Prop) (w : World) (hS : ∀ x, S x → x < w.heap.size) (hT : ∀ x, T x → x < w.heap.size) (h : SCV w S v s) (hi : ScIn s r c) (hl : SL vI w T vl l) (hl2 : l.length ≤ 1048576) (n m k : Int) (hn : paramL l 0 1 = n) (hm : paramL l 1 1 = m) (hk : paramL l 0 0 = k) (n1 : 1 ≤ n) (n2 : n ≤ 65535) (m1 : 1 ≤ m) (m2 : m ≤ 65535) (k0 : 0 ≤ k) (k9 : k ≤ 65535) (hb : b = 68) : Calls Try.prog 54 #[v, .int .u8 b, vl] w (ScPost S (toS s (s.y) (s.x - n)) w) := by
  have HSS := Lib.hid hS
  clear hS
  obtain ⟨vc, vt, vo, vp, vi, vu, rfl, hs⟩ := h
  have HS := Lib.hid hs
  obtain ⟨g1, g2, g3, g4, g5, g6⟩ := hs
  obtain ⟨A1, kk1, rfl, p1, q1⟩ := g1.form
  obtain ⟨A2, k2, rfl, p2, q2⟩ := g2.form
  obtain ⟨A3, k3, rfl, p3, q3⟩ := g3.form
  obtain ⟨A4, k4, rfl, p4, q4⟩ := g4.form
  obtain ⟨A5, k5, rfl, p5, q5⟩ := g5.form
  obtain ⟨A6, k6, rfl, p6, q6⟩ := g6.form
  clear g1 g2 g3 g4 g5 g6
  have HI := Lib.hid hi
  have y0 := hi.y0
  have y1 := hi.y1
  have x0 := hi.x0
  have x1 := hi.x1
  have hcl := hi.cols
  have hrl := hi.rows
  have c2 := hi.g.c2
  have r2 := hi.g.r2
  have hlen : s.cells.length ≤ 1000000 := by rw [hi.g.n]; exact rc_le hi.g.r2 hi.g.c2
  have c3 : s.cols ≤ 1000 := by omega
  have r3 : s.rows ≤ 1000 := by omega
  have r4 : 1 ≤ s.rows := by omega
  have c4 : s.x < s.cols := by omega
  have c5 : 1 ≤ s.cols := by omega
  have yr : s.y < s.rows := by omega
  have HN := Lib.hid hn
  have HMM := Lib.hid hm
  have HK := Lib.hid hk
  obtain ⟨Al, kl, rfl, pl, ql⟩ := hl.form
  clear hi hcl hrl hn hm hk
  have h2 := two_new w (.cells #[.int .i64 s.rows, .int .i64 s.cols, .slice A1 s.cells.length kk1, .int .i64 s.y, .int .i64 s.x, .bool s.wrap, .int .u16 (s.attr : Int), .int .i64 s.top, .int .i64 s.bottom, .slice A2 s.tabs.length k2, .int .i64 s.sy, .int .i64 s.sx, .int .u16 (s.sattr : Int), .bool s.auto, .bool s.shown, .bool s.alt, .slice A3 s.other.length k3, .int .i64 s.oy, .int .i64 s.ox, .int .i64 (s.p.mode : Int), .int .u8 (s.p.priv : Int), .slice A4 s.p.params.length k4, .slice A5 s.p.inter.length k5, .slice A6 s.p.utf.length k6] 32) (.cells #[.int .i64 0, .int .i64 0, .slice none 0 0, .int .i64 0, .int .i64 0, .bool false, .int .u16 0, .int .i64 0, .int .i64 0, .slice none 0 0, .int .i64 0, .int .i64 0, .int .u16 0, .bool false, .bool false, .bool false, .slice none 0 0, .int .i64 0, .int .i64 0, .int .i64 0, .int .u8 0, .slice none 0 0, .slice none 0 0, .slice none 0 0] 32)
  have HS2 : Hid (∀ x, S x → x < _) := fun x hx => Nat.lt_of_lt_of_le (HSS.out x hx) h2.1.size
  have H2 := Lib.hid h2
  have HL := Lib.hid (hl.keep (fun q hq => h2.1.cell (hT _ hq)))
  have HV := Lib.hid (show SCV _ S (.agg (vS s (.slice A1 s.cells.length kk1) (.slice A2 s.tabs.length k2) (.slice A3 s.other.length k3) (.slice A4 s.p.params.length k4) (.slice A5 s.p.inter.length k5) (.slice A6 s.p.utf.length k6))) s from ⟨_, _, _, _, _, _, rfl, HS.out.below HSS.out h2.1⟩)
  clear hl hT
  clear h2
  subst hb
  go_enter Try.func54, Try.ntmps54
  go_upto_region 2 with (first | ((with_reducible refine (paramr_0 HL.out hl2 HN.out).mono ?_); rintro e w' ⟨rfl, rfl⟩) | ((with_reducible refine (paramr_1 HL.out hl2 HMM.out).mono ?_); rintro e w' ⟨rfl, rfl⟩) | ((with_reducible refine (paramr_0 HL.out hl2 HK.out).mono ?_); rintro e w' ⟨rfl, rfl⟩))
  go_upto_region 10 with fail
  refine wp_region_lit ?_
  refine wpl_loadS rfl (.tmp 3) rfl rfl (heap_a1 w _ _) rfl ?_
  go_wp2_with fail
  ((with_reducible refine (tor_any _ s (s.y) (s.x - n) S _ HS2.out HV.out r4 r3 c5 c3).mono ?_); rintro e w4 ⟨v4, rfl, hv4, b4⟩)
  have hb4 : Below (w.heap.size + 1 + 1) _ w4 := (by rw [← H2.out.2]; exact b4)
  obtain ⟨e0, e1⟩ := two_keptB hb4
  have z4 := b4.size
  rw [H2.out.2] at z4
  obtain ⟨uc, ut, uo, up, ui, uu, rfl, hs4⟩ := hv4
  rename_i K hK
  refine hK _ _ ?_
  refine wpl_storeS rfl (.tmp 6) (.tmp 59) rfl rfl rfl e1 rfl rfl hs4.one ?_
  go_wp2
  refine scEndV (w.heap.size + 1) 6 Try.results54 rfl rfl e1 (by omega) (H2.out.1.trans (hb4.mono (by omega))) HSS.out hs4 (fun x hx => ?_)
  rcases hx with h | h
  · exact .inl h
  · have := h.1
    rw [H2.out.2] at this
    exact .inr ⟨by omega, h.2⟩
set_option maxHeartbeats 2000000 in
set_option maxRecDepth 100000 in
theorem seqr_71 (v vl : Value) (s : Sc) (l : List Int) (b : Int) (r c : Nat) (S T : Nat → Prop) (w : World) (hS : ∀ x, S x → x < w.heap.size) (hT : ∀ x, T x → x < w.heap.size) (h : SCV w S v s) (hi : ScIn s r c) (hl : SL vI w T vl l) (hl2 : l.length ≤ 1048576) (n m k : Int) (hn : paramL l 0 1 = n) (hm : paramL l 1 1 = m) (hk : paramL l 0 0 = k) (n1 : 1 ≤ n) (n2 : n ≤ 65535) (m1 : 1 ≤ m) (m2 : m ≤ 65535) (k0 : 0 ≤ k) (k9 : k ≤ 65535) (hb : b = 71 ∨ b = 96) : Calls Try.prog 54 #[v, .int .u8 b, vl] w (ScPost S (toS s (s.y) (n - 1)) w) := by
  have HSS := Lib.hid hS
  clear hS
  obtain ⟨vc, vt, vo, vp, vi, vu, rfl, hs⟩ := h
  have HS := Lib.hid hs
  obtain ⟨g1, g2, g3, g4, g5, g6⟩ := hs
  obtain ⟨A1, kk1, rfl, p1, q1⟩ := g1.form
  obtain ⟨A2, k2, rfl, p2, q2⟩ := g2.form
  obtain ⟨A3, k3, rfl, p3, q3⟩ := g3.form
  obtain ⟨A4, k4, rfl, p4, q4⟩ := g4.form
  obtain ⟨A5, k5, rfl, p5, q5⟩ := g5.form
  obtain ⟨A6, k6, rfl, p6, q6⟩ := g6.form
  clear g1 g2 g3 g4 g5 g6
  have HI := Lib.hid hi
  have y0 := hi.y0
  have y1 := hi.y1
  have x0 := hi.x0
  have x1 := hi.x1
  have hcl := hi.cols
  have hrl := hi.rows
  have c2 := hi.g.c2
  have r2 := hi.g.r2
  have hlen : s.cells.length ≤ 1000000 := by rw [hi.g.n]; exact rc_le hi.g.r2 hi.g.c2
  have c3 : s.cols ≤ 1000 := by omega
  have r3 : s.rows ≤ 1000 := by omega
  have r4 : 1 ≤ s.rows := by omega
  have c4 : s.x < s.cols := by omega
  have c5 : 1 ≤ s.cols := by omega
  have yr : s.y < s.rows := by omega
  have HN := Lib.hid hn
  have HMM := Lib.hid hm
  have HK := Lib.hid hk
  obtain ⟨Al, kl, rfl, pl, ql⟩ := hl.form
  clear hi hcl hrl hn hm hk
  have h2 := two_new w (.cells #[.int .i64 s.rows, .int .i64 s.cols, .slice A1 s.cells.length kk1, .int .i64 s.y, .int .i64 s.x, .bool s.wrap, .int .u16 (s.attr : Int), .int .i64 s.top, .int .i64 s.bottom, .slice A2 s.tabs.length k2, .int .i64 s.sy, .int .i64 s.sx, .int .u16 (s.sattr : Int), .bool s.auto, .bool s.shown, .bool s.alt, .slice A3 s.other.length k3, .int .i64 s.oy, .int .i64 s.ox, .int .i64 (s.p.mode : Int), .int .u8 (s.p.priv : Int), .slice A4 s.p.params.length k4, .slice A5 s.p.inter.length k5, .slice A6 s.p.utf.length k6] 32) (.cells #[.int .i64 0, .int .i64 0, .slice none 0 0, .int .i64 0, .int .i64 0, .bool false, .int .u16 0, .int .i64 0, .int .i64 0, .slice none 0 0, .int .i64 0, .int .i64 0, .int .u16 0, .bool false, .bool false, .bool false, .slice none 0 0, .int .i64 0, .int .i64 0, .int .i64 0, .int .u8 0, .slice none 0 0, .slice none 0 0, .slice none 0 0] 32)
  have HS2 : Hid (∀ x, S x → x < _) := fun x hx => Nat.lt_of_lt_of_le (HSS.out x hx) h2.1.size
  have H2 := Lib.hid h2
  have HL := Lib.hid (hl.keep (fun q hq => h2.1.cell (hT _ hq)))
  have HV := Lib.hid (show SCV _ S (.agg (vS s (.slice A1 s.cells.length kk1) (.slice A2 s.tabs.length k2) (.slice A3 s.other.length k3) (.slice A4 s.p.params.length k4) (.slice A5 s.p.inter.length k5) (.slice A6 s.p.utf.length k6))) s from ⟨_, _, _, _, _, _, rfl, HS.out.below HSS.out h2.1⟩)
  clear hl hT
  clear h2
  rcases hb with rfl | rfl
  all_goals
    go_enter Try.func54, Try.ntmps54
    go_upto_region 2 with (first | ((with_reducible refine (paramr_0 HL.out hl2 HN.out).mono ?_); rintro e w' ⟨rfl, rfl⟩) | ((with_reducible refine (paramr_1 HL.out hl2 HMM.out).mono ?_); rintro e w' ⟨rfl, rfl⟩) | ((with_reducible refine (paramr_0 HL.out hl2 HK.out).mono ?_); rintro e w' ⟨rfl, rfl⟩))
    go_upto_region 13 with fail
    refine wp_region_lit ?_
    refine wpl_loadS rfl (.tmp 3) rfl rfl (heap_a1 w _ _) rfl ?_
    go_wp2_with fail
    ((with_reducible refine (tor_any _ s (s.y) (n - 1) S _ HS2.out HV.out r4 r3 c5 c3).mono ?_); rintro e w4 ⟨v4, rfl, hv4, b4⟩)
    have hb4 : Below (w.heap.size + 1 + 1) _ w4 := (by rw [← H2.out.2]; exact b4)
    obtain ⟨e0, e1⟩ := two_keptB hb4
    have z4 := b4.size
    rw [H2.out.2] at z4
    obtain ⟨uc, ut, uo, up, ui, uu, rfl, hs4⟩ := hv4
    rename_i K hK
    refine hK _ _ ?_
    refine wpl_storeS rfl (.tmp 6) (.tmp 68) rfl rfl rfl e1 rfl rfl hs4.one ?_
    go_wp2
    refine scEndV (w.heap.size + 1) 6 Try.results54 rfl rfl e1 (by omega) (H2.out.1.trans (hb4.mono (by omega))) HSS.out hs4 (fun x hx => ?_)
    rcases hx with h | h
    · exact .inl h
    · have := h.1
      rw [H2.out.2] at this
      exact .inr ⟨by omega, h.2⟩
set_option maxHeartbeats 2000000 in
set_option maxRecDepth 100000 in
theorem seqr_100 (v vl : Value) (s : Sc) (l : List Int) (b : Int) (r c : Nat) (S T : Nat → Prop) (w : World) (hS : ∀ x, S x → x < w.heap.size) (hT : ∀ x, T x → x < w.heap.size) (h : SCV w S v s) (hi : ScIn s r c) (hl : SL vI w T vl l) (hl2 : l.length ≤ 1048576) (n m k : Int) (hn : paramL l 0 1 = n) (hm : paramL l 1 1 = m) (hk : paramL l 0 0 = k) (n1 : 1 ≤ n) (n2 : n ≤ 65535) (m1 : 1 ≤ m) (m2 : m ≤ 65535) (k0 : 0 ≤ k) (k9 : k ≤ 65535) (hb : b = 100) : Calls Try.prog 54 #[v, .int .u8 b, vl] w (ScPost S (toS s (n - 1) (s.x)) w) := by
  have HSS := Lib.hid hS
  clear hS
  obtain ⟨vc, vt, vo, vp, vi, vu, rfl, hs⟩ := h
  have HS := Lib.hid hs
  obtain ⟨g1, g2, g3, g4, g5, g6⟩ := hs
  obtain ⟨A1, kk1, rfl, p1, q1⟩ := g1.form
  obtain ⟨A2, k2, rfl, p2, q2⟩ := g2.form
  obtain ⟨A3, k3, rfl, p3, q3⟩ := g3.form
  obtain ⟨A4, k4, rfl, p4, q4⟩ := g4.form
  obtain ⟨A5, k5, rfl, p5, q5⟩ := g5.form
  obtain ⟨A6, k6, rfl, p6, q6⟩ := g6.form
  clear g1 g2 g3 g4 g5 g6
  have HI := Lib.hid hi
  have y0 := hi.y0
  have y1 := hi.y1
  have x0 := hi.x0
  have x1 := hi.x1
  have hcl := hi.cols
  have hrl := hi.rows
  have c2 := hi.g.c2
  have r2 := hi.g.r2
  have hlen : s.cells.length ≤ 1000000 := by rw [hi.g.n]; exact rc_le hi.g.r2 hi.g.c2
  have c3 : s.cols ≤ 1000 := by omega
  have r3 : s.rows ≤ 1000 := by omega
  have r4 : 1 ≤ s.rows := by omega
  have c4 : s.x < s.cols := by omega
  have c5 : 1 ≤ s.cols := by omega
  have yr : s.y < s.rows := by omega
  have HN := Lib.hid hn
  have HMM := Lib.hid hm
  have HK := Lib.hid hk
  obtain ⟨Al, kl, rfl, pl, ql⟩ := hl.form
  clear hi hcl hrl hn hm hk
  have h2 := two_new w (.cells #[.int .i64 s.rows, .int .i64 s.cols, .slice A1 s.cells.length kk1, .int .i64 s.y, .int .i64 s.x, .bool s.wrap, .int .u16 (s.attr : Int), .int .i64 s.top, .int .i64 s.bottom, .slice A2 s.tabs.length k2, .int .i64 s.sy, .int .i64 s.sx, .int .u16 (s.sattr : Int), .bool s.auto, .bool s.shown, .bool s.alt, .slice A3 s.other.length k3, .int .i64 s.oy, .int .i64 s.ox, .int .i64 (s.p.mode : Int), .int .u8 (s.p.priv : Int), .slice A4 s.p.params.length k4, .slice A5 s.p.inter.length k5, .slice A6 s.p.utf.length k6] 32) (.cells #[.int .i64 0, .int .i64 0, .slice none 0 0, .int .i64 0, .int .i64 0, .bool false, .int .u16 0, .int .i64 0, .int .i64 0, .slice none 0 0, .int .i64 0, .int .i64 0, .int .u16 0, .bool false, .bool false, .bool false, .slice none 0 0, .int .i64 0, .int .i64 0, .int .i64 0, .int .u8 0, .slice none 0 0, .slice none 0 0, .slice none 0 0] 32)
  have HS2 : Hid (∀ x, S x → x < _) := fun x hx => Nat.lt_of_lt_of_le (HSS.out x hx) h2.1.size
  have H2 := Lib.hid h2
  have HL := Lib.hid (hl.keep (fun q hq => h2.1.cell (hT _ hq)))
  have HV := Lib.hid (show SCV _ S (.agg (vS s (.slice A1 s.cells.length kk1) (.slice A2 s.tabs.length k2) (.slice A3 s.other.length k3) (.slice A4 s.p.params.length k4) (.slice A5 s.p.inter.length k5) (.slice A6 s.p.utf.length k6))) s from ⟨_, _, _, _, _, _, rfl, HS.out.below HSS.out h2.1⟩)
  clear hl hT
  clear h2
  subst hb
  go_enter Try.func54, Try.ntmps54
  go_upto_region 2 with (first | ((with_reducible refine (paramr_0 HL.out hl2 HN.out).mono ?_); rintro e w' ⟨rfl, rfl⟩) | ((with_reducible refine (paramr_1 HL.out hl2 HMM.out).mono ?_); rintro e w' ⟨rfl, rfl⟩) | ((with_reducible refine (paramr_0 HL.out hl2 HK.out).mono ?_); rintro e w' ⟨rfl, rfl⟩))
  go_upto_region 15 with fail
  refine wp_region_lit ?_
  refine wpl_loadS rfl (.tmp 3) rfl rfl (heap_a1 w _ _) rfl ?_
  go_wp2_with fail
  ((with_reducible refine (tor_any _ s (n - 1) (s.x) S _ HS2.out HV.out r4 r3 c5 c3).mono ?_); rintro e w4 ⟨v4, rfl, hv4, b4⟩)
  have hb4 : Below (w.heap.size + 1 + 1) _ w4 := (by rw [← H2.out.2]; exact b4)
  obtain ⟨e0, e1⟩ := two_keptB hb4
  have z4 := b4.size
  rw [H2.out.2] at z4
  obtain ⟨uc, ut, uo, up, ui, uu, rfl, hs4⟩ := hv4
  rename_i K hK
  refine hK _ _ ?_
  refine wpl_storeS rfl (.tmp 6) (.tmp 76) rfl rfl rfl e1 rfl rfl hs4.one ?_
  go_wp2
  refine scEndV (w.heap.size + 1) 6 Try.results54 rfl rfl e1 (by omega) (H2.out.1.trans (hb4.mono (by omega))) HSS.out hs4 (fun x hx => ?_)
  rcases hx with h | h
  · exact .inl h
  · have := h.1
    rw [H2.out.2] at this
    exact .inr ⟨by omega, h.2⟩
set_option maxHeartbeats 2000000 in
set_option maxRecDepth 100000 in
theorem seqr_72 (v vl : Value) (s : Sc) (l : List Int) (b : Int) (r c : Nat) (S T : Nat → Prop) (w : World) (hS : ∀ x, S x → x < w.heap.size) (hT : ∀ x, T x → x < w.heap.size) (h : SCV w S v s) (hi : ScIn s r c) (hl : SL vI w T vl l) (hl2 : l.length ≤ 1048576) (n m k : Int) (hn : paramL l 0 1 = n) (hm : paramL l 1 1 = m) (hk : paramL l 0 0 = k) (n1 : 1 ≤ n) (n2 : n ≤ 65535) (m1 : 1 ≤ m) (m2 : m ≤ 65535) (k0 : 0 ≤ k) (k9 : k ≤ 65535) (hb : b = 72 ∨ b = 102) : Calls Try.prog 54 #[v, .int .u8 b, vl] w (ScPost S (toS s (n - 1) (m - 1)) w) := by
  have HSS := Lib.hid hS
  clear hS
  obtain ⟨vc, vt, vo, vp, vi, vu, rfl, hs⟩ := h
  have HS := Lib.hid hs
  obtain ⟨g1, g2, g3, g4, g5, g6⟩ := hs
  obtain ⟨A1, kk1, rfl, p1, q1⟩ := g1.form
  obtain ⟨A2, k2, rfl, p2, q2⟩ := g2.form
  obtain ⟨A3, k3, rfl, p3, q3⟩ := g3.form
  obtain ⟨A4, k4, rfl, p4, q4⟩ := g4.form
  obtain ⟨A5, k5, rfl, p5, q5⟩ := g5.form
  obtain ⟨A6, k6, rfl, p6, q6⟩ := g6.form
  clear g1 g2 g3 g4 g5 g6
  have HI := Lib.hid hi
  have y0 := hi.y0
  have y1 := hi.y1
  have x0 := hi.x0
  have x1 := hi.x1
  have hcl := hi.cols
  have hrl := hi.rows
  have c2 := hi.g.c2
  have r2 := hi.g.r2
  have hlen : s.cells.length ≤ 1000000 := by rw [hi.g.n]; exact rc_le hi.g.r2 hi.g.c2
  have c3 : s.cols ≤ 1000 := by omega
  have r3 : s.rows ≤ 1000 := by omega
  have r4 : 1 ≤ s.rows := by omega
  have c4 : s.x < s.cols := by omega
  have c5 : 1 ≤ s.cols := by omega
  have yr : s.y < s.rows := by omega
  have HN := Lib.hid hn
  have HMM := Lib.hid hm
  have HK := Lib.hid hk
  obtain ⟨Al, kl, rfl, pl, ql⟩ := hl.form
  clear hi hcl hrl hn hm hk
  have h2 := two_new w (.cells #[.int .i64 s.rows, .int .i64 s.cols, .slice A1 s.cells.length kk1, .int .i64 s.y, .int .i64 s.x, .bool s.wrap, .int .u16 (s.attr : Int), .int .i64 s.top, .int .i64 s.bottom, .slice A2 s.tabs.length k2, .int .i64 s.sy, .int .i64 s.sx, .int .u16 (s.sattr : Int), .bool s.auto, .bool s.shown, .bool s.alt, .slice A3 s.other.length k3, .int .i64 s.oy, .int .i64 s.ox, .int .i64 (s.p.mode : Int), .int .u8 (s.p.priv : Int), .slice A4 s.p.params.length k4, .slice A5 s.p.inter.length k5, .slice A6 s.p.utf.length k6] 32) (.cells #[.int .i64 0, .int .i64 0, .slice none 0 0, .int .i64 0, .int .i64 0, .bool false, .int .u16 0, .int .i64 0, .int .i64 0, .slice none 0 0, .int .i64 0, .int .i64 0, .int .u16 0, .bool false, .bool false, .bool false, .slice none 0 0, .int .i64 0, .int .i64 0, .int .i64 0, .int .u8 0, .slice none 0 0, .slice none 0 0, .slice none 0 0] 32)
  have HS2 : Hid (∀ x, S x → x < _) := fun x hx => Nat.lt_of_lt_of_le (HSS.out x hx) h2.1.size
  have H2 := Lib.hid h2
  have HL := Lib.hid (hl.keep (fun q hq => h2.1.cell (hT _ hq)))
  have HV := Lib.hid (show SCV _ S (.agg (vS s (.slice A1 s.cells.length kk1) (.slice A2 s.tabs.length k2) (.slice A3 s.other.length k3) (.slice A4 s.p.params.length k4) (.slice A5 s.p.inter.length k5) (.slice A6 s.p.utf.length k6))) s from ⟨_, _, _, _, _, _, rfl, HS.out.below HSS.out h2.1⟩)
  clear hl hT
  clear h2
  rcases hb with rfl | rfl
  all_goals
    go_enter Try.func54, Try.ntmps54
    go_upto_region 2 with (first | ((with_reducible refine (paramr_0 HL.out hl2 HN.out).mono ?_); rintro e w' ⟨rfl, rfl⟩) | ((with_reducible refine (paramr_1 HL.out hl2 HMM.out).mono ?_); rintro e w' ⟨rfl, rfl⟩) | ((with_reducible refine (paramr_0 HL.out hl2 HK.out).mono ?_); rintro e w' ⟨rfl, rfl⟩))
    go_upto_region 18 with fail
    refine wp_region_lit ?_
    refine wpl_loadS rfl (.tmp 3) rfl rfl (heap_a1 w _ _) rfl ?_
    go_wp2_with fail
    ((with_reducible refine (tor_any _ s (n - 1) (m - 1) S _ HS2.out HV.out r4 r3 c5 c3).mono ?_); rintro e w4 ⟨v4, rfl, hv4, b4⟩)
    have hb4 : Below (w.heap.size + 1 + 1) _ w4 := (by rw [← H2.out.2]; exact b4)
    obtain ⟨e0, e1⟩ := two_keptB hb4
    have z4 := b4.size
    rw [H2.out.2] at z4
    obtain ⟨uc, ut, uo, up, ui, uu, rfl, hs4⟩ := hv4
    rename_i K hK
    refine hK _ _ ?_
    refine wpl_storeS rfl (.tmp 6) (.tmp 85) rfl rfl rfl e1 rfl rfl hs4.one ?_
    go_wp2
    refine scEndV (w.heap.size + 1) 6 Try.results54 rfl rfl e1 (by omega) (H2.out.1.trans (hb4.mono (by omega))) HSS.out hs4 (fun x hx => ?_)
    rcases hx with h | h
    · exact .inl h
    · have := h.1
      rw [H2.out.2] at this
      exact .inr ⟨by omega, h.2⟩
set_option maxHeartbeats 2000000 in
set_option maxRecDepth 100000 in
theorem seqr_74 (v vl : Value) (s : Sc) (l : List Int) (b : Int) (r c : Nat) (S T : Nat → Prop) (w : World) (hS : ∀ x, S x → x < w.heap.size) (hT : ∀ x, T x → x < w.heap.size) (h : SCV w S v s) (hi : ScIn s r c) (hl : SL vI w T vl l) (hl2 : l.length ≤ 1048576) (n m k : Int) (hn : paramL l 0 1 = n) (hm : paramL l 1 1 = m) (hk : paramL l 0 0 = k) (n1 : 1 ≤ n) (n2 : n ≤ 65535) (m1 : 1 ≤ m) (m2 : m ≤ 65535) (k0 : 0 ≤ k) (k9 : k ≤ 65535) (hb : b = 74) : Calls Try.prog 54 #[v, .int .u8 b, vl] w (ScPost S (eraseS s false k) w) := by
  have HSS := Lib.hid hS
  clear hS
  obtain ⟨vc, vt, vo, vp, vi, vu, rfl, hs⟩ := h
  have HS := Lib.hid hs
  obtain ⟨g1, g2, g3, g4, g5, g6⟩ := hs
  obtain ⟨A1, kk1, rfl, p1, q1⟩ := g1.form
  obtain ⟨A2, k2, rfl, p2, q2⟩ := g2.form
  obtain ⟨A3, k3, rfl, p3, q3⟩ := g3.form
  obtain ⟨A4, k4, rfl, p4, q4⟩ := g4.form
  obtain ⟨A5, k5, rfl, p5, q5⟩ := g5.form
  obtain ⟨A6, k6, rfl, p6, q6⟩ := g6.form
  clear g1 g2 g3 g4 g5 g6
  have HI := Lib.hid hi
  have y0 := hi.y0
  have y1 := hi.y1
  have x0 := hi.x0
  have x1 := hi.x1
  have hcl := hi.cols
  have hrl := hi.rows
  have c2 := hi.g.c2
  have r2 := hi.g.r2
  have hlen : s.cells.length ≤ 1000000 := by rw [hi.g.n]; exact rc_le hi.g.r2 hi.g.c2
  have c3 : s.cols ≤ 1000 := by omega
  have r3 : s.rows ≤ 1000 := by omega
  have r4 : 1 ≤ s.rows := by omega
  have c4 : s.x < s.cols := by omega
  have c5 : 1 ≤ s.cols := by omega
  have yr : s.y < s.rows := by omega
  have HN := Lib.hid hn
  have HMM := Lib.hid hm
  have HK := Lib.hid hk
  obtain ⟨Al, kl, rfl, pl, ql⟩ := hl.form
  clear hi hcl hrl hn hm hk
  have h2 := two_new w (.cells #[.int .i64 s.rows, .int .i64 s.cols, .slice A1 s.cells.length kk1, .int .i64 s.y, .int .i64 s.x, .bool s.wrap, .int .u16 (s.attr : Int), .int .i64 s.top, .int .i64 s.bottom, .slice A2 s.tabs.length k2, .int .i64 s.sy, .int .i64 s.sx, .int .u16 (s.sattr : Int), .bool s.auto, .bool s.shown, .bool s.alt, .slice A3 s.other.length k3, .int .i64 s.oy, .int .i64 s.ox, .int .i64 (s.p.mode : Int), .int .u8 (s.p.priv : Int), .slice A4 s.p.params.length k4, .slice A5 s.p.inter.length k5, .slice A6 s.p.utf.length k6] 32) (.cells #[.int .i64 0, .int .i64 0, .slice none 0 0, .int .i64 0, .int .i64 0, .bool false, .int .u16 0, .int .i64 0, .int .i64 0, .slice none 0 0, .int .i64 0, .int .i64 0, .int .u16 0, .bool false, .bool false, .bool false, .slice none 0 0, .int .i64 0, .int .i64 0, .int .i64 0, .int .u8 0, .slice none 0 0, .slice none 0 0, .slice none 0 0] 32)
  have HS2 : Hid (∀ x, S x → x < _) := fun x hx => Nat.lt_of_lt_of_le (HSS.out x hx) h2.1.size
  have H2 := Lib.hid h2
  have HL := Lib.hid (hl.keep (fun q hq => h2.1.cell (hT _ hq)))
  have HV := Lib.hid (show SCV _ S (.agg (vS s (.slice A1 s.cells.length kk1) (.slice A2 s.tabs.length k2) (.slice A3 s.other.length k3) (.slice A4 s.p.params.length k4) (.slice A5 s.p.inter.length k5) (.slice A6 s.p.utf.length k6))) s from ⟨_, _, _, _, _, _, rfl, HS.out.below HSS.out h2.1⟩)
  clear hl hT
  clear h2
  subst hb
  go_enter Try.func54, Try.ntmps54
  go_upto_region 2 with (first | ((with_reducible refine (paramr_0 HL.out hl2 HN.out).mono ?_); rintro e w' ⟨rfl, rfl⟩) | ((with_reducible refine (paramr_1 HL.out hl2 HMM.out).mono ?_); rintro e w' ⟨rfl, rfl⟩) | ((with_reducible refine (paramr_0 HL.out hl2 HK.out).mono ?_); rintro e w' ⟨rfl, rfl⟩))
  go_upto_region 21 with fail
  refine wp_region_lit ?_
  refine wpl_loadS rfl (.tmp 3) rfl rfl (heap_a1 w _ _) rfl ?_
  go_wp2_with fail
  ((with_reducible refine (eraser_any _ s false k r c S _ HS2.out HV.out HI.out k0).mono ?_); rintro e w4 ⟨v4, rfl, hv4, b4⟩)
  have hb4 : Below (w.heap.size + 1 + 1) _ w4 := (by rw [← H2.out.2]; exact b4)
  obtain ⟨e0, e1⟩ := two_keptB hb4
  have z4 := b4.size
  rw [H2.out.2] at z4
  obtain ⟨uc, ut, uo, up, ui, uu, rfl, hs4⟩ := hv4
  rename_i K hK
  refine hK _ _ ?_
  refine wpl_storeS rfl (.tmp 6) (.tmp 93) rfl rfl rfl e1 rfl rfl hs4.one ?_
  go_wp2
  refine scEndV (w.heap.size + 1) 6 Try.results54 rfl rfl e1 (by omega) (H2.out.1.trans (hb4.mono (by omega))) HSS.out hs4 (fun x hx => ?_)
  rcases hx with h | h
  · exact .inl h
  · have := h.1
    rw [H2.out.2] at this
    exact .inr ⟨by omega, h.2⟩
set_option maxHeartbeats 2000000 in
set_option maxRecDepth 100000 in
theorem seqr_75 (v vl : Value) (s : Sc) (l : List Int) (b : Int) (r c : Nat) (S T : Nat → Prop) (w : World) (hS : ∀ x, S x → x < w.heap.size) (hT : ∀ x, T x → x < w.heap.size) (h : SCV w S v s) (hi : ScIn s r c) (hl : SL vI w T vl l) (hl2 : l.length ≤ 1048576) (n m k : Int) (hn : paramL l 0 1 = n) (hm : paramL l 1 1 = m) (hk : paramL l 0 0 = k) (n1 : 1 ≤ n) (n2 : n ≤ 65535) (m1 : 1 ≤ m) (m2 : m ≤ 65535) (k0 : 0 ≤ k) (k9 : k ≤ 65535) (hb : b = 75) : Calls Try.prog 54 #[v, .int .u8 b, vl] w (ScPost S (eraseS s true k) w) := by
  have HSS := Lib.hid hS
  clear hS
  obtain ⟨vc, vt, vo, vp, vi, vu, rfl, hs⟩ := h
  have HS := Lib.hid hs
  obtain ⟨g1, g2, g3, g4, g5, g6⟩ := hs
  obtain ⟨A1, kk1, rfl, p1, q1⟩ := g1.form
  obtain ⟨A2, k2, rfl, p2, q2⟩ := g2.form
  obtain ⟨A3, k3, rfl, p3, q3⟩ := g3.form
  obtain ⟨A4, k4, rfl, p4, q4⟩ := g4.form
  obtain ⟨A5, k5, rfl, p5, q5⟩ := g5.form
  obtain ⟨A6, k6, rfl, p6, q6⟩ := g6.form
  clear g1 g2 g3 g4 g5 g6
  have HI := Lib.hid hi
  have y0 := hi.y0
  have y1 := hi.y1
  have x0 := hi.x0
  have x1 := hi.x1
  have hcl := hi.cols
  have hrl := hi.rows
  have c2 := hi.g.c2
  have r2 := hi.g.r2
  have hlen : s.cells.length ≤ 1000000 := by rw [hi.g.n]; exact rc_le hi.g.r2 hi.g.c2
  have c3 : s.cols ≤ 1000 := by omega
  have r3 : s.rows ≤ 1000 := by omega
  have r4 : 1 ≤ s.rows := by omega
  have c4 : s.x < s.cols := by omega
  have c5 : 1 ≤ s.cols := by omega
  have yr : s.y < s.rows := by omega
  have HN := Lib.hid hn
  have HMM := Lib.hid hm
  have HK := Lib.hid hk
  obtain ⟨Al, kl, rfl, pl, ql⟩ := hl.form
  clear hi hcl hrl hn hm hk
  have h2 := two_new w (.cells #[.int .i64 s.rows, .int .i64 s.cols, .slice A1 s.cells.length kk1, .int .i64 s.y, .int .i64 s.x, .bool s.wrap, .int .u16 (s.attr : Int), .int .i64 s.top, .int .i64 s.bottom, .slice A2 s.tabs.length k2, .int .i64 s.sy, .int .i64 s.sx, .int .u16 (s.sattr : Int), .bool s.auto, .bool s.shown, .bool s.alt, .slice A3 s.other.length k3, .int .i64 s.oy, .int .i64 s.ox, .int .i64 (s.p.mode : Int), .int .u8 (s.p.priv : Int), .slice A4 s.p.params.length k4, .slice A5 s.p.inter.length k5, .slice A6 s.p.utf.length k6] 32) (.cells #[.int .i64 0, .int .i64 0, .slice none 0 0, .int .i64 0, .int .i64 0, .bool false, .int .u16 0, .int .i64 0, .int .i64 0, .slice none 0 0, .int .i64 0, .int .i64 0, .int .u16 0, .bool false, .bool false, .bool false, .slice none 0 0, .int .i64 0, .int .i64 0, .int .i64 0, .int .u8 0, .slice none 0 0, .slice none 0 0, .slice none 0 0] 32)
  have HS2 : Hid (∀ x, S x → x < _) := fun x hx => Nat.lt_of_lt_of_le (HSS.out x hx) h2.1.size
  have H2 := Lib.hid h2
  have HL := Lib.hid (hl.keep (fun q hq => h2.1.cell (hT _ hq)))
  have HV := Lib.hid (show SCV _ S (.agg (vS s (.slice A1 s.cells.length kk1) (.slice A2 s.tabs.length k2) (.slice A3 s.other.length k3) (.slice A4 s.p.params.length k4) (.slice A5 s.p.inter.length k5) (.slice A6 s.p.utf.length k6))) s from ⟨_, _, _, _, _, _, rfl, HS.out.below HSS.out h2.1⟩)
  clear hl hT
  clear h2
  subst hb
  go_enter Try.func54, Try.ntmps54
  go_upto_region 2 with (first | ((with_reducible refine (paramr_0 HL.out hl2 HN.out).mono ?_); rintro e w' ⟨rfl, rfl⟩) | ((with_reducible refine (paramr_1 HL.out hl2 HMM.out).mono ?_); rintro e w' ⟨rfl, rfl⟩) | ((with_reducible refine (paramr_0 HL.out hl2 HK.out).mono ?_); rintro e w' ⟨rfl, rfl⟩))
  go_upto_region 21 with fail
  refine wp_region_lit ?_
  refine wpl_loadS rfl (.tmp 3) rfl rfl (heap_a1 w _ _) rfl ?_
  go_wp2_with fail
  ((with_reducible refine (eraser_any _ s true k r c S _ HS2.out HV.out HI.out k0).mono ?_); rintro e w4 ⟨v4, rfl, hv4, b4⟩)
  have hb4 : Below (w.heap.size + 1 + 1) _ w4 := (by rw [← H2.out.2]; exact b4)
  obtain ⟨e0, e1⟩ := two_keptB hb4
  have z4 := b4.size
  rw [H2.out.2] at z4
  obtain ⟨uc, ut, uo, up, ui, uu, rfl, hs4⟩ := hv4
  rename_i K hK
  refine hK _ _ ?_
  refine wpl_storeS rfl (.tmp 6) (.tmp 93) rfl rfl rfl e1 rfl rfl hs4.one ?_
  go_wp2
  refine scEndV (w.heap.size + 1) 6 Try.results54 rfl rfl e1 (by omega) (H2.out.1.trans (hb4.mono (by omega))) HSS.out hs4 (fun x hx => ?_)
  rcases hx with h | h
  · exact .inl h
  · have := h.1
    rw [H2.out.2] at this
    exact .inr ⟨by omega, h.2⟩
end Go.Proofs.Ytfimfipflfkolaa
