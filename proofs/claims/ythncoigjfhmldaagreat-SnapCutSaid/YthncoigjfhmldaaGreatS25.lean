/- What is proved here: parts of the proofs of the laws of layer 10. -/
import Derived.Test.YthncoigjfhmldaaGreatS24
namespace Go.Proofs.YthncoigjfhmldaaGreat
open Go.RowKit
set_option linter.unusedVariables false
set_option linter.unusedSimpArgs false
set_option maxHeartbeats 2000000
set_option maxRecDepth 100000
theorem paramr_0 {v : Value} {l : List Int} {u n : Int} {T : Nat → Prop} {w : World} (h : SL vI w T v l) (hl : l.length ≤ 1048576) (hn : paramL l 0 u = n) : Calls Tryz.prog 101 #[v, .int .i64 0, .int .i64 u] w fun e w' => e = .returned (.int .i64 n) ∧ w = w' := by
 subst hn
 exact paramr_any v l 0 u T w h hl (by omega)
theorem paramr_1 {v : Value} {l : List Int} {u n : Int} {T : Nat → Prop} {w : World} (h : SL vI w T v l) (hl : l.length ≤ 1048576) (hn : paramL l 1 u = n) : Calls Tryz.prog 101 #[v, .int .i64 1, .int .i64 u] w fun e w' => e = .returned (.int .i64 n) ∧ w = w' := by
 subst hn
 exact paramr_any v l 1 u T w h hl (by omega)
theorem paramL_bd {l : List Int} (h : ∀ x ∈ l, 0 ≤ x ∧ x ≤ 65535) (i : Nat) (u : Int) (hu : 0 ≤ u) (hu2 : u ≤ 65535) : u ≤ paramL l i u ∨ 1 ≤ paramL l i u := by
 unfold paramL
 split
 ·exact .inl (Int.le_refl _)
 ·rename_i hne
  refine .inr ?_
  have hm : 0 ≤ l.getD i 0 := by
   unfold List.getD
   cases hx : l[i]? with
   | none => exact Int.le_refl _
   | some x => exact (h x (List.mem_of_getElem? hx)).1
  omega
theorem paramL_hi {l : List Int} (h : ∀ x ∈ l, 0 ≤ x ∧ x ≤ 65535) (i : Nat) (u : Int) (hu : 0 ≤ u) (hu2 : u ≤ 65535) : 0 ≤ paramL l i u ∧ paramL l i u ≤ 65535 := by
 unfold paramL
 split
 ·exact ⟨hu, hu2⟩
 ·unfold List.getD
  cases hx : l[i]? with
  | none => exact ⟨Int.le_refl _, by show (0 : Int) ≤ 65535; omega⟩
  | some x => exact h x (List.mem_of_getElem? hx)
theorem seqr_65 (v vl : Value) (s : Sc) (l : List Int) (b : Int) (r c : Nat) (S T : Nat → Prop) (w : World) (hS : ∀ x, S x → x < w.heap.size) (hT : ∀ x, T x → x < w.heap.size) (h : SCV w S v s) (hi : ScIn s r c) (hl : SL vI w T vl l) (hl2 : l.length ≤ 1048576) (n m k : Int) (hn : paramL l 0 1 = n) (hm : paramL l 1 1 = m) (hk : paramL l 0 0 = k) (n1 : 1 ≤ n) (n2 : n ≤ 65535) (m1 : 1 ≤ m) (m2 : m ≤ 65535) (k0 : 0 ≤ k) (k9 : k ≤ 65535) (hb : b = 65) : Calls Tryz.prog 76 #[v, .int .u8 b, vl] w (ScPost S (toS s (s.y - n) (s.x)) w) := by
 have HSS := Lib.hid hS
 clear hS
 obtain ⟨vc, vt, vo, vp, vi, vu, rfl, hs⟩ := h
 have HS := Lib.hid hs
 obtain ⟨A1, kk1, A2, k2, A3, k3, A4, k4, A5, k5, A6, k6, rfl, rfl, rfl, rfl, rfl, rfl, p1, q1, p2, q2, p3, q3, p4, q4, p5, q5, p6, q6⟩ := sslSix hs
 have HI := Lib.hid hi
 obtain ⟨y0, y1, x0, x1, hcl, hrl, c2, r2, hlen⟩ := dIn hi
 have c3 : s.cols ≤ 1000 := by omega
 have r3 : s.rows ≤ 1000 := by omega
 have r4 : 1 ≤ s.rows := by omega
 have c4 : s.x < s.cols := by omega
 have c5 : 1 ≤ s.cols := by omega
 have yr : s.y < s.rows := by omega
 have HN := Lib.hid hn
 have HMM := Lib.hid hm
 have HK := Lib.hid hk
 obtain ⟨Al, kl, rfl, pl, ql⟩ := hl.form
 clear hi hcl hrl hn hm hk
 have h2 := two_new w (.cells (vA s A1 A2 A3 A4 A5 A6 kk1 k2 k3 k4 k5 k6) 30) (.cells zQ 30)
 have HS2 : Hid (∀ x, S x → x < _) := fun x hx => Nat.lt_of_lt_of_le (HSS.out x hx) h2.1.size
 have H2 := Lib.hid h2
 have HL := Lib.hid (hl.keep (fun q hq => h2.1.cell (hT _ hq)))
 have HV := Lib.hid (show SCV _ S (.agg (vA s A1 A2 A3 A4 A5 A6 kk1 k2 k3 k4 k5 k6)) s from ⟨_, _, _, _, _, _, rfl, HS.out.below HSS.out h2.1⟩)
 clear hl hT
 clear h2
 subst hb
 go_enter Tryz.func76, Tryz.ntmps76
 go_upto_region 2 with (first | ((with_reducible refine (paramr_0 HL.out hl2 HN.out).mono ?_); rintro e w' ⟨rfl, rfl⟩) | ((with_reducible refine (paramr_1 HL.out hl2 HMM.out).mono ?_); rintro e w' ⟨rfl, rfl⟩) | ((with_reducible refine (paramr_0 HL.out hl2 HK.out).mono ?_); rintro e w' ⟨rfl, rfl⟩))
 go_upto_region 4 with fail
 refine wp_region_lit ?_
 refine wpl_loadS rfl (.tmp 3) rfl rfl (heap_a1 w _ _) rfl ?_
 go_wp2_with fail
 ((with_reducible refine (tor_any _ s (s.y - n) (s.x) S _ HS2.out HV.out r4 r3 c5 c3).mono ?_); rintro e w4 ⟨v4, rfl, hv4, b4⟩)
 have hb4 : Below (w.heap.size + 1 + 1) _ w4 := (by rw [← H2.out.2]; exact b4)
 obtain ⟨e0, e1⟩ := two_keptB hb4
 have z4 := b4.size
 rw [H2.out.2] at z4
 obtain ⟨uc, ut, uo, up, ui, uu, rfl, hs4⟩ := hv4
 rename_i K hK
 refine hK _ _ ?_
 refine wpl_storeS rfl (.tmp 6) (.tmp 29) rfl rfl rfl e1 rfl rfl hs4.one ?_
 go_wp2
 refine scEndV (w.heap.size + 1) 6 Tryz.results76 rfl rfl e1 (by omega) (H2.out.1.trans (hb4.mono (by omega))) HSS.out hs4 (fun x hx => ?_)
 rcases hx with h | h
 ·exact .inl h
 ·have := h.1
  rw [H2.out.2] at this
  exact .inr ⟨by omega, h.2⟩
theorem seqr_66 (v vl : Value) (s : Sc) (l : List Int) (b : Int) (r c : Nat) (S T : Nat → Prop) (w : World) (hS : ∀ x, S x → x < w.heap.size) (hT : ∀ x, T x → x < w.heap.size) (h : SCV w S v s) (hi : ScIn s r c) (hl : SL vI w T vl l) (hl2 : l.length ≤ 1048576) (n m k : Int) (hn : paramL l 0 1 = n) (hm : paramL l 1 1 = m) (hk : paramL l 0 0 = k) (n1 : 1 ≤ n) (n2 : n ≤ 65535) (m1 : 1 ≤ m) (m2 : m ≤ 65535) (k0 : 0 ≤ k) (k9 : k ≤ 65535) (hb : b = 66) : Calls Tryz.prog 76 #[v, .int .u8 b, vl] w (ScPost S (toS s (s.y + n) (s.x)) w) := by
 have HSS := Lib.hid hS
 clear hS
 obtain ⟨vc, vt, vo, vp, vi, vu, rfl, hs⟩ := h
 have HS := Lib.hid hs
 obtain ⟨A1, kk1, A2, k2, A3, k3, A4, k4, A5, k5, A6, k6, rfl, rfl, rfl, rfl, rfl, rfl, p1, q1, p2, q2, p3, q3, p4, q4, p5, q5, p6, q6⟩ := sslSix hs
 have HI := Lib.hid hi
 obtain ⟨y0, y1, x0, x1, hcl, hrl, c2, r2, hlen⟩ := dIn hi
 have c3 : s.cols ≤ 1000 := by omega
 have r3 : s.rows ≤ 1000 := by omega
 have r4 : 1 ≤ s.rows := by omega
 have c4 : s.x < s.cols := by omega
 have c5 : 1 ≤ s.cols := by omega
 have yr : s.y < s.rows := by omega
 have HN := Lib.hid hn
 have HMM := Lib.hid hm
 have HK := Lib.hid hk
 obtain ⟨Al, kl, rfl, pl, ql⟩ := hl.form
 clear hi hcl hrl hn hm hk
 have h2 := two_new w (.cells (vA s A1 A2 A3 A4 A5 A6 kk1 k2 k3 k4 k5 k6) 30) (.cells zQ 30)
 have HS2 : Hid (∀ x, S x → x < _) := fun x hx => Nat.lt_of_lt_of_le (HSS.out x hx) h2.1.size
 have H2 := Lib.hid h2
 have HL := Lib.hid (hl.keep (fun q hq => h2.1.cell (hT _ hq)))
 have HV := Lib.hid (show SCV _ S (.agg (vA s A1 A2 A3 A4 A5 A6 kk1 k2 k3 k4 k5 k6)) s from ⟨_, _, _, _, _, _, rfl, HS.out.below HSS.out h2.1⟩)
 clear hl hT
 clear h2
 subst hb
 go_enter Tryz.func76, Tryz.ntmps76
 go_upto_region 2 with (first | ((with_reducible refine (paramr_0 HL.out hl2 HN.out).mono ?_); rintro e w' ⟨rfl, rfl⟩) | ((with_reducible refine (paramr_1 HL.out hl2 HMM.out).mono ?_); rintro e w' ⟨rfl, rfl⟩) | ((with_reducible refine (paramr_0 HL.out hl2 HK.out).mono ?_); rintro e w' ⟨rfl, rfl⟩))
 go_upto_region 6 with fail
 refine wp_region_lit ?_
 refine wpl_loadS rfl (.tmp 3) rfl rfl (heap_a1 w _ _) rfl ?_
 go_wp2_with fail
 ((with_reducible refine (tor_any _ s (s.y + n) (s.x) S _ HS2.out HV.out r4 r3 c5 c3).mono ?_); rintro e w4 ⟨v4, rfl, hv4, b4⟩)
 have hb4 : Below (w.heap.size + 1 + 1) _ w4 := (by rw [← H2.out.2]; exact b4)
 obtain ⟨e0, e1⟩ := two_keptB hb4
 have z4 := b4.size
 rw [H2.out.2] at z4
 obtain ⟨uc, ut, uo, up, ui, uu, rfl, hs4⟩ := hv4
 rename_i K hK
 refine hK _ _ ?_
 refine wpl_storeS rfl (.tmp 6) (.tmp 39) rfl rfl rfl e1 rfl rfl hs4.one ?_
 go_wp2
 refine scEndV (w.heap.size + 1) 6 Tryz.results76 rfl rfl e1 (by omega) (H2.out.1.trans (hb4.mono (by omega))) HSS.out hs4 (fun x hx => ?_)
 rcases hx with h | h
 ·exact .inl h
 ·have := h.1
  rw [H2.out.2] at this
  exact .inr ⟨by omega, h.2⟩
theorem seqr_67 (v vl : Value) (s : Sc) (l : List Int) (b : Int) (r c : Nat) (S T : Nat → Prop) (w : World) (hS : ∀ x, S x → x < w.heap.size) (hT : ∀ x, T x → x < w.heap.size) (h : SCV w S v s) (hi : ScIn s r c) (hl : SL vI w T vl l) (hl2 : l.length ≤ 1048576) (n m k : Int) (hn : paramL l 0 1 = n) (hm : paramL l 1 1 = m) (hk : paramL l 0 0 = k) (n1 : 1 ≤ n) (n2 : n ≤ 65535) (m1 : 1 ≤ m) (m2 : m ≤ 65535) (k0 : 0 ≤ k) (k9 : k ≤ 65535) (hb : b = 67) : Calls Tryz.prog 76 #[v, .int .u8 b, vl] w (ScPost S (toS s (s.y) (s.x + n)) w) := by
 have HSS := Lib.hid hS
 clear hS
 obtain ⟨vc, vt, vo, vp, vi, vu, rfl, hs⟩ := h
 have HS := Lib.hid hs
 obtain ⟨A1, kk1, A2, k2, A3, k3, A4, k4, A5, k5, A6, k6, rfl, rfl, rfl, rfl, rfl, rfl, p1, q1, p2, q2, p3, q3, p4, q4, p5, q5, p6, q6⟩ := sslSix hs
 have HI := Lib.hid hi
 obtain ⟨y0, y1, x0, x1, hcl, hrl, c2, r2, hlen⟩ := dIn hi
 have c3 : s.cols ≤ 1000 := by omega
 have r3 : s.rows ≤ 1000 := by omega
 have r4 : 1 ≤ s.rows := by omega
 have c4 : s.x < s.cols := by omega
 have c5 : 1 ≤ s.cols := by omega
 have yr : s.y < s.rows := by omega
 have HN := Lib.hid hn
 have HMM := Lib.hid hm
 have HK := Lib.hid hk
 obtain ⟨Al, kl, rfl, pl, ql⟩ := hl.form
 clear hi hcl hrl hn hm hk
 have h2 := two_new w (.cells (vA s A1 A2 A3 A4 A5 A6 kk1 k2 k3 k4 k5 k6) 30) (.cells zQ 30)
 have HS2 : Hid (∀ x, S x → x < _) := fun x hx => Nat.lt_of_lt_of_le (HSS.out x hx) h2.1.size
 have H2 := Lib.hid h2
 have HL := Lib.hid (hl.keep (fun q hq => h2.1.cell (hT _ hq)))
 have HV := Lib.hid (show SCV _ S (.agg (vA s A1 A2 A3 A4 A5 A6 kk1 k2 k3 k4 k5 k6)) s from ⟨_, _, _, _, _, _, rfl, HS.out.below HSS.out h2.1⟩)
 clear hl hT
 clear h2
 subst hb
 go_enter Tryz.func76, Tryz.ntmps76
 go_upto_region 2 with (first | ((with_reducible refine (paramr_0 HL.out hl2 HN.out).mono ?_); rintro e w' ⟨rfl, rfl⟩) | ((with_reducible refine (paramr_1 HL.out hl2 HMM.out).mono ?_); rintro e w' ⟨rfl, rfl⟩) | ((with_reducible refine (paramr_0 HL.out hl2 HK.out).mono ?_); rintro e w' ⟨rfl, rfl⟩))
 go_upto_region 8 with fail
 refine wp_region_lit ?_
 refine wpl_loadS rfl (.tmp 3) rfl rfl (heap_a1 w _ _) rfl ?_
 go_wp2_with fail
 ((with_reducible refine (tor_any _ s (s.y) (s.x + n) S _ HS2.out HV.out r4 r3 c5 c3).mono ?_); rintro e w4 ⟨v4, rfl, hv4, b4⟩)
 have hb4 : Below (w.heap.size + 1 + 1) _ w4 := (by rw [← H2.out.2]; exact b4)
 obtain ⟨e0, e1⟩ := two_keptB hb4
 have z4 := b4.size
 rw [H2.out.2] at z4
 obtain ⟨uc, ut, uo, up, ui, uu, rfl, hs4⟩ := hv4
 rename_i K hK
 refine hK _ _ ?_
 refine wpl_storeS rfl (.tmp 6) (.tmp 49) rfl rfl rfl e1 rfl rfl hs4.one ?_
 go_wp2
 refine scEndV (w.heap.size + 1) 6 Tryz.results76 rfl rfl e1 (by omega) (H2.out.1.trans (hb4.mono (by omega))) HSS.out hs4 (fun x hx => ?_)
 rcases hx with h | h
 ·exact .inl h
 ·have := h.1
  rw [H2.out.2] at this
  exact .inr ⟨by omega, h.2⟩
theorem seqr_68 (v vl : Value) (s : Sc) (l : List Int) (b : Int) (r c : Nat) (S T : Nat → Prop) (w : World) (hS : ∀ x, S x → x < w.heap.size) (hT : ∀ x, T x → x < w.heap.size) (h : SCV w S v s) (hi : ScIn s r c) (hl : SL vI w T vl l) (hl2 : l.length ≤ 1048576) (n m k : Int) (hn : paramL l 0 1 = n) (hm : paramL l 1 1 = m) (hk : paramL l 0 0 = k) (n1 : 1 ≤ n) (n2 : n ≤ 65535) (m1 : 1 ≤ m) (m2 : m ≤ 65535) (k0 : 0 ≤ k) (k9 : k ≤ 65535) (hb : b = 68) : Calls Tryz.prog 76 #[v, .int .u8 b, vl] w (ScPost S (toS s (s.y) (s.x - n)) w) := by
 have HSS := Lib.hid hS
 clear hS
 obtain ⟨vc, vt, vo, vp, vi, vu, rfl, hs⟩ := h
 have HS := Lib.hid hs
 obtain ⟨A1, kk1, A2, k2, A3, k3, A4, k4, A5, k5, A6, k6, rfl, rfl, rfl, rfl, rfl, rfl, p1, q1, p2, q2, p3, q3, p4, q4, p5, q5, p6, q6⟩ := sslSix hs
 have HI := Lib.hid hi
 obtain ⟨y0, y1, x0, x1, hcl, hrl, c2, r2, hlen⟩ := dIn hi
 have c3 : s.cols ≤ 1000 := by omega
 have r3 : s.rows ≤ 1000 := by omega
 have r4 : 1 ≤ s.rows := by omega
 have c4 : s.x < s.cols := by omega
 have c5 : 1 ≤ s.cols := by omega
 have yr : s.y < s.rows := by omega
 have HN := Lib.hid hn
 have HMM := Lib.hid hm
 have HK := Lib.hid hk
 obtain ⟨Al, kl, rfl, pl, ql⟩ := hl.form
 clear hi hcl hrl hn hm hk
 have h2 := two_new w (.cells (vA s A1 A2 A3 A4 A5 A6 kk1 k2 k3 k4 k5 k6) 30) (.cells zQ 30)
 have HS2 : Hid (∀ x, S x → x < _) := fun x hx => Nat.lt_of_lt_of_le (HSS.out x hx) h2.1.size
 have H2 := Lib.hid h2
 have HL := Lib.hid (hl.keep (fun q hq => h2.1.cell (hT _ hq)))
 have HV := Lib.hid (show SCV _ S (.agg (vA s A1 A2 A3 A4 A5 A6 kk1 k2 k3 k4 k5 k6)) s from ⟨_, _, _, _, _, _, rfl, HS.out.below HSS.out h2.1⟩)
 clear hl hT
 clear h2
 subst hb
 go_enter Tryz.func76, Tryz.ntmps76
 go_upto_region 2 with (first | ((with_reducible refine (paramr_0 HL.out hl2 HN.out).mono ?_); rintro e w' ⟨rfl, rfl⟩) | ((with_reducible refine (paramr_1 HL.out hl2 HMM.out).mono ?_); rintro e w' ⟨rfl, rfl⟩) | ((with_reducible refine (paramr_0 HL.out hl2 HK.out).mono ?_); rintro e w' ⟨rfl, rfl⟩))
 go_upto_region 10 with fail
 refine wp_region_lit ?_
 refine wpl_loadS rfl (.tmp 3) rfl rfl (heap_a1 w _ _) rfl ?_
 go_wp2_with fail
 ((with_reducible refine (tor_any _ s (s.y) (s.x - n) S _ HS2.out HV.out r4 r3 c5 c3).mono ?_); rintro e w4 ⟨v4, rfl, hv4, b4⟩)
 have hb4 : Below (w.heap.size + 1 + 1) _ w4 := (by rw [← H2.out.2]; exact b4)
 obtain ⟨e0, e1⟩ := two_keptB hb4
 have z4 := b4.size
 rw [H2.out.2] at z4
 obtain ⟨uc, ut, uo, up, ui, uu, rfl, hs4⟩ := hv4
 rename_i K hK
 refine hK _ _ ?_
 refine wpl_storeS rfl (.tmp 6) (.tmp 59) rfl rfl rfl e1 rfl rfl hs4.one ?_
 go_wp2
 refine scEndV (w.heap.size + 1) 6 Tryz.results76 rfl rfl e1 (by omega) (H2.out.1.trans (hb4.mono (by omega))) HSS.out hs4 (fun x hx => ?_)
 rcases hx with h | h
 ·exact .inl h
 ·have := h.1
  rw [H2.out.2] at this
  exact .inr ⟨by omega, h.2⟩
theorem seqr_71 (v vl : Value) (s : Sc) (l : List Int) (b : Int) (r c : Nat) (S T : Nat → Prop) (w : World) (hS : ∀ x, S x → x < w.heap.size) (hT : ∀ x, T x → x < w.heap.size) (h : SCV w S v s) (hi : ScIn s r c) (hl : SL vI w T vl l) (hl2 : l.length ≤ 1048576) (n m k : Int) (hn : paramL l 0 1 = n) (hm : paramL l 1 1 = m) (hk : paramL l 0 0 = k) (n1 : 1 ≤ n) (n2 : n ≤ 65535) (m1 : 1 ≤ m) (m2 : m ≤ 65535) (k0 : 0 ≤ k) (k9 : k ≤ 65535) (hb : b = 71 ∨ b = 96) : Calls Tryz.prog 76 #[v, .int .u8 b, vl] w (ScPost S (toS s (s.y) (n - 1)) w) := by
 have HSS := Lib.hid hS
 clear hS
 obtain ⟨vc, vt, vo, vp, vi, vu, rfl, hs⟩ := h
 have HS := Lib.hid hs
 obtain ⟨A1, kk1, A2, k2, A3, k3, A4, k4, A5, k5, A6, k6, rfl, rfl, rfl, rfl, rfl, rfl, p1, q1, p2, q2, p3, q3, p4, q4, p5, q5, p6, q6⟩ := sslSix hs
 have HI := Lib.hid hi
 obtain ⟨y0, y1, x0, x1, hcl, hrl, c2, r2, hlen⟩ := dIn hi
 have c3 : s.cols ≤ 1000 := by omega
 have r3 : s.rows ≤ 1000 := by omega
 have r4 : 1 ≤ s.rows := by omega
 have c4 : s.x < s.cols := by omega
 have c5 : 1 ≤ s.cols := by omega
 have yr : s.y < s.rows := by omega
 have HN := Lib.hid hn
 have HMM := Lib.hid hm
 have HK := Lib.hid hk
 obtain ⟨Al, kl, rfl, pl, ql⟩ := hl.form
 clear hi hcl hrl hn hm hk
 have h2 := two_new w (.cells (vA s A1 A2 A3 A4 A5 A6 kk1 k2 k3 k4 k5 k6) 30) (.cells zQ 30)
 have HS2 : Hid (∀ x, S x → x < _) := fun x hx => Nat.lt_of_lt_of_le (HSS.out x hx) h2.1.size
 have H2 := Lib.hid h2
 have HL := Lib.hid (hl.keep (fun q hq => h2.1.cell (hT _ hq)))
 have HV := Lib.hid (show SCV _ S (.agg (vA s A1 A2 A3 A4 A5 A6 kk1 k2 k3 k4 k5 k6)) s from ⟨_, _, _, _, _, _, rfl, HS.out.below HSS.out h2.1⟩)
 clear hl hT
 clear h2
 rcases hb with rfl | rfl
 all_goals
  go_enter Tryz.func76, Tryz.ntmps76
  go_upto_region 2 with (first | ((with_reducible refine (paramr_0 HL.out hl2 HN.out).mono ?_); rintro e w' ⟨rfl, rfl⟩) | ((with_reducible refine (paramr_1 HL.out hl2 HMM.out).mono ?_); rintro e w' ⟨rfl, rfl⟩) | ((with_reducible refine (paramr_0 HL.out hl2 HK.out).mono ?_); rintro e w' ⟨rfl, rfl⟩))
  go_upto_region 13 with fail
  refine wp_region_lit ?_
  refine wpl_loadS rfl (.tmp 3) rfl rfl (heap_a1 w _ _) rfl ?_
  go_wp2_with fail
  ((with_reducible refine (tor_any _ s (s.y) (n - 1) S _ HS2.out HV.out r4 r3 c5 c3).mono ?_); rintro e w4 ⟨v4, rfl, hv4, b4⟩)
  have hb4 : Below (w.heap.size + 1 + 1) _ w4 := (by rw [← H2.out.2]; exact b4)
  obtain ⟨e0, e1⟩ := two_keptB hb4
  have z4 := b4.size
  rw [H2.out.2] at z4
  obtain ⟨uc, ut, uo, up, ui, uu, rfl, hs4⟩ := hv4
  rename_i K hK
  refine hK _ _ ?_
  refine wpl_storeS rfl (.tmp 6) (.tmp 68) rfl rfl rfl e1 rfl rfl hs4.one ?_
  go_wp2
  refine scEndV (w.heap.size + 1) 6 Tryz.results76 rfl rfl e1 (by omega) (H2.out.1.trans (hb4.mono (by omega))) HSS.out hs4 (fun x hx => ?_)
  rcases hx with h | h
  ·exact .inl h
  ·have := h.1
   rw [H2.out.2] at this
   exact .inr ⟨by omega, h.2⟩
theorem seqr_100 (v vl : Value) (s : Sc) (l : List Int) (b : Int) (r c : Nat) (S T : Nat → Prop) (w : World) (hS : ∀ x, S x → x < w.heap.size) (hT : ∀ x, T x → x < w.heap.size) (h : SCV w S v s) (hi : ScIn s r c) (hl : SL vI w T vl l) (hl2 : l.length ≤ 1048576) (n m k : Int) (hn : paramL l 0 1 = n) (hm : paramL l 1 1 = m) (hk : paramL l 0 0 = k) (n1 : 1 ≤ n) (n2 : n ≤ 65535) (m1 : 1 ≤ m) (m2 : m ≤ 65535) (k0 : 0 ≤ k) (k9 : k ≤ 65535) (hb : b = 100) : Calls Tryz.prog 76 #[v, .int .u8 b, vl] w (ScPost S (toS s (n - 1) (s.x)) w) := by
 have HSS := Lib.hid hS
 clear hS
 obtain ⟨vc, vt, vo, vp, vi, vu, rfl, hs⟩ := h
 have HS := Lib.hid hs
 obtain ⟨A1, kk1, A2, k2, A3, k3, A4, k4, A5, k5, A6, k6, rfl, rfl, rfl, rfl, rfl, rfl, p1, q1, p2, q2, p3, q3, p4, q4, p5, q5, p6, q6⟩ := sslSix hs
 have HI := Lib.hid hi
 obtain ⟨y0, y1, x0, x1, hcl, hrl, c2, r2, hlen⟩ := dIn hi
 have c3 : s.cols ≤ 1000 := by omega
 have r3 : s.rows ≤ 1000 := by omega
 have r4 : 1 ≤ s.rows := by omega
 have c4 : s.x < s.cols := by omega
 have c5 : 1 ≤ s.cols := by omega
 have yr : s.y < s.rows := by omega
 have HN := Lib.hid hn
 have HMM := Lib.hid hm
 have HK := Lib.hid hk
 obtain ⟨Al, kl, rfl, pl, ql⟩ := hl.form
 clear hi hcl hrl hn hm hk
 have h2 := two_new w (.cells (vA s A1 A2 A3 A4 A5 A6 kk1 k2 k3 k4 k5 k6) 30) (.cells zQ 30)
 have HS2 : Hid (∀ x, S x → x < _) := fun x hx => Nat.lt_of_lt_of_le (HSS.out x hx) h2.1.size
 have H2 := Lib.hid h2
 have HL := Lib.hid (hl.keep (fun q hq => h2.1.cell (hT _ hq)))
 have HV := Lib.hid (show SCV _ S (.agg (vA s A1 A2 A3 A4 A5 A6 kk1 k2 k3 k4 k5 k6)) s from ⟨_, _, _, _, _, _, rfl, HS.out.below HSS.out h2.1⟩)
 clear hl hT
 clear h2
 subst hb
 go_enter Tryz.func76, Tryz.ntmps76
 go_upto_region 2 with (first | ((with_reducible refine (paramr_0 HL.out hl2 HN.out).mono ?_); rintro e w' ⟨rfl, rfl⟩) | ((with_reducible refine (paramr_1 HL.out hl2 HMM.out).mono ?_); rintro e w' ⟨rfl, rfl⟩) | ((with_reducible refine (paramr_0 HL.out hl2 HK.out).mono ?_); rintro e w' ⟨rfl, rfl⟩))
 go_upto_region 15 with fail
 refine wp_region_lit ?_
 refine wpl_loadS rfl (.tmp 3) rfl rfl (heap_a1 w _ _) rfl ?_
 go_wp2_with fail
 ((with_reducible refine (tor_any _ s (n - 1) (s.x) S _ HS2.out HV.out r4 r3 c5 c3).mono ?_); rintro e w4 ⟨v4, rfl, hv4, b4⟩)
 have hb4 : Below (w.heap.size + 1 + 1) _ w4 := (by rw [← H2.out.2]; exact b4)
 obtain ⟨e0, e1⟩ := two_keptB hb4
 have z4 := b4.size
 rw [H2.out.2] at z4
 obtain ⟨uc, ut, uo, up, ui, uu, rfl, hs4⟩ := hv4
 rename_i K hK
 refine hK _ _ ?_
 refine wpl_storeS rfl (.tmp 6) (.tmp 76) rfl rfl rfl e1 rfl rfl hs4.one ?_
 go_wp2
 refine scEndV (w.heap.size + 1) 6 Tryz.results76 rfl rfl e1 (by omega) (H2.out.1.trans (hb4.mono (by omega))) HSS.out hs4 (fun x hx => ?_)
 rcases hx with h | h
 ·exact .inl h
 ·have := h.1
  rw [H2.out.2] at this
  exact .inr ⟨by omega, h.2⟩
theorem seqr_72 (v vl : Value) (s : Sc) (l : List Int) (b : Int) (r c : Nat) (S T : Nat → Prop) (w : World) (hS : ∀ x, S x → x < w.heap.size) (hT : ∀ x, T x → x < w.heap.size) (h : SCV w S v s) (hi : ScIn s r c) (hl : SL vI w T vl l) (hl2 : l.length ≤ 1048576) (n m k : Int) (hn : paramL l 0 1 = n) (hm : paramL l 1 1 = m) (hk : paramL l 0 0 = k) (n1 : 1 ≤ n) (n2 : n ≤ 65535) (m1 : 1 ≤ m) (m2 : m ≤ 65535) (k0 : 0 ≤ k) (k9 : k ≤ 65535) (hb : b = 72 ∨ b = 102) : Calls Tryz.prog 76 #[v, .int .u8 b, vl] w (ScPost S (toS s (n - 1) (m - 1)) w) := by
 have HSS := Lib.hid hS
 clear hS
 obtain ⟨vc, vt, vo, vp, vi, vu, rfl, hs⟩ := h
 have HS := Lib.hid hs
 obtain ⟨A1, kk1, A2, k2, A3, k3, A4, k4, A5, k5, A6, k6, rfl, rfl, rfl, rfl, rfl, rfl, p1, q1, p2, q2, p3, q3, p4, q4, p5, q5, p6, q6⟩ := sslSix hs
 have HI := Lib.hid hi
 obtain ⟨y0, y1, x0, x1, hcl, hrl, c2, r2, hlen⟩ := dIn hi
 have c3 : s.cols ≤ 1000 := by omega
 have r3 : s.rows ≤ 1000 := by omega
 have r4 : 1 ≤ s.rows := by omega
 have c4 : s.x < s.cols := by omega
 have c5 : 1 ≤ s.cols := by omega
 have yr : s.y < s.rows := by omega
 have HN := Lib.hid hn
 have HMM := Lib.hid hm
 have HK := Lib.hid hk
 obtain ⟨Al, kl, rfl, pl, ql⟩ := hl.form
 clear hi hcl hrl hn hm hk
 have h2 := two_new w (.cells (vA s A1 A2 A3 A4 A5 A6 kk1 k2 k3 k4 k5 k6) 30) (.cells zQ 30)
 have HS2 : Hid (∀ x, S x → x < _) := fun x hx => Nat.lt_of_lt_of_le (HSS.out x hx) h2.1.size
 have H2 := Lib.hid h2
 have HL := Lib.hid (hl.keep (fun q hq => h2.1.cell (hT _ hq)))
 have HV := Lib.hid (show SCV _ S (.agg (vA s A1 A2 A3 A4 A5 A6 kk1 k2 k3 k4 k5 k6)) s from ⟨_, _, _, _, _, _, rfl, HS.out.below HSS.out h2.1⟩)
 clear hl hT
 clear h2
 rcases hb with rfl | rfl
 all_goals
  go_enter Tryz.func76, Tryz.ntmps76
  go_upto_region 2 with (first | ((with_reducible refine (paramr_0 HL.out hl2 HN.out).mono ?_); rintro e w' ⟨rfl, rfl⟩) | ((with_reducible refine (paramr_1 HL.out hl2 HMM.out).mono ?_); rintro e w' ⟨rfl, rfl⟩) | ((with_reducible refine (paramr_0 HL.out hl2 HK.out).mono ?_); rintro e w' ⟨rfl, rfl⟩))
  go_upto_region 18 with fail
  refine wp_region_lit ?_
  refine wpl_loadS rfl (.tmp 3) rfl rfl (heap_a1 w _ _) rfl ?_
  go_wp2_with fail
  ((with_reducible refine (tor_any _ s (n - 1) (m - 1) S _ HS2.out HV.out r4 r3 c5 c3).mono ?_); rintro e w4 ⟨v4, rfl, hv4, b4⟩)
  have hb4 : Below (w.heap.size + 1 + 1) _ w4 := (by rw [← H2.out.2]; exact b4)
  obtain ⟨e0, e1⟩ := two_keptB hb4
  have z4 := b4.size
  rw [H2.out.2] at z4
  obtain ⟨uc, ut, uo, up, ui, uu, rfl, hs4⟩ := hv4
  rename_i K hK
  refine hK _ _ ?_
  refine wpl_storeS rfl (.tmp 6) (.tmp 85) rfl rfl rfl e1 rfl rfl hs4.one ?_
  go_wp2
  refine scEndV (w.heap.size + 1) 6 Tryz.results76 rfl rfl e1 (by omega) (H2.out.1.trans (hb4.mono (by omega))) HSS.out hs4 (fun x hx => ?_)
  rcases hx with h | h
  ·exact .inl h
  ·have := h.1
   rw [H2.out.2] at this
   exact .inr ⟨by omega, h.2⟩
theorem seqr_74 (v vl : Value) (s : Sc) (l : List Int) (b : Int) (r c : Nat) (S T : Nat → Prop) (w : World) (hS : ∀ x, S x → x < w.heap.size) (hT : ∀ x, T x → x < w.heap.size) (h : SCV w S v s) (hi : ScIn s r c) (hl : SL vI w T vl l) (hl2 : l.length ≤ 1048576) (n m k : Int) (hn : paramL l 0 1 = n) (hm : paramL l 1 1 = m) (hk : paramL l 0 0 = k) (n1 : 1 ≤ n) (n2 : n ≤ 65535) (m1 : 1 ≤ m) (m2 : m ≤ 65535) (k0 : 0 ≤ k) (k9 : k ≤ 65535) (hb : b = 74) : Calls Tryz.prog 76 #[v, .int .u8 b, vl] w (ScPost S (eraseS s false k) w) := by
 have HSS := Lib.hid hS
 clear hS
 obtain ⟨vc, vt, vo, vp, vi, vu, rfl, hs⟩ := h
 have HS := Lib.hid hs
 obtain ⟨A1, kk1, A2, k2, A3, k3, A4, k4, A5, k5, A6, k6, rfl, rfl, rfl, rfl, rfl, rfl, p1, q1, p2, q2, p3, q3, p4, q4, p5, q5, p6, q6⟩ := sslSix hs
 have HI := Lib.hid hi
 obtain ⟨y0, y1, x0, x1, hcl, hrl, c2, r2, hlen⟩ := dIn hi
 have c3 : s.cols ≤ 1000 := by omega
 have r3 : s.rows ≤ 1000 := by omega
 have r4 : 1 ≤ s.rows := by omega
 have c4 : s.x < s.cols := by omega
 have c5 : 1 ≤ s.cols := by omega
 have yr : s.y < s.rows := by omega
 have HN := Lib.hid hn
 have HMM := Lib.hid hm
 have HK := Lib.hid hk
 obtain ⟨Al, kl, rfl, pl, ql⟩ := hl.form
 clear hi hcl hrl hn hm hk
 have h2 := two_new w (.cells (vA s A1 A2 A3 A4 A5 A6 kk1 k2 k3 k4 k5 k6) 30) (.cells zQ 30)
 have HS2 : Hid (∀ x, S x → x < _) := fun x hx => Nat.lt_of_lt_of_le (HSS.out x hx) h2.1.size
 have H2 := Lib.hid h2
 have HL := Lib.hid (hl.keep (fun q hq => h2.1.cell (hT _ hq)))
 have HV := Lib.hid (show SCV _ S (.agg (vA s A1 A2 A3 A4 A5 A6 kk1 k2 k3 k4 k5 k6)) s from ⟨_, _, _, _, _, _, rfl, HS.out.below HSS.out h2.1⟩)
 clear hl hT
 clear h2
 subst hb
 go_enter Tryz.func76, Tryz.ntmps76
 go_upto_region 2 with (first | ((with_reducible refine (paramr_0 HL.out hl2 HN.out).mono ?_); rintro e w' ⟨rfl, rfl⟩) | ((with_reducible refine (paramr_1 HL.out hl2 HMM.out).mono ?_); rintro e w' ⟨rfl, rfl⟩) | ((with_reducible refine (paramr_0 HL.out hl2 HK.out).mono ?_); rintro e w' ⟨rfl, rfl⟩))
 go_upto_region 21 with fail
 refine wp_region_lit ?_
 refine wpl_loadS rfl (.tmp 3) rfl rfl (heap_a1 w _ _) rfl ?_
 go_wp2_with fail
 ((with_reducible refine (eraser_any _ s false k r c S _ HS2.out HV.out HI.out k0).mono ?_); rintro e w4 ⟨v4, rfl, hv4, b4⟩)
 have hb4 : Below (w.heap.size + 1 + 1) _ w4 := (by rw [← H2.out.2]; exact b4)
 obtain ⟨e0, e1⟩ := two_keptB hb4
 have z4 := b4.size
 rw [H2.out.2] at z4
 obtain ⟨uc, ut, uo, up, ui, uu, rfl, hs4⟩ := hv4
 rename_i K hK
 refine hK _ _ ?_
 refine wpl_storeS rfl (.tmp 6) (.tmp 93) rfl rfl rfl e1 rfl rfl hs4.one ?_
 go_wp2
 refine scEndV (w.heap.size + 1) 6 Tryz.results76 rfl rfl e1 (by omega) (H2.out.1.trans (hb4.mono (by omega))) HSS.out hs4 (fun x hx => ?_)
 rcases hx with h | h
 ·exact .inl h
 ·have := h.1
  rw [H2.out.2] at this
  exact .inr ⟨by omega, h.2⟩
theorem seqr_75 (v vl : Value) (s : Sc) (l : List Int) (b : Int) (r c : Nat) (S T : Nat → Prop) (w : World) (hS : ∀ x, S x → x < w.heap.size) (hT : ∀ x, T x → x < w.heap.size) (h : SCV w S v s) (hi : ScIn s r c) (hl : SL vI w T vl l) (hl2 : l.length ≤ 1048576) (n m k : Int) (hn : paramL l 0 1 = n) (hm : paramL l 1 1 = m) (hk : paramL l 0 0 = k) (n1 : 1 ≤ n) (n2 : n ≤ 65535) (m1 : 1 ≤ m) (m2 : m ≤ 65535) (k0 : 0 ≤ k) (k9 : k ≤ 65535) (hb : b = 75) : Calls Tryz.prog 76 #[v, .int .u8 b, vl] w (ScPost S (eraseS s true k) w) := by
 have HSS := Lib.hid hS
 clear hS
 obtain ⟨vc, vt, vo, vp, vi, vu, rfl, hs⟩ := h
 have HS := Lib.hid hs
 obtain ⟨A1, kk1, A2, k2, A3, k3, A4, k4, A5, k5, A6, k6, rfl, rfl, rfl, rfl, rfl, rfl, p1, q1, p2, q2, p3, q3, p4, q4, p5, q5, p6, q6⟩ := sslSix hs
 have HI := Lib.hid hi
 obtain ⟨y0, y1, x0, x1, hcl, hrl, c2, r2, hlen⟩ := dIn hi
 have c3 : s.cols ≤ 1000 := by omega
 have r3 : s.rows ≤ 1000 := by omega
 have r4 : 1 ≤ s.rows := by omega
 have c4 : s.x < s.cols := by omega
 have c5 : 1 ≤ s.cols := by omega
 have yr : s.y < s.rows := by omega
 have HN := Lib.hid hn
 have HMM := Lib.hid hm
 have HK := Lib.hid hk
 obtain ⟨Al, kl, rfl, pl, ql⟩ := hl.form
 clear hi hcl hrl hn hm hk
 have h2 := two_new w (.cells (vA s A1 A2 A3 A4 A5 A6 kk1 k2 k3 k4 k5 k6) 30) (.cells zQ 30)
 have HS2 : Hid (∀ x, S x → x < _) := fun x hx => Nat.lt_of_lt_of_le (HSS.out x hx) h2.1.size
 have H2 := Lib.hid h2
 have HL := Lib.hid (hl.keep (fun q hq => h2.1.cell (hT _ hq)))
 have HV := Lib.hid (show SCV _ S (.agg (vA s A1 A2 A3 A4 A5 A6 kk1 k2 k3 k4 k5 k6)) s from ⟨_, _, _, _, _, _, rfl, HS.out.below HSS.out h2.1⟩)
 clear hl hT
 clear h2
 subst hb
 go_enter Tryz.func76, Tryz.ntmps76
 go_upto_region 2 with (first | ((with_reducible refine (paramr_0 HL.out hl2 HN.out).mono ?_); rintro e w' ⟨rfl, rfl⟩) | ((with_reducible refine (paramr_1 HL.out hl2 HMM.out).mono ?_); rintro e w' ⟨rfl, rfl⟩) | ((with_reducible refine (paramr_0 HL.out hl2 HK.out).mono ?_); rintro e w' ⟨rfl, rfl⟩))
 go_upto_region 21 with fail
 refine wp_region_lit ?_
 refine wpl_loadS rfl (.tmp 3) rfl rfl (heap_a1 w _ _) rfl ?_
 go_wp2_with fail
 ((with_reducible refine (eraser_any _ s true k r c S _ HS2.out HV.out HI.out k0).mono ?_); rintro e w4 ⟨v4, rfl, hv4, b4⟩)
 have hb4 : Below (w.heap.size + 1 + 1) _ w4 := (by rw [← H2.out.2]; exact b4)
 obtain ⟨e0, e1⟩ := two_keptB hb4
 have z4 := b4.size
 rw [H2.out.2] at z4
 obtain ⟨uc, ut, uo, up, ui, uu, rfl, hs4⟩ := hv4
 rename_i K hK
 refine hK _ _ ?_
 refine wpl_storeS rfl (.tmp 6) (.tmp 93) rfl rfl rfl e1 rfl rfl hs4.one ?_
 go_wp2
 refine scEndV (w.heap.size + 1) 6 Tryz.results76 rfl rfl e1 (by omega) (H2.out.1.trans (hb4.mono (by omega))) HSS.out hs4 (fun x hx => ?_)
 rcases hx with h | h
 ·exact .inl h
 ·have := h.1
  rw [H2.out.2] at this
  exact .inr ⟨by omega, h.2⟩
theorem seqr_64 (v vl : Value) (s : Sc) (l : List Int) (b : Int) (r c : Nat) (S T : Nat → Prop) (w : World) (hS : ∀ x, S x → x < w.heap.size) (hT : ∀ x, T x → x < w.heap.size) (h : SCV w S v s) (hi : ScIn s r c) (hl : SL vI w T vl l) (hl2 : l.length ≤ 1048576) (n m k : Int) (hn : paramL l 0 1 = n) (hm : paramL l 1 1 = m) (hk : paramL l 0 0 = k) (n1 : 1 ≤ n) (n2 : n ≤ 65535) (m1 : 1 ≤ m) (m2 : m ≤ 65535) (k0 : 0 ≤ k) (k9 : k ≤ 65535) (hb : b = 64) : Calls Tryz.prog 76 #[v, .int .u8 b, vl] w (ScPost S { s with cells := insertL s.cells s.cols s.y s.x n, wrap := false } w) := by
 have HSS := Lib.hid hS
 clear hS
 obtain ⟨vc, vt, vo, vp, vi, vu, rfl, hs⟩ := h
 have HS := Lib.hid hs
 obtain ⟨A1, kk1, A2, k2, A3, k3, A4, k4, A5, k5, A6, k6, rfl, rfl, rfl, rfl, rfl, rfl, p1, q1, p2, q2, p3, q3, p4, q4, p5, q5, p6, q6⟩ := sslSix hs
 have HI := Lib.hid hi
 obtain ⟨y0, y1, x0, x1, hcl, hrl, c2, r2, hlen⟩ := dIn hi
 have c3 : s.cols ≤ 1000 := by omega
 have r3 : s.rows ≤ 1000 := by omega
 have r4 : 1 ≤ s.rows := by omega
 have c4 : s.x < s.cols := by omega
 have c5 : 1 ≤ s.cols := by omega
 have yr : s.y < s.rows := by omega
 have HN := Lib.hid hn
 have HMM := Lib.hid hm
 have HK := Lib.hid hk
 obtain ⟨Al, kl, rfl, pl, ql⟩ := hl.form
 clear hi hcl hrl hn hm hk
 have h2 := two_new w (.cells (vA s A1 A2 A3 A4 A5 A6 kk1 k2 k3 k4 k5 k6) 30) (.cells zQ 30)
 have HS2 : Hid (∀ x, S x → x < _) := fun x hx => Nat.lt_of_lt_of_le (HSS.out x hx) h2.1.size
 have H2 := Lib.hid h2
 have HL := Lib.hid (hl.keep (fun q hq => h2.1.cell (hT _ hq)))
 have HV := Lib.hid (show SCV _ S (.agg (vA s A1 A2 A3 A4 A5 A6 kk1 k2 k3 k4 k5 k6)) s from ⟨_, _, _, _, _, _, rfl, HS.out.below HSS.out h2.1⟩)
 clear hl hT
 have HC := Lib.hid (HS.out.1.cs' HSS.out h2.1 (Nat.le_refl _))
 clear h2
 subst hb
 go_enter Tryz.func76, Tryz.ntmps76
 go_upto_region 2 with (first | ((with_reducible refine (paramr_0 HL.out hl2 HN.out).mono ?_); rintro e w' ⟨rfl, rfl⟩) | ((with_reducible refine (paramr_1 HL.out hl2 HMM.out).mono ?_); rintro e w' ⟨rfl, rfl⟩) | ((with_reducible refine (paramr_0 HL.out hl2 HK.out).mono ?_); rintro e w' ⟨rfl, rfl⟩))
 go_upto_region 58 with fail
 ((with_reducible refine (Insert_any _ s.cells s.cols s.y s.x n _ HC.out (by omega)).mono ?_); rintro e w4 ⟨v4, rfl, o4, b4⟩; have hb4 : Below (w.heap.size + 1 + 1) _ w4 := (by rw [← H2.out.2]; exact b4); obtain ⟨e0, e1⟩ := two_keptB hb4; obtain ⟨cc2, ff2⟩ := cellR e0 2 rfl; obtain ⟨cc5, ff5⟩ := cellR e0 5 rfl; have K0 := Lib.hid e0; have K1 := Lib.hid e1; rw [H2.out.2] at o4; have O4 := Lib.hid o4; have B4 := Lib.hid (H2.out.1.trans (hb4.mono (by omega))); have Z4 := b4.size; rw [H2.out.2] at Z4; clear o4 b4 hb4 e0 e1)
 obtain ⟨A7, k7, rfl, p7, q7⟩ := O4.out.cs.form
 go_upto_region 58 with fail
 refine wp_region_lit ?_
 refine wpl_loadS rfl (.tmp 3) rfl rfl ((heap_setCell_same _ _ 5 _ _ _ ((heap_setCell_same _ _ 2 _ _ _ K0.out).trans rfl)).trans rfl) rfl ?_
 refine wpl_storeS rfl (.tmp 6) (.tmp 272) rfl rfl rfl ((heap_setCell_other _ _ _ _ (by simp)).trans ((heap_setCell_other _ _ _ _ (by simp)).trans K1.out)) rfl rfl all25 ?_
 go_wp2
 refine scEndC (w.heap.size + 1) 6 Tryz.results76 ?_ ?_ ((heap_setCell_other _ _ _ _ (by simp)).trans ((heap_setCell_other _ _ _ _ (by simp)).trans K1.out)) (by omega) ((B4.out.setCell (by simp) _).setCell (by simp) _) HSS.out HS.out ?_ ?_ ?_ (w.heap.size + 1 + 1) (by omega) O4.out (fun b hb => (heap_setCell_other _ _ _ _ (by simp; omega)).trans (heap_setCell_other _ _ _ _ (by simp; omega))) (by simp)
 all_goals rfl
theorem seqr_80 (v vl : Value) (s : Sc) (l : List Int) (b : Int) (r c : Nat) (S T : Nat → Prop) (w : World) (hS : ∀ x, S x → x < w.heap.size) (hT : ∀ x, T x → x < w.heap.size) (h : SCV w S v s) (hi : ScIn s r c) (hl : SL vI w T vl l) (hl2 : l.length ≤ 1048576) (n m k : Int) (hn : paramL l 0 1 = n) (hm : paramL l 1 1 = m) (hk : paramL l 0 0 = k) (n1 : 1 ≤ n) (n2 : n ≤ 65535) (m1 : 1 ≤ m) (m2 : m ≤ 65535) (k0 : 0 ≤ k) (k9 : k ≤ 65535) (hb : b = 80) : Calls Tryz.prog 76 #[v, .int .u8 b, vl] w (ScPost S { s with cells := deleteL s.cells s.cols s.y s.x n, wrap := false } w) := by
 have HSS := Lib.hid hS
 clear hS
 obtain ⟨vc, vt, vo, vp, vi, vu, rfl, hs⟩ := h
 have HS := Lib.hid hs
 obtain ⟨A1, kk1, A2, k2, A3, k3, A4, k4, A5, k5, A6, k6, rfl, rfl, rfl, rfl, rfl, rfl, p1, q1, p2, q2, p3, q3, p4, q4, p5, q5, p6, q6⟩ := sslSix hs
 have HI := Lib.hid hi
 obtain ⟨y0, y1, x0, x1, hcl, hrl, c2, r2, hlen⟩ := dIn hi
 have c3 : s.cols ≤ 1000 := by omega
 have r3 : s.rows ≤ 1000 := by omega
 have r4 : 1 ≤ s.rows := by omega
 have c4 : s.x < s.cols := by omega
 have c5 : 1 ≤ s.cols := by omega
 have yr : s.y < s.rows := by omega
 have HN := Lib.hid hn
 have HMM := Lib.hid hm
 have HK := Lib.hid hk
 obtain ⟨Al, kl, rfl, pl, ql⟩ := hl.form
 clear hi hcl hrl hn hm hk
 have h2 := two_new w (.cells (vA s A1 A2 A3 A4 A5 A6 kk1 k2 k3 k4 k5 k6) 30) (.cells zQ 30)
 have HS2 : Hid (∀ x, S x → x < _) := fun x hx => Nat.lt_of_lt_of_le (HSS.out x hx) h2.1.size
 have H2 := Lib.hid h2
 have HL := Lib.hid (hl.keep (fun q hq => h2.1.cell (hT _ hq)))
 have HV := Lib.hid (show SCV _ S (.agg (vA s A1 A2 A3 A4 A5 A6 kk1 k2 k3 k4 k5 k6)) s from ⟨_, _, _, _, _, _, rfl, HS.out.below HSS.out h2.1⟩)
 clear hl hT
 have HC := Lib.hid (HS.out.1.cs' HSS.out h2.1 (Nat.le_refl _))
 clear h2
 subst hb
 go_enter Tryz.func76, Tryz.ntmps76
 go_upto_region 2 with (first | ((with_reducible refine (paramr_0 HL.out hl2 HN.out).mono ?_); rintro e w' ⟨rfl, rfl⟩) | ((with_reducible refine (paramr_1 HL.out hl2 HMM.out).mono ?_); rintro e w' ⟨rfl, rfl⟩) | ((with_reducible refine (paramr_0 HL.out hl2 HK.out).mono ?_); rintro e w' ⟨rfl, rfl⟩))
 go_upto_region 58 with fail
 ((with_reducible refine (Delete_any _ s.cells s.cols s.y s.x n _ HC.out (by omega)).mono ?_); rintro e w4 ⟨v4, rfl, o4, b4⟩; have hb4 : Below (w.heap.size + 1 + 1) _ w4 := (by rw [← H2.out.2]; exact b4); obtain ⟨e0, e1⟩ := two_keptB hb4; obtain ⟨cc2, ff2⟩ := cellR e0 2 rfl; obtain ⟨cc5, ff5⟩ := cellR e0 5 rfl; have K0 := Lib.hid e0; have K1 := Lib.hid e1; rw [H2.out.2] at o4; have O4 := Lib.hid o4; have B4 := Lib.hid (H2.out.1.trans (hb4.mono (by omega))); have Z4 := b4.size; rw [H2.out.2] at Z4; clear o4 b4 hb4 e0 e1)
 obtain ⟨A7, k7, rfl, p7, q7⟩ := O4.out.cs.form
 go_upto_region 58 with fail
 refine wp_region_lit ?_
 refine wpl_loadS rfl (.tmp 3) rfl rfl ((heap_setCell_same _ _ 5 _ _ _ ((heap_setCell_same _ _ 2 _ _ _ K0.out).trans rfl)).trans rfl) rfl ?_
 refine wpl_storeS rfl (.tmp 6) (.tmp 272) rfl rfl rfl ((heap_setCell_other _ _ _ _ (by simp)).trans ((heap_setCell_other _ _ _ _ (by simp)).trans K1.out)) rfl rfl all25 ?_
 go_wp2
 refine scEndC (w.heap.size + 1) 6 Tryz.results76 ?_ ?_ ((heap_setCell_other _ _ _ _ (by simp)).trans ((heap_setCell_other _ _ _ _ (by simp)).trans K1.out)) (by omega) ((B4.out.setCell (by simp) _).setCell (by simp) _) HSS.out HS.out ?_ ?_ ?_ (w.heap.size + 1 + 1) (by omega) O4.out (fun b hb => (heap_setCell_other _ _ _ _ (by simp; omega)).trans (heap_setCell_other _ _ _ _ (by simp; omega))) (by simp)
 all_goals rfl
theorem seqr_88 (v vl : Value) (s : Sc) (l : List Int) (b : Int) (r c : Nat) (S T : Nat → Prop) (w : World) (hS : ∀ x, S x → x < w.heap.size) (hT : ∀ x, T x → x < w.heap.size) (h : SCV w S v s) (hi : ScIn s r c) (hl : SL vI w T vl l) (hl2 : l.length ≤ 1048576) (n m k : Int) (hn : paramL l 0 1 = n) (hm : paramL l 1 1 = m) (hk : paramL l 0 0 = k) (n1 : 1 ≤ n) (n2 : n ≤ 65535) (m1 : 1 ≤ m) (m2 : m ≤ 65535) (k0 : 0 ≤ k) (k9 : k ≤ 65535) (hb : b = 88) : Calls Tryz.prog 76 #[v, .int .u8 b, vl] w (ScPost S { s with cells := eraseL s.cells s.cols s.y s.x (s.x + n), wrap := false } w) := by
 have HSS := Lib.hid hS
 clear hS
 obtain ⟨vc, vt, vo, vp, vi, vu, rfl, hs⟩ := h
 have HS := Lib.hid hs
 obtain ⟨A1, kk1, A2, k2, A3, k3, A4, k4, A5, k5, A6, k6, rfl, rfl, rfl, rfl, rfl, rfl, p1, q1, p2, q2, p3, q3, p4, q4, p5, q5, p6, q6⟩ := sslSix hs
 have HI := Lib.hid hi
 obtain ⟨y0, y1, x0, x1, hcl, hrl, c2, r2, hlen⟩ := dIn hi
 have c3 : s.cols ≤ 1000 := by omega
 have r3 : s.rows ≤ 1000 := by omega
 have r4 : 1 ≤ s.rows := by omega
 have c4 : s.x < s.cols := by omega
 have c5 : 1 ≤ s.cols := by omega
 have yr : s.y < s.rows := by omega
 have HN := Lib.hid hn
 have HMM := Lib.hid hm
 have HK := Lib.hid hk
 obtain ⟨Al, kl, rfl, pl, ql⟩ := hl.form
 clear hi hcl hrl hn hm hk
 have h2 := two_new w (.cells (vA s A1 A2 A3 A4 A5 A6 kk1 k2 k3 k4 k5 k6) 30) (.cells zQ 30)
 have HS2 : Hid (∀ x, S x → x < _) := fun x hx => Nat.lt_of_lt_of_le (HSS.out x hx) h2.1.size
 have H2 := Lib.hid h2
 have HL := Lib.hid (hl.keep (fun q hq => h2.1.cell (hT _ hq)))
 have HV := Lib.hid (show SCV _ S (.agg (vA s A1 A2 A3 A4 A5 A6 kk1 k2 k3 k4 k5 k6)) s from ⟨_, _, _, _, _, _, rfl, HS.out.below HSS.out h2.1⟩)
 clear hl hT
 have HC := Lib.hid (HS.out.1.cs' HSS.out h2.1 (Nat.le_refl _))
 clear h2
 subst hb
 go_enter Tryz.func76, Tryz.ntmps76
 go_upto_region 2 with (first | ((with_reducible refine (paramr_0 HL.out hl2 HN.out).mono ?_); rintro e w' ⟨rfl, rfl⟩) | ((with_reducible refine (paramr_1 HL.out hl2 HMM.out).mono ?_); rintro e w' ⟨rfl, rfl⟩) | ((with_reducible refine (paramr_0 HL.out hl2 HK.out).mono ?_); rintro e w' ⟨rfl, rfl⟩))
 go_upto_region 58 with fail
 ((with_reducible refine (Erase_any _ s.cells s.cols s.y s.x (s.x + n) _ HC.out (by omega)).mono ?_); rintro e w4 ⟨v4, rfl, o4, b4⟩; have hb4 : Below (w.heap.size + 1 + 1) _ w4 := (by rw [← H2.out.2]; exact b4); obtain ⟨e0, e1⟩ := two_keptB hb4; obtain ⟨cc2, ff2⟩ := cellR e0 2 rfl; obtain ⟨cc5, ff5⟩ := cellR e0 5 rfl; have K0 := Lib.hid e0; have K1 := Lib.hid e1; rw [H2.out.2] at o4; have O4 := Lib.hid o4; have B4 := Lib.hid (H2.out.1.trans (hb4.mono (by omega))); have Z4 := b4.size; rw [H2.out.2] at Z4; clear o4 b4 hb4 e0 e1)
 obtain ⟨A7, k7, rfl, p7, q7⟩ := O4.out.cs.form
 go_upto_region 58 with fail
 refine wp_region_lit ?_
 refine wpl_loadS rfl (.tmp 3) rfl rfl ((heap_setCell_same _ _ 5 _ _ _ ((heap_setCell_same _ _ 2 _ _ _ K0.out).trans rfl)).trans rfl) rfl ?_
 refine wpl_storeS rfl (.tmp 6) (.tmp 272) rfl rfl rfl ((heap_setCell_other _ _ _ _ (by simp)).trans ((heap_setCell_other _ _ _ _ (by simp)).trans K1.out)) rfl rfl all25 ?_
 go_wp2
 refine scEndC (w.heap.size + 1) 6 Tryz.results76 ?_ ?_ ((heap_setCell_other _ _ _ _ (by simp)).trans ((heap_setCell_other _ _ _ _ (by simp)).trans K1.out)) (by omega) ((B4.out.setCell (by simp) _).setCell (by simp) _) HSS.out HS.out ?_ ?_ ?_ (w.heap.size + 1 + 1) (by omega) O4.out (fun b hb => (heap_setCell_other _ _ _ _ (by simp; omega)).trans (heap_setCell_other _ _ _ _ (by simp; omega))) (by simp)
 all_goals rfl
theorem seqr_83 (v vl : Value) (s : Sc) (l : List Int) (b : Int) (r c : Nat) (S T : Nat → Prop) (w : World) (hS : ∀ x, S x → x < w.heap.size) (hT : ∀ x, T x → x < w.heap.size) (h : SCV w S v s) (hi : ScIn s r c) (hl : SL vI w T vl l) (hl2 : l.length ≤ 1048576) (n m k : Int) (hn : paramL l 0 1 = n) (hm : paramL l 1 1 = m) (hk : paramL l 0 0 = k) (n1 : 1 ≤ n) (n2 : n ≤ 65535) (m1 : 1 ≤ m) (m2 : m ≤ 65535) (k0 : 0 ≤ k) (k9 : k ≤ 65535) (hb : b = 83) : Calls Tryz.prog 76 #[v, .int .u8 b, vl] w (ScPost S { s with cells := upL s.cells s.cols s.top s.bottom n, wrap := false } w) := by
 have HSS := Lib.hid hS
 clear hS
 obtain ⟨vc, vt, vo, vp, vi, vu, rfl, hs⟩ := h
 have HS := Lib.hid hs
 obtain ⟨A1, kk1, A2, k2, A3, k3, A4, k4, A5, k5, A6, k6, rfl, rfl, rfl, rfl, rfl, rfl, p1, q1, p2, q2, p3, q3, p4, q4, p5, q5, p6, q6⟩ := sslSix hs
 have HI := Lib.hid hi
 obtain ⟨y0, y1, x0, x1, hcl, hrl, c2, r2, hlen⟩ := dIn hi
 have c3 : s.cols ≤ 1000 := by omega
 have r3 : s.rows ≤ 1000 := by omega
 have r4 : 1 ≤ s.rows := by omega
 have c4 : s.x < s.cols := by omega
 have c5 : 1 ≤ s.cols := by omega
 have yr : s.y < s.rows := by omega
 have HN := Lib.hid hn
 have HMM := Lib.hid hm
 have HK := Lib.hid hk
 obtain ⟨Al, kl, rfl, pl, ql⟩ := hl.form
 clear hi hcl hrl hn hm hk
 have h2 := two_new w (.cells (vA s A1 A2 A3 A4 A5 A6 kk1 k2 k3 k4 k5 k6) 30) (.cells zQ 30)
 have HS2 : Hid (∀ x, S x → x < _) := fun x hx => Nat.lt_of_lt_of_le (HSS.out x hx) h2.1.size
 have H2 := Lib.hid h2
 have HL := Lib.hid (hl.keep (fun q hq => h2.1.cell (hT _ hq)))
 have HV := Lib.hid (show SCV _ S (.agg (vA s A1 A2 A3 A4 A5 A6 kk1 k2 k3 k4 k5 k6)) s from ⟨_, _, _, _, _, _, rfl, HS.out.below HSS.out h2.1⟩)
 clear hl hT
 have HC := Lib.hid (HS.out.1.cs' HSS.out h2.1 (Nat.le_refl _))
 clear h2
 subst hb
 go_enter Tryz.func76, Tryz.ntmps76
 go_upto_region 2 with (first | ((with_reducible refine (paramr_0 HL.out hl2 HN.out).mono ?_); rintro e w' ⟨rfl, rfl⟩) | ((with_reducible refine (paramr_1 HL.out hl2 HMM.out).mono ?_); rintro e w' ⟨rfl, rfl⟩) | ((with_reducible refine (paramr_0 HL.out hl2 HK.out).mono ?_); rintro e w' ⟨rfl, rfl⟩))
 go_upto_region 58 with fail
 ((with_reducible refine (Up_any _ s.cells s.cols s.top s.bottom n _ HC.out (by omega)).mono ?_); rintro e w4 ⟨v4, rfl, o4, b4⟩; have hb4 : Below (w.heap.size + 1 + 1) _ w4 := (by rw [← H2.out.2]; exact b4); obtain ⟨e0, e1⟩ := two_keptB hb4; obtain ⟨cc2, ff2⟩ := cellR e0 2 rfl; obtain ⟨cc5, ff5⟩ := cellR e0 5 rfl; have K0 := Lib.hid e0; have K1 := Lib.hid e1; rw [H2.out.2] at o4; have O4 := Lib.hid o4; have B4 := Lib.hid (H2.out.1.trans (hb4.mono (by omega))); have Z4 := b4.size; rw [H2.out.2] at Z4; clear o4 b4 hb4 e0 e1)
 obtain ⟨A7, k7, rfl, p7, q7⟩ := O4.out.cs.form
 go_upto_region 58 with fail
 refine wp_region_lit ?_
 refine wpl_loadS rfl (.tmp 3) rfl rfl ((heap_setCell_same _ _ 5 _ _ _ ((heap_setCell_same _ _ 2 _ _ _ K0.out).trans rfl)).trans rfl) rfl ?_
 refine wpl_storeS rfl (.tmp 6) (.tmp 272) rfl rfl rfl ((heap_setCell_other _ _ _ _ (by simp)).trans ((heap_setCell_other _ _ _ _ (by simp)).trans K1.out)) rfl rfl all25 ?_
 go_wp2
 refine scEndC (w.heap.size + 1) 6 Tryz.results76 ?_ ?_ ((heap_setCell_other _ _ _ _ (by simp)).trans ((heap_setCell_other _ _ _ _ (by simp)).trans K1.out)) (by omega) ((B4.out.setCell (by simp) _).setCell (by simp) _) HSS.out HS.out ?_ ?_ ?_ (w.heap.size + 1 + 1) (by omega) O4.out (fun b hb => (heap_setCell_other _ _ _ _ (by simp; omega)).trans (heap_setCell_other _ _ _ _ (by simp; omega))) (by simp)
 all_goals rfl
theorem seqr_84 (v vl : Value) (s : Sc) (l : List Int) (b : Int) (r c : Nat) (S T : Nat → Prop) (w : World) (hS : ∀ x, S x → x < w.heap.size) (hT : ∀ x, T x → x < w.heap.size) (h : SCV w S v s) (hi : ScIn s r c) (hl : SL vI w T vl l) (hl2 : l.length ≤ 1048576) (n m k : Int) (hn : paramL l 0 1 = n) (hm : paramL l 1 1 = m) (hk : paramL l 0 0 = k) (n1 : 1 ≤ n) (n2 : n ≤ 65535) (m1 : 1 ≤ m) (m2 : m ≤ 65535) (k0 : 0 ≤ k) (k9 : k ≤ 65535) (hb : b = 84) : Calls Tryz.prog 76 #[v, .int .u8 b, vl] w (ScPost S { s with cells := downL s.cells s.cols s.top s.bottom n, wrap := false } w) := by
 have HSS := Lib.hid hS
 clear hS
 obtain ⟨vc, vt, vo, vp, vi, vu, rfl, hs⟩ := h
 have HS := Lib.hid hs
 obtain ⟨A1, kk1, A2, k2, A3, k3, A4, k4, A5, k5, A6, k6, rfl, rfl, rfl, rfl, rfl, rfl, p1, q1, p2, q2, p3, q3, p4, q4, p5, q5, p6, q6⟩ := sslSix hs
 have HI := Lib.hid hi
 obtain ⟨y0, y1, x0, x1, hcl, hrl, c2, r2, hlen⟩ := dIn hi
 have c3 : s.cols ≤ 1000 := by omega
 have r3 : s.rows ≤ 1000 := by omega
 have r4 : 1 ≤ s.rows := by omega
 have c4 : s.x < s.cols := by omega
 have c5 : 1 ≤ s.cols := by omega
 have yr : s.y < s.rows := by omega
 have HN := Lib.hid hn
 have HMM := Lib.hid hm
 have HK := Lib.hid hk
 obtain ⟨Al, kl, rfl, pl, ql⟩ := hl.form
 clear hi hcl hrl hn hm hk
 have h2 := two_new w (.cells (vA s A1 A2 A3 A4 A5 A6 kk1 k2 k3 k4 k5 k6) 30) (.cells zQ 30)
 have HS2 : Hid (∀ x, S x → x < _) := fun x hx => Nat.lt_of_lt_of_le (HSS.out x hx) h2.1.size
 have H2 := Lib.hid h2
 have HL := Lib.hid (hl.keep (fun q hq => h2.1.cell (hT _ hq)))
 have HV := Lib.hid (show SCV _ S (.agg (vA s A1 A2 A3 A4 A5 A6 kk1 k2 k3 k4 k5 k6)) s from ⟨_, _, _, _, _, _, rfl, HS.out.below HSS.out h2.1⟩)
 clear hl hT
 have HC := Lib.hid (HS.out.1.cs' HSS.out h2.1 (Nat.le_refl _))
 clear h2
 subst hb
 go_enter Tryz.func76, Tryz.ntmps76
 go_upto_region 2 with (first | ((with_reducible refine (paramr_0 HL.out hl2 HN.out).mono ?_); rintro e w' ⟨rfl, rfl⟩) | ((with_reducible refine (paramr_1 HL.out hl2 HMM.out).mono ?_); rintro e w' ⟨rfl, rfl⟩) | ((with_reducible refine (paramr_0 HL.out hl2 HK.out).mono ?_); rintro e w' ⟨rfl, rfl⟩))
 go_upto_region 58 with fail
 ((with_reducible refine (Down_any _ s.cells s.cols s.top s.bottom n _ HC.out (by omega)).mono ?_); rintro e w4 ⟨v4, rfl, o4, b4⟩; have hb4 : Below (w.heap.size + 1 + 1) _ w4 := (by rw [← H2.out.2]; exact b4); obtain ⟨e0, e1⟩ := two_keptB hb4; obtain ⟨cc2, ff2⟩ := cellR e0 2 rfl; obtain ⟨cc5, ff5⟩ := cellR e0 5 rfl; have K0 := Lib.hid e0; have K1 := Lib.hid e1; rw [H2.out.2] at o4; have O4 := Lib.hid o4; have B4 := Lib.hid (H2.out.1.trans (hb4.mono (by omega))); have Z4 := b4.size; rw [H2.out.2] at Z4; clear o4 b4 hb4 e0 e1)
 obtain ⟨A7, k7, rfl, p7, q7⟩ := O4.out.cs.form
 go_upto_region 58 with fail
 refine wp_region_lit ?_
 refine wpl_loadS rfl (.tmp 3) rfl rfl ((heap_setCell_same _ _ 5 _ _ _ ((heap_setCell_same _ _ 2 _ _ _ K0.out).trans rfl)).trans rfl) rfl ?_
 refine wpl_storeS rfl (.tmp 6) (.tmp 272) rfl rfl rfl ((heap_setCell_other _ _ _ _ (by simp)).trans ((heap_setCell_other _ _ _ _ (by simp)).trans K1.out)) rfl rfl all25 ?_
 go_wp2
 refine scEndC (w.heap.size + 1) 6 Tryz.results76 ?_ ?_ ((heap_setCell_other _ _ _ _ (by simp)).trans ((heap_setCell_other _ _ _ _ (by simp)).trans K1.out)) (by omega) ((B4.out.setCell (by simp) _).setCell (by simp) _) HSS.out HS.out ?_ ?_ ?_ (w.heap.size + 1 + 1) (by omega) O4.out (fun b hb => (heap_setCell_other _ _ _ _ (by simp; omega)).trans (heap_setCell_other _ _ _ _ (by simp; omega))) (by simp)
 all_goals rfl
theorem seqr_76 (v vl : Value) (s : Sc) (l : List Int) (b : Int) (r c : Nat) (S T : Nat → Prop) (w : World) (hS : ∀ x, S x → x < w.heap.size) (hT : ∀ x, T x → x < w.heap.size) (h : SCV w S v s) (hi : ScIn s r c) (hl : SL vI w T vl l) (hl2 : l.length ≤ 1048576) (n m k : Int) (hn : paramL l 0 1 = n) (hm : paramL l 1 1 = m) (hk : paramL l 0 0 = k) (n1 : 1 ≤ n) (n2 : n ≤ 65535) (m1 : 1 ≤ m) (m2 : m ≤ 65535) (k0 : 0 ≤ k) (k9 : k ≤ 65535) (hb : b = 76) (hy1 : s.top ≤ s.y) (hy2 : s.y ≤ s.bottom) : Calls Tryz.prog 76 #[v, .int .u8 b, vl] w (ScPost S { s with wrap := false, x := 0, cells := downL s.cells s.cols s.y s.bottom n } w) := by
 have HSS := Lib.hid hS
 clear hS
 obtain ⟨vc, vt, vo, vp, vi, vu, rfl, hs⟩ := h
 have HS := Lib.hid hs
 obtain ⟨A1, kk1, A2, k2, A3, k3, A4, k4, A5, k5, A6, k6, rfl, rfl, rfl, rfl, rfl, rfl, p1, q1, p2, q2, p3, q3, p4, q4, p5, q5, p6, q6⟩ := sslSix hs
 have HI := Lib.hid hi
 obtain ⟨y0, y1, x0, x1, hcl, hrl, c2, r2, hlen⟩ := dIn hi
 have c3 : s.cols ≤ 1000 := by omega
 have r3 : s.rows ≤ 1000 := by omega
 have r4 : 1 ≤ s.rows := by omega
 have c4 : s.x < s.cols := by omega
 have c5 : 1 ≤ s.cols := by omega
 have yr : s.y < s.rows := by omega
 have HN := Lib.hid hn
 have HMM := Lib.hid hm
 have HK := Lib.hid hk
 obtain ⟨Al, kl, rfl, pl, ql⟩ := hl.form
 clear hi hcl hrl hn hm hk
 have h2 := two_new w (.cells (vA s A1 A2 A3 A4 A5 A6 kk1 k2 k3 k4 k5 k6) 30) (.cells zQ 30)
 have HS2 : Hid (∀ x, S x → x < _) := fun x hx => Nat.lt_of_lt_of_le (HSS.out x hx) h2.1.size
 have H2 := Lib.hid h2
 have h3 := two_new w (.cells #[.int .i64 s.rows, .int .i64 s.cols, .slice A1 s.cells.length kk1, .int .i64 s.y, .int .i64 0, .bool false, .int .u16 (s.attr : Int), .int .i64 s.top, .int .i64 s.bottom, .slice A2 s.tabs.length k2, .int .i64 s.sy, .int .i64 s.sx, .int .u16 (s.sattr : Int), .bool s.auto, .bool s.shown, .bool s.alt, .slice A3 s.other.length k3, .int .i64 s.oy, .int .i64 s.ox, .int .i64 (s.p.mode : Int), .int .u8 (s.p.priv : Int), .slice A4 s.p.params.length k4, .slice A5 s.p.inter.length k5, .slice A6 s.p.utf.length k6] 30) (.cells zQ 30)
 have HL := Lib.hid (hl.keep (fun q hq => h2.1.cell (hT _ hq)))
 have HV := Lib.hid (show SCV _ S (.agg (vA s A1 A2 A3 A4 A5 A6 kk1 k2 k3 k4 k5 k6)) s from ⟨_, _, _, _, _, _, rfl, HS.out.below HSS.out h2.1⟩)
 clear hl hT
 have HC := Lib.hid (HS.out.1.cs' HSS.out h3.1 (Nat.le_refl _))
 clear H2
 have H2 := Lib.hid h3
 clear h2 h3
 subst hb
 go_enter Tryz.func76, Tryz.ntmps76
 go_upto_region 2 with (first | ((with_reducible refine (paramr_0 HL.out hl2 HN.out).mono ?_); rintro e w' ⟨rfl, rfl⟩) | ((with_reducible refine (paramr_1 HL.out hl2 HMM.out).mono ?_); rintro e w' ⟨rfl, rfl⟩) | ((with_reducible refine (paramr_0 HL.out hl2 HK.out).mono ?_); rintro e w' ⟨rfl, rfl⟩))
 go_upto_region 58 with fail
 ((with_reducible refine (Down_any _ s.cells s.cols s.y s.bottom n _ HC.out (by omega)).mono ?_); rintro e w4 ⟨v4, rfl, o4, b4⟩; have hb4 : Below (w.heap.size + 1 + 1) _ w4 := (by rw [← H2.out.2]; exact b4); obtain ⟨e0, e1⟩ := two_keptB hb4; obtain ⟨cc2, ff2⟩ := cellR e0 2 rfl; have K0 := Lib.hid e0; have K1 := Lib.hid e1; rw [H2.out.2] at o4; have O4 := Lib.hid o4; have B4 := Lib.hid (H2.out.1.trans (hb4.mono (by omega))); have Z4 := b4.size; rw [H2.out.2] at Z4; clear o4 b4 hb4 e0 e1)
 obtain ⟨A7, k7, rfl, p7, q7⟩ := O4.out.cs.form
 go_upto_region 58 with fail
 refine wp_region_lit ?_
 refine wpl_loadS rfl (.tmp 3) rfl rfl ((heap_setCell_same _ _ 2 _ _ _ K0.out).trans rfl) rfl ?_
 refine wpl_storeS rfl (.tmp 6) (.tmp 272) rfl rfl rfl ((heap_setCell_other _ _ _ _ (by simp)).trans K1.out) rfl rfl all25 ?_
 go_wp2
 refine scEndC (w.heap.size + 1) 6 Tryz.results76 ?_ ?_ ((heap_setCell_other _ _ _ _ (by simp)).trans K1.out) (by omega) (B4.out.setCell (by simp) _) HSS.out HS.out ?_ ?_ ?_ (w.heap.size + 1 + 1) (by omega) O4.out (fun b hb => heap_setCell_other _ _ _ _ (by simp; omega)) (by simp)
 all_goals rfl
theorem seqr_77 (v vl : Value) (s : Sc) (l : List Int) (b : Int) (r c : Nat) (S T : Nat → Prop) (w : World) (hS : ∀ x, S x → x < w.heap.size) (hT : ∀ x, T x → x < w.heap.size) (h : SCV w S v s) (hi : ScIn s r c) (hl : SL vI w T vl l) (hl2 : l.length ≤ 1048576) (n m k : Int) (hn : paramL l 0 1 = n) (hm : paramL l 1 1 = m) (hk : paramL l 0 0 = k) (n1 : 1 ≤ n) (n2 : n ≤ 65535) (m1 : 1 ≤ m) (m2 : m ≤ 65535) (k0 : 0 ≤ k) (k9 : k ≤ 65535) (hb : b = 77) (hy1 : s.top ≤ s.y) (hy2 : s.y ≤ s.bottom) : Calls Tryz.prog 76 #[v, .int .u8 b, vl] w (ScPost S { s with wrap := false, x := 0, cells := upL s.cells s.cols s.y s.bottom n } w) := by
 have HSS := Lib.hid hS
 clear hS
 obtain ⟨vc, vt, vo, vp, vi, vu, rfl, hs⟩ := h
 have HS := Lib.hid hs
 obtain ⟨A1, kk1, A2, k2, A3, k3, A4, k4, A5, k5, A6, k6, rfl, rfl, rfl, rfl, rfl, rfl, p1, q1, p2, q2, p3, q3, p4, q4, p5, q5, p6, q6⟩ := sslSix hs
 have HI := Lib.hid hi
 obtain ⟨y0, y1, x0, x1, hcl, hrl, c2, r2, hlen⟩ := dIn hi
 have c3 : s.cols ≤ 1000 := by omega
 have r3 : s.rows ≤ 1000 := by omega
 have r4 : 1 ≤ s.rows := by omega
 have c4 : s.x < s.cols := by omega
 have c5 : 1 ≤ s.cols := by omega
 have yr : s.y < s.rows := by omega
 have HN := Lib.hid hn
 have HMM := Lib.hid hm
 have HK := Lib.hid hk
 obtain ⟨Al, kl, rfl, pl, ql⟩ := hl.form
 clear hi hcl hrl hn hm hk
 have h2 := two_new w (.cells (vA s A1 A2 A3 A4 A5 A6 kk1 k2 k3 k4 k5 k6) 30) (.cells zQ 30)
 have HS2 : Hid (∀ x, S x → x < _) := fun x hx => Nat.lt_of_lt_of_le (HSS.out x hx) h2.1.size
 have H2 := Lib.hid h2
 have h3 := two_new w (.cells #[.int .i64 s.rows, .int .i64 s.cols, .slice A1 s.cells.length kk1, .int .i64 s.y, .int .i64 0, .bool false, .int .u16 (s.attr : Int), .int .i64 s.top, .int .i64 s.bottom, .slice A2 s.tabs.length k2, .int .i64 s.sy, .int .i64 s.sx, .int .u16 (s.sattr : Int), .bool s.auto, .bool s.shown, .bool s.alt, .slice A3 s.other.length k3, .int .i64 s.oy, .int .i64 s.ox, .int .i64 (s.p.mode : Int), .int .u8 (s.p.priv : Int), .slice A4 s.p.params.length k4, .slice A5 s.p.inter.length k5, .slice A6 s.p.utf.length k6] 30) (.cells zQ 30)
 have HL := Lib.hid (hl.keep (fun q hq => h2.1.cell (hT _ hq)))
 have HV := Lib.hid (show SCV _ S (.agg (vA s A1 A2 A3 A4 A5 A6 kk1 k2 k3 k4 k5 k6)) s from ⟨_, _, _, _, _, _, rfl, HS.out.below HSS.out h2.1⟩)
 clear hl hT
 have HC := Lib.hid (HS.out.1.cs' HSS.out h3.1 (Nat.le_refl _))
 clear H2
 have H2 := Lib.hid h3
 clear h2 h3
 subst hb
 go_enter Tryz.func76, Tryz.ntmps76
 go_upto_region 2 with (first | ((with_reducible refine (paramr_0 HL.out hl2 HN.out).mono ?_); rintro e w' ⟨rfl, rfl⟩) | ((with_reducible refine (paramr_1 HL.out hl2 HMM.out).mono ?_); rintro e w' ⟨rfl, rfl⟩) | ((with_reducible refine (paramr_0 HL.out hl2 HK.out).mono ?_); rintro e w' ⟨rfl, rfl⟩))
 go_upto_region 58 with fail
 ((with_reducible refine (Up_any _ s.cells s.cols s.y s.bottom n _ HC.out (by omega)).mono ?_); rintro e w4 ⟨v4, rfl, o4, b4⟩; have hb4 : Below (w.heap.size + 1 + 1) _ w4 := (by rw [← H2.out.2]; exact b4); obtain ⟨e0, e1⟩ := two_keptB hb4; obtain ⟨cc2, ff2⟩ := cellR e0 2 rfl; have K0 := Lib.hid e0; have K1 := Lib.hid e1; rw [H2.out.2] at o4; have O4 := Lib.hid o4; have B4 := Lib.hid (H2.out.1.trans (hb4.mono (by omega))); have Z4 := b4.size; rw [H2.out.2] at Z4; clear o4 b4 hb4 e0 e1)
 obtain ⟨A7, k7, rfl, p7, q7⟩ := O4.out.cs.form
 go_upto_region 58 with fail
 refine wp_region_lit ?_
 refine wpl_loadS rfl (.tmp 3) rfl rfl ((heap_setCell_same _ _ 2 _ _ _ K0.out).trans rfl) rfl ?_
 refine wpl_storeS rfl (.tmp 6) (.tmp 272) rfl rfl rfl ((heap_setCell_other _ _ _ _ (by simp)).trans K1.out) rfl rfl all25 ?_
 go_wp2
 refine scEndC (w.heap.size + 1) 6 Tryz.results76 ?_ ?_ ((heap_setCell_other _ _ _ _ (by simp)).trans K1.out) (by omega) (B4.out.setCell (by simp) _) HSS.out HS.out ?_ ?_ ?_ (w.heap.size + 1 + 1) (by omega) O4.out (fun b hb => heap_setCell_other _ _ _ _ (by simp; omega)) (by simp)
 all_goals rfl
theorem seqr_lm (v vl : Value) (s : Sc) (l : List Int) (b : Int) (r c : Nat) (S T : Nat → Prop) (w : World) (hS : ∀ x, S x → x < w.heap.size) (hT : ∀ x, T x → x < w.heap.size) (h : SCV w S v s) (hi : ScIn s r c) (hl : SL vI w T vl l) (hl2 : l.length ≤ 1048576) (n m k : Int) (hn : paramL l 0 1 = n) (hm : paramL l 1 1 = m) (hk : paramL l 0 0 = k) (n1 : 1 ≤ n) (n2 : n ≤ 65535) (m1 : 1 ≤ m) (m2 : m ≤ 65535) (k0 : 0 ≤ k) (k9 : k ≤ 65535) (hb : b = 76 ∨ b = 77) (hy : ¬ (s.top ≤ s.y ∧ s.y ≤ s.bottom)) : Calls Tryz.prog 76 #[v, .int .u8 b, vl] w (ScPost S { s with wrap := false } w) := by
 have HSS := Lib.hid hS
 clear hS
 obtain ⟨vc, vt, vo, vp, vi, vu, rfl, hs⟩ := h
 have HS := Lib.hid hs
 obtain ⟨A1, kk1, A2, k2, A3, k3, A4, k4, A5, k5, A6, k6, rfl, rfl, rfl, rfl, rfl, rfl, p1, q1, p2, q2, p3, q3, p4, q4, p5, q5, p6, q6⟩ := sslSix hs
 have HI := Lib.hid hi
 obtain ⟨y0, y1, x0, x1, hcl, hrl, c2, r2, hlen⟩ := dIn hi
 have c3 : s.cols ≤ 1000 := by omega
 have r3 : s.rows ≤ 1000 := by omega
 have r4 : 1 ≤ s.rows := by omega
 have c4 : s.x < s.cols := by omega
 have c5 : 1 ≤ s.cols := by omega
 have yr : s.y < s.rows := by omega
 have HN := Lib.hid hn
 have HMM := Lib.hid hm
 have HK := Lib.hid hk
 obtain ⟨Al, kl, rfl, pl, ql⟩ := hl.form
 clear hi hcl hrl hn hm hk
 have h2 := two_new w (.cells (vA s A1 A2 A3 A4 A5 A6 kk1 k2 k3 k4 k5 k6) 30) (.cells zQ 30)
 have HS2 : Hid (∀ x, S x → x < _) := fun x hx => Nat.lt_of_lt_of_le (HSS.out x hx) h2.1.size
 have H2 := Lib.hid h2
 have HL := Lib.hid (hl.keep (fun q hq => h2.1.cell (hT _ hq)))
 have HV := Lib.hid (show SCV _ S (.agg (vA s A1 A2 A3 A4 A5 A6 kk1 k2 k3 k4 k5 k6)) s from ⟨_, _, _, _, _, _, rfl, HS.out.below HSS.out h2.1⟩)
 clear hl hT
 clear h2
 by_cases hy1 : s.top ≤ s.y
 ·have hy2 : s.bottom < s.y := by omega
  have hy3 : decide (s.y ≤ s.bottom) = false := by simpa using hy2
  clear hy
  rcases hb with rfl | rfl
  all_goals
   go_enter Tryz.func76, Tryz.ntmps76
   go_upto_region 2 with (first | ((with_reducible refine (paramr_0 HL.out hl2 HN.out).mono ?_); rintro e w' ⟨rfl, rfl⟩) | ((with_reducible refine (paramr_1 HL.out hl2 HMM.out).mono ?_); rintro e w' ⟨rfl, rfl⟩) | ((with_reducible refine (paramr_0 HL.out hl2 HK.out).mono ?_); rintro e w' ⟨rfl, rfl⟩))
   go_upto_region 58 with fail
   refine wp_region_lit ?_
   refine wpl_loadS rfl (.tmp 3) rfl rfl (heap_a1 w _ _) rfl ?_
   refine wpl_storeS rfl (.tmp 6) (.tmp 272) rfl rfl rfl (heap_a2 w _ _) rfl rfl all25 ?_
   go_wp2
   refine scEnd (w.heap.size + 1) 6 Tryz.results76 ?_ ?_ (heap_a2 w _ _) (by omega) (two_new w _ _).1 HSS.out (HS.out.like ?_ ?_ ?_ ?_)
   all_goals rfl
 ·have hy2 : s.y < s.top := by omega
  have hy3 : decide (s.top ≤ s.y) = false := by simpa using hy2
  clear hy
  rcases hb with rfl | rfl
  all_goals
   go_enter Tryz.func76, Tryz.ntmps76
   go_upto_region 2 with (first | ((with_reducible refine (paramr_0 HL.out hl2 HN.out).mono ?_); rintro e w' ⟨rfl, rfl⟩) | ((with_reducible refine (paramr_1 HL.out hl2 HMM.out).mono ?_); rintro e w' ⟨rfl, rfl⟩) | ((with_reducible refine (paramr_0 HL.out hl2 HK.out).mono ?_); rintro e w' ⟨rfl, rfl⟩))
   go_upto_region 58 with fail
   refine wp_region_lit ?_
   refine wpl_loadS rfl (.tmp 3) rfl rfl (heap_a1 w _ _) rfl ?_
   refine wpl_storeS rfl (.tmp 6) (.tmp 272) rfl rfl rfl (heap_a2 w _ _) rfl rfl all25 ?_
   go_wp2
   refine scEnd (w.heap.size + 1) 6 Tryz.results76 ?_ ?_ (heap_a2 w _ _) (by omega) (two_new w _ _).1 HSS.out (HS.out.like ?_ ?_ ?_ ?_)
   all_goals rfl
end Go.Proofs.YthncoigjfhmldaaGreat
