/- What is proved here: parts of the proofs of the laws of layer 10. -/
import Derived.Test.YthncoigjfhmldaaGreatS26
import Derived.Deep.QuietTactic
import Derived.BigQuiet
namespace Go.Proofs.YthncoigjfhmldaaGreat
open Go.RowKit
set_option linter.unusedVariables false
set_option linter.unusedSimpArgs false
set_option maxHeartbeats 2000000
set_option maxRecDepth 100000
theorem seqr_rno (v vl : Value) (s : Sc) (l : List Int) (b : Int) (r c : Nat) (S T : Nat → Prop) (w : World) (hS : ∀ x, S x → x < w.heap.size) (hT : ∀ x, T x → x < w.heap.size) (h : SCV w S v s) (hi : ScIn s r c) (hl : SL vI w T vl l) (hl2 : l.length ≤ 1048576) (n m k : Int) (hn : paramL l 0 1 = n) (hm : paramL l 1 1 = m) (hk : paramL l 0 0 = k) (n1 : 1 ≤ n) (n2 : n ≤ 65535) (m1 : 1 ≤ m) (m2 : m ≤ 65535) (k0 : 0 ≤ k) (k9 : k ≤ 65535) (hb : b = 114) (q : Int) (hq : paramL l 1 s.rows = q) (q1 : 1 ≤ q) (q2 : q ≤ 65535) (hno : ¬ n - 1 < min q s.rows - 1) : Calls Tryz.prog 76 #[v, .int .u8 b, vl] w (ScPost S s w) := by
 have HSS := Lib.hid hS
 clear hS
 obtain ⟨vc, vt, vo, vp, vi, vu, rfl, hs⟩ := h
 have HS := Lib.hid hs
 obtain ⟨A1, kk1, A2, k2, A3, k3, A4, k4, A5, k5, A6, k6, rfl, rfl, rfl, rfl, rfl, rfl, p1, q1, p2, q2, p3, q3, p4, q4, p5, q5, p6, q6⟩ := sslSix hs
 have HI := Lib.hid hi
 obtain ⟨y0, y1, x0, x1, hcl, hrl, c2, r2, hlen⟩ := dIn hi
 have c3 : s.cols ≤ 1000 := by omega
 have r3 : s.rows ≤ 1000 := by omega
 have r4 : 1 ≤ s.rows := by omega
 have c4 : s.x < s.cols := by omega
 have c5 : 1 ≤ s.cols := by omega
 have yr : s.y < s.rows := by omega
 have HN := Lib.hid hn
 have HMM := Lib.hid hm
 have HK := Lib.hid hk
 obtain ⟨Al, kl, rfl, pl, ql⟩ := hl.form
 clear hi hcl hrl hn hm hk
 have h2 := two_new w (.cells (vA s A1 A2 A3 A4 A5 A6 kk1 k2 k3 k4 k5 k6) 30) (.cells zQ 30)
 have HS2 : Hid (∀ x, S x → x < _) := fun x hx => Nat.lt_of_lt_of_le (HSS.out x hx) h2.1.size
 have H2 := Lib.hid h2
 have HL := Lib.hid (hl.keep (fun q hq => h2.1.cell (hT _ hq)))
 have HV := Lib.hid (show SCV _ S (.agg (vA s A1 A2 A3 A4 A5 A6 kk1 k2 k3 k4 k5 k6)) s from ⟨_, _, _, _, _, _, rfl, HS.out.below HSS.out h2.1⟩)
 clear hl hT
 subst hb
 obtain ⟨bt, hbt⟩ : ∃ bt, bt = (if s.rows < q then s.rows else q) := ⟨_, rfl⟩
 have hbt2 : min q s.rows = bt := by rw [hbt]; split <;> omega
 have hbt3 : bt ≤ s.rows := by omega
 have hbt4 : 0 ≤ bt := by omega
 have HBT := Lib.hid hbt
 have HBT2 := Lib.hid hbt2
 have HQ := Lib.hid hq
 clear h2 hbt hbt2 hq
 have hno2 : ¬ n - 1 < bt - 1 := by rw [← HBT2.out]; exact hno
 have hno3 : bt - 1 ≤ n - 1 := by omega
 clear hno hno2
 go_enter Tryz.func76, Tryz.ntmps76
 go_upto_region 2 with (first | ((with_reducible refine (paramr_0 HL.out hl2 HN.out).mono ?_); rintro e w' ⟨rfl, rfl⟩) | ((with_reducible refine (paramr_1 HL.out hl2 HMM.out).mono ?_); rintro e w' ⟨rfl, rfl⟩) | ((with_reducible refine (paramr_0 HL.out hl2 HK.out).mono ?_); rintro e w' ⟨rfl, rfl⟩))
 go_upto_region 41 with fail
 generalize hW2 : World.alloc (World.alloc w _) _ = W2 at *
 have e0 : W2.heap[w.heap.size]? = some (.cells (vA s A1 A2 A3 A4 A5 A6 kk1 k2 k3 k4 k5 k6) 30) := by rw [← hW2]; exact heap_a1 w _ _
 have e1 : W2.heap[w.heap.size + 1]? = some (.cells zQ 30) := by rw [← hW2]; exact heap_a2 w _ _
 have hLd : SL vI W2.drew T (.slice Al l.length kl) l := HL.out
 obtain ⟨a0, n0'⟩ := cellR (w := W2.drew) (v := .int .i64 s.rows) e0 0 rfl
 have K0 := Lib.hid e0
 have K1 := Lib.hid e1
 have HLd := Lib.hid hLd
 clear e0 e1 hLd hW2
 have w1 : IntKind.i64.wrap (n - 1) = n - 1 := IntWalk.i64_in _ (by omega)
 have w2 : IntKind.i64.wrap ((if s.rows < q then s.rows else q) - 1) = (if s.rows < q then s.rows else q) - 1 := IntWalk.i64_in _ (by rw [← HBT.out]; omega)
 go_region_with ((with_reducible refine (paramr_1 HLd.out hl2 HQ.out).mono ?_); rintro e w' ⟨rfl, rfl⟩)
 all_goals
  clear w1 w2
  go_upto_region 42 with fail
  rw [← HBT.out]
  go_upto_region 58 with fail
  refine wp_region_lit ?_
  refine wpl_loadS rfl (.tmp 3) rfl rfl K0.out rfl ?_
  refine wpl_storeS rfl (.tmp 6) (.tmp 272) rfl rfl rfl K1.out rfl rfl all25 ?_
  go_wp2
  refine scEnd (w.heap.size + 1) 6 Tryz.results76 ?_ ?_ K1.out (by omega) H2.out.1.drew HSS.out (HS.out.like ?_ ?_ ?_ ?_)
  all_goals rfl
theorem seqr_ryes (v vl : Value) (s : Sc) (l : List Int) (b : Int) (r c : Nat) (S T : Nat → Prop) (w : World) (hS : ∀ x, S x → x < w.heap.size) (hT : ∀ x, T x → x < w.heap.size) (h : SCV w S v s) (hi : ScIn s r c) (hl : SL vI w T vl l) (hl2 : l.length ≤ 1048576) (n m k : Int) (hn : paramL l 0 1 = n) (hm : paramL l 1 1 = m) (hk : paramL l 0 0 = k) (n1 : 1 ≤ n) (n2 : n ≤ 65535) (m1 : 1 ≤ m) (m2 : m ≤ 65535) (k0 : 0 ≤ k) (k9 : k ≤ 65535) (hb : b = 114) (q : Int) (hq : paramL l 1 s.rows = q) (q1 : 1 ≤ q) (q2 : q ≤ 65535) (hno : n - 1 < min q s.rows - 1) : Calls Tryz.prog 76 #[v, .int .u8 b, vl] w (ScPost S { toS s 0 0 with top := n - 1, bottom := min q s.rows - 1 } w) := by
 have HSS := Lib.hid hS
 clear hS
 obtain ⟨vc, vt, vo, vp, vi, vu, rfl, hs⟩ := h
 have HS := Lib.hid hs
 obtain ⟨A1, kk1, A2, k2, A3, k3, A4, k4, A5, k5, A6, k6, rfl, rfl, rfl, rfl, rfl, rfl, p1, q1, p2, q2, p3, q3, p4, q4, p5, q5, p6, q6⟩ := sslSix hs
 have HI := Lib.hid hi
 obtain ⟨y0, y1, x0, x1, hcl, hrl, c2, r2, hlen⟩ := dIn hi
 have c3 : s.cols ≤ 1000 := by omega
 have r3 : s.rows ≤ 1000 := by omega
 have r4 : 1 ≤ s.rows := by omega
 have c4 : s.x < s.cols := by omega
 have c5 : 1 ≤ s.cols := by omega
 have yr : s.y < s.rows := by omega
 have HN := Lib.hid hn
 have HMM := Lib.hid hm
 have HK := Lib.hid hk
 obtain ⟨Al, kl, rfl, pl, ql⟩ := hl.form
 clear hi hcl hrl hn hm hk
 have h2 := two_new w (.cells (vA s A1 A2 A3 A4 A5 A6 kk1 k2 k3 k4 k5 k6) 30) (.cells zQ 30)
 have HS2 : Hid (∀ x, S x → x < _) := fun x hx => Nat.lt_of_lt_of_le (HSS.out x hx) h2.1.size
 have H2 := Lib.hid h2
 have HL := Lib.hid (hl.keep (fun q hq => h2.1.cell (hT _ hq)))
 have HV := Lib.hid (show SCV _ S (.agg (vA s A1 A2 A3 A4 A5 A6 kk1 k2 k3 k4 k5 k6)) s from ⟨_, _, _, _, _, _, rfl, HS.out.below HSS.out h2.1⟩)
 clear hl hT
 subst hb
 obtain ⟨bt, hbt⟩ : ∃ bt, bt = (if s.rows < q then s.rows else q) := ⟨_, rfl⟩
 have hbt2 : min q s.rows = bt := by rw [hbt]; split <;> omega
 have hbt3 : bt ≤ s.rows := by omega
 have hbt4 : 0 ≤ bt := by omega
 have HBT := Lib.hid hbt
 have HBT2 := Lib.hid hbt2
 have HQ := Lib.hid hq
 clear h2 hbt hbt2 hq
 have hno2 : n - 1 < bt - 1 := by rw [← HBT2.out]; exact hno
 rw [HBT2.out]
 clear hno
 go_enter Tryz.func76, Tryz.ntmps76
 go_upto_region 2 with (first | ((with_reducible refine (paramr_0 HL.out hl2 HN.out).mono ?_); rintro e w' ⟨rfl, rfl⟩) | ((with_reducible refine (paramr_1 HL.out hl2 HMM.out).mono ?_); rintro e w' ⟨rfl, rfl⟩) | ((with_reducible refine (paramr_0 HL.out hl2 HK.out).mono ?_); rintro e w' ⟨rfl, rfl⟩))
 go_upto_region 41 with fail
 generalize hW2 : World.alloc (World.alloc w _) _ = W2 at *
 have e0 : W2.heap[w.heap.size]? = some (.cells (vA s A1 A2 A3 A4 A5 A6 kk1 k2 k3 k4 k5 k6) 30) := by rw [← hW2]; exact heap_a1 w _ _
 have e1 : W2.heap[w.heap.size + 1]? = some (.cells zQ 30) := by rw [← hW2]; exact heap_a2 w _ _
 have hLd : SL vI W2.drew T (.slice Al l.length kl) l := HL.out
 obtain ⟨a0, n0'⟩ := cellR (w := W2.drew) (v := .int .i64 s.rows) e0 0 rfl
 have K0 := Lib.hid e0
 have K1 := Lib.hid e1
 have HLd := Lib.hid hLd
 clear e0 e1 hLd hW2
 have w1 : IntKind.i64.wrap (n - 1) = n - 1 := IntWalk.i64_in _ (by omega)
 have w2 : IntKind.i64.wrap ((if s.rows < q then s.rows else q) - 1) = (if s.rows < q then s.rows else q) - 1 := IntWalk.i64_in _ (by rw [← HBT.out]; omega)
 go_region_with ((with_reducible refine (paramr_1 HLd.out hl2 HQ.out).mono ?_); rintro e w' ⟨rfl, rfl⟩)
 all_goals
  clear w1 w2
  go_upto_region 42 with fail
  rw [← HBT.out]
  have hz2 := H2.out.2
  have hVd : SCV W2.drew S (.agg (vA s A1 A2 A3 A4 A5 A6 kk1 k2 k3 k4 k5 k6)) s := HV.out
  have HVd := Lib.hid hVd
  have HSd : Hid (∀ x, S x → x < W2.drew.heap.size) := HS2.out
  clear hVd
  go_upto_region 43 with fail
  refine wp_region_lit ?_
  refine wpl_loadS rfl (.tmp 3) rfl rfl K0.out rfl ?_
  go_wp2_with fail
  ((with_reducible refine (tor_any _ s 0 0 S _ HSd.out HVd.out r4 r3 c5 c3).mono ?_); rintro e w4 ⟨v4, rfl, hv4, b4⟩)
  have z4 : W2.heap.size ≤ w4.heap.size := b4.size
  obtain ⟨uc, ut, uo, up, ui, uu, rfl, hs4⟩ := hv4
  have e0 : w4.heap[w.heap.size]? = _ := (b4.block _ (by show w.heap.size < W2.heap.size; omega)).trans K0.out
  have e1 : w4.heap[w.heap.size + 1]? = _ := (b4.block _ (by show w.heap.size + 1 < W2.heap.size; omega)).trans K1.out
  rename_i K hK
  refine hK _ _ ?_
  clear hK
  refine wpl_storeS rfl (.tmp 3) (.tmp 224) rfl rfl rfl e0 rfl rfl hs4.one ?_
  obtain ⟨W5, hW5⟩ : ∃ W5, W5 = w4.setRow w.heap.size (vS (toS s 0 0) uc ut uo up ui uu) := ⟨_, rfl⟩
  rw [← hW5]
  have k5 : W5.heap[w.heap.size]? = some (.cells (vS (toS s 0 0) uc ut uo up ui uu) 30) := by rw [hW5]; exact heap_setRow_same e0
  have o5 : ∀ b, b ≠ w.heap.size → W5.heap[b]? = w4.heap[b]? := fun b hb => by rw [hW5]; exact heap_setRow_other (fun e => hb e.symm)
  have z5 : W5.heap.size = w4.heap.size := by rw [hW5, size_setRow]
  have b5 : Below w.heap.size w W5 := by rw [hW5]; exact below_setRow (H2.out.1.drew.trans (b4.mono (by show w.heap.size ≤ W2.heap.size; omega))) (Nat.le_refl _) _
  obtain ⟨c7, f7⟩ := cellR k5 7 rfl
  obtain ⟨c8, f8⟩ := cellR k5 8 rfl
  have K5 := Lib.hid k5
  have O5 := Lib.hid o5
  have B5 := Lib.hid b5
  have Z5 := Lib.hid z5
  have HS4 := Lib.hid hs4
  have E1 := Lib.hid e1
  clear k5 o5 b5 z5 hs4 hW5 e0 e1 b4
  go_simp
  go_upto_region 58 with fail
  refine wp_region_lit ?_
  refine wpl_loadS rfl (.tmp 3) rfl rfl ((heap_setCell_same _ _ 8 _ _ _ ((heap_setCell_same _ _ 7 _ _ _ K5.out).trans rfl)).trans rfl) rfl ?_
  have e1 := (heap_setCell_other (W5.setCell ⟨w.heap.size, 7, none⟩ (.int .i64 (n - 1))) ⟨w.heap.size, 8, none⟩ (w.heap.size + 1) (.int .i64 (bt - 1)) (by simp)).trans ((heap_setCell_other _ _ _ _ (by simp)).trans ((O5.out _ (by omega)).trans E1.out))
  have hsW : SSl ((W5.setCell ⟨w.heap.size, 7, none⟩ (.int .i64 (n - 1))).setCell ⟨w.heap.size, 8, none⟩ (.int .i64 (bt - 1))) _ { toS s 0 0 with top := n - 1, bottom := bt - 1 } uc ut uo up ui uu := (HS4.out.keep (fun q hq => World.cell?_of_block ((heap_setCell_other _ _ _ _ (by
    rcases hq with h | h
    ·have := HSS.out _ h; simp; omega
    ·have h1 : W2.heap.size ≤ q.block := h.1; simp; omega)).trans ((heap_setCell_other _ _ _ _ (by
    rcases hq with h | h
    ·have := HSS.out _ h; simp; omega
    ·have h1 : W2.heap.size ≤ q.block := h.1; simp; omega)).trans (O5.out _ (by
    rcases hq with h | h
    ·have := HSS.out _ h; omega
    ·have h1 : W2.heap.size ≤ q.block := h.1; omega)))))).like rfl rfl rfl rfl
  refine wpl_storeS rfl (.tmp 6) (.tmp 272) rfl rfl rfl e1 rfl rfl (hsW.one (s' := { toS s 0 0 with top := n - 1, bottom := bt - 1 })) ?_
  go_wp2
  refine scEndV (w.heap.size + 1) 6 Tryz.results76 ?_ ?_ e1 (by omega) ((B5.out.setCell (by simp) _).setCell (by simp) _) HSS.out hsW (fun x hx => ?_)
  ·rfl
  ·rfl
  rcases hx with h | h
  ·exact .inl h
  ·have h1 : W2.heap.size ≤ x := h.1
   have h3 := h.2
   exact .inr ⟨by omega, by simp; rw [Z5.out]; omega⟩
end Go.Proofs.YthncoigjfhmldaaGreat
