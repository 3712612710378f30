/- What is proved here: parts of the proofs of the laws of layer 10. -/
import Derived.Test.YthncoigjfhmldaaGreatS25
import Derived.Test.YthncoigjfhmldaaGreatS17
import Derived.Test.YthncoigjfhmldaaGreatS4
import Derived.Deep.RegionWith
namespace Go.Proofs.YthncoigjfhmldaaGreat
open Go.RowKit
set_option linter.unusedVariables false
set_option linter.unusedSimpArgs false
set_option maxHeartbeats 2000000
set_option maxRecDepth 100000
theorem heap_al (X : World) (o : Obj) (b : Nat) (h : b < X.heap.size) : (X.alloc o).heap[b]? = X.heap[b]? := by
 show (X.heap.push o)[b]? = X.heap[b]?
 rw [Array.getElem?_push, if_neg (by omega)]
theorem seqr_no (v vl : Value) (s : Sc) (l : List Int) (b : Int) (r c : Nat) (S T : Nat → Prop) (w : World) (hS : ∀ x, S x → x < w.heap.size) (hT : ∀ x, T x → x < w.heap.size) (h : SCV w S v s) (hi : ScIn s r c) (hl : SL vI w T vl l) (hl2 : l.length ≤ 1048576) (n m k : Int) (hn : paramL l 0 1 = n) (hm : paramL l 1 1 = m) (hk : paramL l 0 0 = k) (n1 : 1 ≤ n) (n2 : n ≤ 65535) (m1 : 1 ≤ m) (m2 : m ≤ 65535) (k0 : 0 ≤ k) (k9 : k ≤ 65535) (hb : ¬ (b = 65 ∨ b = 66 ∨ b = 67 ∨ b = 68 ∨ b = 71 ∨ b = 96 ∨ b = 100 ∨ b = 72 ∨ b = 102 ∨ b = 74 ∨ b = 75 ∨ b = 76 ∨ b = 77 ∨ b = 64 ∨ b = 80 ∨ b = 88 ∨ b = 83 ∨ b = 84 ∨ b = 114 ∨ b = 103 ∨ b = 109)) : Calls Tryz.prog 76 #[v, .int .u8 b, vl] w (ScPost S s w) := by
 have HSS := Lib.hid hS
 clear hS
 obtain ⟨vc, vt, vo, vp, vi, vu, rfl, hs⟩ := h
 have HS := Lib.hid hs
 obtain ⟨A1, kk1, A2, k2, A3, k3, A4, k4, A5, k5, A6, k6, rfl, rfl, rfl, rfl, rfl, rfl, p1, q1, p2, q2, p3, q3, p4, q4, p5, q5, p6, q6⟩ := sslSix hs
 have HI := Lib.hid hi
 obtain ⟨y0, y1, x0, x1, hcl, hrl, c2, r2, hlen⟩ := dIn hi
 have c3 : s.cols ≤ 1000 := by omega
 have r3 : s.rows ≤ 1000 := by omega
 have r4 : 1 ≤ s.rows := by omega
 have c4 : s.x < s.cols := by omega
 have c5 : 1 ≤ s.cols := by omega
 have yr : s.y < s.rows := by omega
 have HN := Lib.hid hn
 have HMM := Lib.hid hm
 have HK := Lib.hid hk
 obtain ⟨Al, kl, rfl, pl, ql⟩ := hl.form
 clear hi hcl hrl hn hm hk
 have h2 := two_new w (.cells (vA s A1 A2 A3 A4 A5 A6 kk1 k2 k3 k4 k5 k6) 30) (.cells zQ 30)
 have HS2 : Hid (∀ x, S x → x < _) := fun x hx => Nat.lt_of_lt_of_le (HSS.out x hx) h2.1.size
 have H2 := Lib.hid h2
 have HL := Lib.hid (hl.keep (fun q hq => h2.1.cell (hT _ hq)))
 have HV := Lib.hid (show SCV _ S (.agg (vA s A1 A2 A3 A4 A5 A6 kk1 k2 k3 k4 k5 k6)) s from ⟨_, _, _, _, _, _, rfl, HS.out.below HSS.out h2.1⟩)
 clear hl hT
 clear h2
 have n65 : (b == 65) = false := by simp; omega
 have n66 : (b == 66) = false := by simp; omega
 have n67 : (b == 67) = false := by simp; omega
 have n68 : (b == 68) = false := by simp; omega
 have n71 : (b == 71) = false := by simp; omega
 have n96 : (b == 96) = false := by simp; omega
 have n100 : (b == 100) = false := by simp; omega
 have n72 : (b == 72) = false := by simp; omega
 have n102 : (b == 102) = false := by simp; omega
 have n74 : (b == 74) = false := by simp; omega
 have n75 : (b == 75) = false := by simp; omega
 have n76 : (b == 76) = false := by simp; omega
 have n77 : (b == 77) = false := by simp; omega
 have n64 : (b == 64) = false := by simp; omega
 have n80 : (b == 80) = false := by simp; omega
 have n88 : (b == 88) = false := by simp; omega
 have n83 : (b == 83) = false := by simp; omega
 have n84 : (b == 84) = false := by simp; omega
 have n114 : (b == 114) = false := by simp; omega
 have n103 : (b == 103) = false := by simp; omega
 have n109 : (b == 109) = false := by simp; omega
 clear hb
 go_enter Tryz.func76, Tryz.ntmps76
 go_upto_region 2 with (first | ((with_reducible refine (paramr_0 HL.out hl2 HN.out).mono ?_); rintro e w' ⟨rfl, rfl⟩) | ((with_reducible refine (paramr_1 HL.out hl2 HMM.out).mono ?_); rintro e w' ⟨rfl, rfl⟩) | ((with_reducible refine (paramr_0 HL.out hl2 HK.out).mono ?_); rintro e w' ⟨rfl, rfl⟩))
 go_upto_region 58 with fail
 refine wp_region_lit ?_
 refine wpl_loadS rfl (.tmp 3) rfl rfl (heap_a1 w _ _) rfl ?_
 refine wpl_storeS rfl (.tmp 6) (.tmp 272) rfl rfl rfl (heap_a2 w _ _) rfl rfl all25 ?_
 go_wp2
 refine scEnd (w.heap.size + 1) 6 Tryz.results76 ?_ ?_ (heap_a2 w _ _) (by omega) (two_new w _ _).1 HSS.out (HS.out.like ?_ ?_ ?_ ?_)
 all_goals rfl
theorem seqr_gno (v vl : Value) (s : Sc) (l : List Int) (b : Int) (r c : Nat) (S T : Nat → Prop) (w : World) (hS : ∀ x, S x → x < w.heap.size) (hT : ∀ x, T x → x < w.heap.size) (h : SCV w S v s) (hi : ScIn s r c) (hl : SL vI w T vl l) (hl2 : l.length ≤ 1048576) (n m k : Int) (hn : paramL l 0 1 = n) (hm : paramL l 1 1 = m) (hk : paramL l 0 0 = k) (n1 : 1 ≤ n) (n2 : n ≤ 65535) (m1 : 1 ≤ m) (m2 : m ≤ 65535) (k0 : 0 ≤ k) (k9 : k ≤ 65535) (hb : b = 103) (g0 : ¬ k = 0) (g3 : ¬ k = 3) : Calls Tryz.prog 76 #[v, .int .u8 b, vl] w (ScPost S s w) := by
 have HSS := Lib.hid hS
 clear hS
 obtain ⟨vc, vt, vo, vp, vi, vu, rfl, hs⟩ := h
 have HS := Lib.hid hs
 obtain ⟨A1, kk1, A2, k2, A3, k3, A4, k4, A5, k5, A6, k6, rfl, rfl, rfl, rfl, rfl, rfl, p1, q1, p2, q2, p3, q3, p4, q4, p5, q5, p6, q6⟩ := sslSix hs
 have HI := Lib.hid hi
 obtain ⟨y0, y1, x0, x1, hcl, hrl, c2, r2, hlen⟩ := dIn hi
 have c3 : s.cols ≤ 1000 := by omega
 have r3 : s.rows ≤ 1000 := by omega
 have r4 : 1 ≤ s.rows := by omega
 have c4 : s.x < s.cols := by omega
 have c5 : 1 ≤ s.cols := by omega
 have yr : s.y < s.rows := by omega
 have HN := Lib.hid hn
 have HMM := Lib.hid hm
 have HK := Lib.hid hk
 obtain ⟨Al, kl, rfl, pl, ql⟩ := hl.form
 clear hi hcl hrl hn hm hk
 have h2 := two_new w (.cells (vA s A1 A2 A3 A4 A5 A6 kk1 k2 k3 k4 k5 k6) 30) (.cells zQ 30)
 have HS2 : Hid (∀ x, S x → x < _) := fun x hx => Nat.lt_of_lt_of_le (HSS.out x hx) h2.1.size
 have H2 := Lib.hid h2
 have HL := Lib.hid (hl.keep (fun q hq => h2.1.cell (hT _ hq)))
 have HV := Lib.hid (show SCV _ S (.agg (vA s A1 A2 A3 A4 A5 A6 kk1 k2 k3 k4 k5 k6)) s from ⟨_, _, _, _, _, _, rfl, HS.out.below HSS.out h2.1⟩)
 clear hl hT
 clear h2
 subst hb
 have k0b : (k == 0) = false := by simpa using g0
 have k3b : (k == 3) = false := by simpa using g3
 go_enter Tryz.func76, Tryz.ntmps76
 go_upto_region 2 with (first | ((with_reducible refine (paramr_0 HL.out hl2 HN.out).mono ?_); rintro e w' ⟨rfl, rfl⟩) | ((with_reducible refine (paramr_1 HL.out hl2 HMM.out).mono ?_); rintro e w' ⟨rfl, rfl⟩) | ((with_reducible refine (paramr_0 HL.out hl2 HK.out).mono ?_); rintro e w' ⟨rfl, rfl⟩))
 go_upto_region 58 with fail
 refine wp_region_lit ?_
 refine wpl_loadS rfl (.tmp 3) rfl rfl (heap_a1 w _ _) rfl ?_
 refine wpl_storeS rfl (.tmp 6) (.tmp 272) rfl rfl rfl (heap_a2 w _ _) rfl rfl all25 ?_
 go_wp2
 refine scEnd (w.heap.size + 1) 6 Tryz.results76 ?_ ?_ (heap_a2 w _ _) (by omega) (two_new w _ _).1 HSS.out (HS.out.like ?_ ?_ ?_ ?_)
 all_goals rfl
def LookRel (l : List Int) (a0 : Nat) (X : Nat → Array Value) (Z : Obj) (w : World) (i : Value) (wr : World) : Prop :=
 ∃ j : Nat, j ≤ l.length ∧ i = .int .i64 (j : Int) ∧ attrB ((l.take j).foldl lookN a0) = true ∧ wr.heap[w.heap.size]? = some (.cells (X ((l.take j).foldl lookN a0)) 30) ∧ wr.heap[w.heap.size + 1]? = some Z ∧ Below w.heap.size w wr
theorem seqr_m1 (v vl : Value) (s : Sc) (l : List Int) (b : Int) (r c : Nat) (S T : Nat → Prop) (w : World) (hS : ∀ x, S x → x < w.heap.size) (hT : ∀ x, T x → x < w.heap.size) (h : SCV w S v s) (hi : ScIn s r c) (hl : SL vI w T vl l) (hl2 : l.length ≤ 1048576) (n m k : Int) (hn : paramL l 0 1 = n) (hm : paramL l 1 1 = m) (hk : paramL l 0 0 = k) (n1 : 1 ≤ n) (n2 : n ≤ 65535) (m1 : 1 ≤ m) (m2 : m ≤ 65535) (k0 : 0 ≤ k) (k9 : k ≤ 65535) (hb : b = 109) (hp : ∀ x ∈ l, 0 ≤ x ∧ x ≤ 65535) (hl0 : ¬ l.length = 0) : Calls Tryz.prog 76 #[v, .int .u8 b, vl] w (ScPost S { s with attr := l.foldl lookN s.attr } w) := by
 have HSS := Lib.hid hS
 clear hS
 obtain ⟨vc, vt, vo, vp, vi, vu, rfl, hs⟩ := h
 have HS := Lib.hid hs
 obtain ⟨A1, kk1, A2, k2, A3, k3, A4, k4, A5, k5, A6, k6, rfl, rfl, rfl, rfl, rfl, rfl, p1, q1, p2, q2, p3, q3, p4, q4, p5, q5, p6, q6⟩ := sslSix hs
 have HI := Lib.hid hi
 obtain ⟨y0, y1, x0, x1, hcl, hrl, c2, r2, hlen⟩ := dIn hi
 have c3 : s.cols ≤ 1000 := by omega
 have r3 : s.rows ≤ 1000 := by omega
 have r4 : 1 ≤ s.rows := by omega
 have c4 : s.x < s.cols := by omega
 have c5 : 1 ≤ s.cols := by omega
 have yr : s.y < s.rows := by omega
 have HN := Lib.hid hn
 have HMM := Lib.hid hm
 have HK := Lib.hid hk
 obtain ⟨Al, kl, rfl, pl, ql⟩ := hl.form
 clear hi hcl hrl hn hm hk
 have h2 := two_new w (.cells (vA s A1 A2 A3 A4 A5 A6 kk1 k2 k3 k4 k5 k6) 30) (.cells zQ 30)
 have HS2 : Hid (∀ x, S x → x < _) := fun x hx => Nat.lt_of_lt_of_le (HSS.out x hx) h2.1.size
 have H2 := Lib.hid h2
 have HL := Lib.hid (hl.keep (fun q hq => h2.1.cell (hT _ hq)))
 have HV := Lib.hid (show SCV _ S (.agg (vA s A1 A2 A3 A4 A5 A6 kk1 k2 k3 k4 k5 k6)) s from ⟨_, _, _, _, _, _, rfl, HS.out.below HSS.out h2.1⟩)
 have HLW := Lib.hid hl
 have HTW := Lib.hid hT
 have HP := Lib.hid hp
 clear hl hT hp
 clear h2
 subst hb
 have hlb : ((l.length : Int) == 0) = false := beq_eq_false_iff_ne.2 (by omega)
 have HL0 := Lib.hid hl0
 have HA0 := Lib.hid HI.out.attr
 clear hl0
 go_enter Tryz.func76, Tryz.ntmps76
 go_upto_region 2 with (first | ((with_reducible refine (paramr_0 HL.out hl2 HN.out).mono ?_); rintro e w' ⟨rfl, rfl⟩) | ((with_reducible refine (paramr_1 HL.out hl2 HMM.out).mono ?_); rintro e w' ⟨rfl, rfl⟩) | ((with_reducible refine (paramr_0 HL.out hl2 HK.out).mono ?_); rintro e w' ⟨rfl, rfl⟩))
 go_upto_region 55 with fail
 go_loopw [12] (fun i wr => LookRel l s.attr (fun a => vS { s with attr := a } (.slice A1 s.cells.length kk1) (.slice A2 s.tabs.length k2) (.slice A3 s.other.length k3) (.slice A4 s.p.params.length k4) (.slice A5 s.p.inter.length k5) (.slice A6 s.p.utf.length k6)) (.cells zQ 30) w i wr) (fun i _ => l.length - (intOf i).toNat)
 case atStart => exact ⟨0, Nat.zero_le _, rfl, HA0.out, heap_a1 w _ _, heap_a2 w _ _, (two_new w _ _).1⟩
 case round =>
  generalize wr = w3 at *
  obtain ⟨j, hj, rfl, hat, k3, k31, b3⟩ := hrel
  generalize hA : (l.take j).foldl lookN s.attr = aa at *
  have z3 := b3.size
  have haa := attrB_lt hat
  have K3 := Lib.hid k3
  have K31 := Lib.hid k31
  have B3 := Lib.hid b3
  have HAT := Lib.hid hat
  have HAA := Lib.hid hA
  have z3b : w.heap.size + 1 < w3.heap.size := by
   rcases Nat.lt_or_ge (w.heap.size + 1) w3.heap.size with hh | hh
   ·exact hh
   ·rw [Array.getElem?_eq_none hh] at k31; cases k31
  clear k3 k31 b3 hat hA
  by_cases hlt : j < l.length
  ·obtain ⟨x, hx⟩ : ∃ x, l[j]? = some x := ⟨_, List.getElem?_eq_getElem hlt⟩
   obtain ⟨ad, hAd, e1⟩ := HLW.out.get j x hx
   subst hAd
   obtain ⟨A', c', hv', _, _, h3'⟩ := HLW.out
   simp only [Value.slice.injEq, Option.some.injEq] at hv'
   obtain ⟨ad', hAd', hbl, _⟩ := h3' (by omega)
   have hbl2 : ad.block < w.heap.size := by
    have e : A' = some ad := hv'.1.symm
    rw [e] at hAd'
    injection hAd' with e2
    rw [e2]
    exact HTW.out _ hbl
   clear hv' h3' hAd'
   unfold vI at e1
   have e2 : w3.drew.cell? (ad.add j) = some (.int .i64 x) := (B3.out.cell (p := ad.add j) (by rw [block_add]; exact hbl2)).trans e1
   have tb : (ad.add j).block < w3.drew.heap.size := by rw [block_add]; show ad.block < w3.heap.size; omega
   obtain ⟨c6, f6⟩ := cellR (w := w3.drew) (v := .int .u16 (aa : Int)) K3.out 6 rfl
   have HX := Lib.hid hx
   clear hx e1
   go_wp2
   go_region_with ((with_reducible refine (lookr_any aa x haa _).mono ?_); rintro e w' ⟨rfl, rfl⟩)
   all_goals
    go_wp2
    go_roundw
    case rel =>
     have hfold : (l.take (j + 1)).foldl lookN s.attr = lookN aa x := by
      rw [List.take_add_one, HX.out, List.foldl_append, HAA.out]
      rfl
     refine ⟨j + 1, by omega, by go_num, ?_, ?_, ?_, B3.out.drew.setCell (by simp) _⟩
     ·rw [hfold]; exact lookN_ok aa x HAT.out
     ·rw [hfold]; exact (heap_setCell_same w3.drew _ 6 _ _ _ K3.out).trans rfl
     ·exact (heap_setCell_other _ _ _ _ (by simp)).trans K31.out
    case measure => simp [intOf]; omega
  ·obtain rfl : j = l.length := by omega
   have hfin : l.foldl lookN s.attr = aa := by have := HAA.out; rw [List.take_of_length_le (Nat.le_refl _)] at this; exact this
   have HF := Lib.hid hfin
   clear hfin
   go_upto_region 58 with fail
   refine wp_region_lit ?_
   refine wpl_loadS rfl (.tmp 3) rfl rfl K3.out rfl ?_
   refine wpl_storeS rfl (.tmp 6) (.tmp 272) rfl rfl rfl K31.out rfl rfl all25 ?_
   go_wp2
   rw [HF.out]
   refine scEnd (w.heap.size + 1) 6 Tryz.results76 ?_ ?_ K31.out (by omega) B3.out HSS.out (HS.out.like ?_ ?_ ?_ ?_)
   all_goals rfl
theorem seqr_m0 (v vl : Value) (s : Sc) (l : List Int) (b : Int) (r c : Nat) (S T : Nat → Prop) (w : World) (hS : ∀ x, S x → x < w.heap.size) (hT : ∀ x, T x → x < w.heap.size) (h : SCV w S v s) (hi : ScIn s r c) (hl : SL vI w T vl l) (hl2 : l.length ≤ 1048576) (n m k : Int) (hn : paramL l 0 1 = n) (hm : paramL l 1 1 = m) (hk : paramL l 0 0 = k) (n1 : 1 ≤ n) (n2 : n ≤ 65535) (m1 : 1 ≤ m) (m2 : m ≤ 65535) (k0 : 0 ≤ k) (k9 : k ≤ 65535) (hb : b = 109) (hp : ∀ x ∈ l, 0 ≤ x ∧ x ≤ 65535) (hl0 : l.length = 0) : Calls Tryz.prog 76 #[v, .int .u8 b, vl] w (ScPost S { s with attr := l.foldl lookN 0 } w) := by
 have HSS := Lib.hid hS
 clear hS
 obtain ⟨vc, vt, vo, vp, vi, vu, rfl, hs⟩ := h
 have HS := Lib.hid hs
 obtain ⟨A1, kk1, A2, k2, A3, k3, A4, k4, A5, k5, A6, k6, rfl, rfl, rfl, rfl, rfl, rfl, p1, q1, p2, q2, p3, q3, p4, q4, p5, q5, p6, q6⟩ := sslSix hs
 have HI := Lib.hid hi
 obtain ⟨y0, y1, x0, x1, hcl, hrl, c2, r2, hlen⟩ := dIn hi
 have c3 : s.cols ≤ 1000 := by omega
 have r3 : s.rows ≤ 1000 := by omega
 have r4 : 1 ≤ s.rows := by omega
 have c4 : s.x < s.cols := by omega
 have c5 : 1 ≤ s.cols := by omega
 have yr : s.y < s.rows := by omega
 have HN := Lib.hid hn
 have HMM := Lib.hid hm
 have HK := Lib.hid hk
 obtain ⟨Al, kl, rfl, pl, ql⟩ := hl.form
 clear hi hcl hrl hn hm hk
 have h2 := two_new w (.cells (vA s A1 A2 A3 A4 A5 A6 kk1 k2 k3 k4 k5 k6) 30) (.cells zQ 30)
 have HS2 : Hid (∀ x, S x → x < _) := fun x hx => Nat.lt_of_lt_of_le (HSS.out x hx) h2.1.size
 have H2 := Lib.hid h2
 have HL := Lib.hid (hl.keep (fun q hq => h2.1.cell (hT _ hq)))
 have HV := Lib.hid (show SCV _ S (.agg (vA s A1 A2 A3 A4 A5 A6 kk1 k2 k3 k4 k5 k6)) s from ⟨_, _, _, _, _, _, rfl, HS.out.below HSS.out h2.1⟩)
 have HLW := Lib.hid hl
 have HTW := Lib.hid hT
 have HP := Lib.hid hp
 clear hl hT hp
 clear h2
 subst hb
 have hlb : ((l.length : Int) == 0) = true := beq_iff_eq.2 (by omega)
 have HL0 := Lib.hid hl0
 have HA0 : Hid (attrB 0 = true) := rfl
 clear hl0
 go_enter Tryz.func76, Tryz.ntmps76
 go_upto_region 2 with (first | ((with_reducible refine (paramr_0 HL.out hl2 HN.out).mono ?_); rintro e w' ⟨rfl, rfl⟩) | ((with_reducible refine (paramr_1 HL.out hl2 HMM.out).mono ?_); rintro e w' ⟨rfl, rfl⟩) | ((with_reducible refine (paramr_0 HL.out hl2 HK.out).mono ?_); rintro e w' ⟨rfl, rfl⟩))
 go_upto_region 55 with fail
 go_loopw [12] (fun i wr => LookRel l 0 (fun a => vS { s with attr := a } (.slice A1 s.cells.length kk1) (.slice A2 s.tabs.length k2) (.slice A3 s.other.length k3) (.slice A4 s.p.params.length k4) (.slice A5 s.p.inter.length k5) (.slice A6 s.p.utf.length k6)) (.cells zQ 30) w i wr) (fun i _ => l.length - (intOf i).toNat)
 case atStart => exact ⟨0, Nat.zero_le _, rfl, HA0.out, heap_a1 w _ _, heap_a2 w _ _, (two_new w _ _).1⟩
 case round =>
  generalize wr = w3 at *
  obtain ⟨j, hj, rfl, hat, k3, k31, b3⟩ := hrel
  generalize hA : (l.take j).foldl lookN 0 = aa at *
  have z3 := b3.size
  have haa := attrB_lt hat
  have K3 := Lib.hid k3
  have K31 := Lib.hid k31
  have B3 := Lib.hid b3
  have HAT := Lib.hid hat
  have HAA := Lib.hid hA
  have z3b : w.heap.size + 1 < w3.heap.size := by
   rcases Nat.lt_or_ge (w.heap.size + 1) w3.heap.size with hh | hh
   ·exact hh
   ·rw [Array.getElem?_eq_none hh] at k31; cases k31
  clear k3 k31 b3 hat hA
  by_cases hlt : j < l.length
  ·obtain ⟨x, hx⟩ : ∃ x, l[j]? = some x := ⟨_, List.getElem?_eq_getElem hlt⟩
   obtain ⟨ad, hAd, e1⟩ := HLW.out.get j x hx
   subst hAd
   obtain ⟨A', c', hv', _, _, h3'⟩ := HLW.out
   simp only [Value.slice.injEq, Option.some.injEq] at hv'
   obtain ⟨ad', hAd', hbl, _⟩ := h3' (by omega)
   have hbl2 : ad.block < w.heap.size := by
    have e : A' = some ad := hv'.1.symm
    rw [e] at hAd'
    injection hAd' with e2
    rw [e2]
    exact HTW.out _ hbl
   clear hv' h3' hAd'
   unfold vI at e1
   have e2 : w3.drew.cell? (ad.add j) = some (.int .i64 x) := (B3.out.cell (p := ad.add j) (by rw [block_add]; exact hbl2)).trans e1
   have tb : (ad.add j).block < w3.drew.heap.size := by rw [block_add]; show ad.block < w3.heap.size; omega
   obtain ⟨c6, f6⟩ := cellR (w := w3.drew) (v := .int .u16 (aa : Int)) K3.out 6 rfl
   have HX := Lib.hid hx
   clear hx e1
   go_wp2
   go_region_with ((with_reducible refine (lookr_any aa x haa _).mono ?_); rintro e w' ⟨rfl, rfl⟩)
   all_goals
    go_wp2
    go_roundw
    case rel =>
     have hfold : (l.take (j + 1)).foldl lookN 0 = lookN aa x := by
      rw [List.take_add_one, HX.out, List.foldl_append, HAA.out]
      rfl
     refine ⟨j + 1, by omega, by go_num, ?_, ?_, ?_, B3.out.drew.setCell (by simp) _⟩
     ·rw [hfold]; exact lookN_ok aa x HAT.out
     ·rw [hfold]; exact (heap_setCell_same w3.drew _ 6 _ _ _ K3.out).trans rfl
     ·exact (heap_setCell_other _ _ _ _ (by simp)).trans K31.out
    case measure => simp [intOf]; omega
  ·obtain rfl : j = l.length := by omega
   have hfin : l.foldl lookN 0 = aa := by have := HAA.out; rw [List.take_of_length_le (Nat.le_refl _)] at this; exact this
   have HF := Lib.hid hfin
   clear hfin
   go_upto_region 58 with fail
   refine wp_region_lit ?_
   refine wpl_loadS rfl (.tmp 3) rfl rfl K3.out rfl ?_
   refine wpl_storeS rfl (.tmp 6) (.tmp 272) rfl rfl rfl K31.out rfl rfl all25 ?_
   go_wp2
   rw [HF.out]
   refine scEnd (w.heap.size + 1) 6 Tryz.results76 ?_ ?_ K31.out (by omega) B3.out HSS.out (HS.out.like ?_ ?_ ?_ ?_)
   all_goals rfl
theorem seqr_g0 (v vl : Value) (s : Sc) (l : List Int) (b : Int) (r c : Nat) (S T : Nat → Prop) (w : World) (hS : ∀ x, S x → x < w.heap.size) (hT : ∀ x, T x → x < w.heap.size) (h : SCV w S v s) (hi : ScIn s r c) (hl : SL vI w T vl l) (hl2 : l.length ≤ 1048576) (n m k : Int) (hn : paramL l 0 1 = n) (hm : paramL l 1 1 = m) (hk : paramL l 0 0 = k) (n1 : 1 ≤ n) (n2 : n ≤ 65535) (m1 : 1 ≤ m) (m2 : m ≤ 65535) (k0 : 0 ≤ k) (k9 : k ≤ 65535) (hb : b = 103) (g0 : k = 0) : Calls Tryz.prog 76 #[v, .int .u8 b, vl] w (ScPost S { s with tabs := s.tabs.set s.x.toNat false } w) := by
 have HSS := Lib.hid hS
 clear hS
 obtain ⟨vc, vt, vo, vp, vi, vu, rfl, hs⟩ := h
 have HS := Lib.hid hs
 obtain ⟨A1, kk1, A2, k2, A3, k3, A4, k4, A5, k5, A6, k6, rfl, rfl, rfl, rfl, rfl, rfl, p1, q1, p2, q2, p3, q3, p4, q4, p5, q5, p6, q6⟩ := sslSix hs
 have HI := Lib.hid hi
 obtain ⟨y0, y1, x0, x1, hcl, hrl, c2, r2, hlen⟩ := dIn hi
 have c3 : s.cols ≤ 1000 := by omega
 have r3 : s.rows ≤ 1000 := by omega
 have r4 : 1 ≤ s.rows := by omega
 have c4 : s.x < s.cols := by omega
 have c5 : 1 ≤ s.cols := by omega
 have yr : s.y < s.rows := by omega
 have HN := Lib.hid hn
 have HMM := Lib.hid hm
 have HK := Lib.hid hk
 obtain ⟨Al, kl, rfl, pl, ql⟩ := hl.form
 clear hi hcl hrl hn hm hk
 have h2 := two_new w (.cells (vA s A1 A2 A3 A4 A5 A6 kk1 k2 k3 k4 k5 k6) 30) (.cells zQ 30)
 have HS2 : Hid (∀ x, S x → x < _) := fun x hx => Nat.lt_of_lt_of_le (HSS.out x hx) h2.1.size
 have H2 := Lib.hid h2
 have HL := Lib.hid (hl.keep (fun q hq => h2.1.cell (hT _ hq)))
 have HV := Lib.hid (show SCV _ S (.agg (vA s A1 A2 A3 A4 A5 A6 kk1 k2 k3 k4 k5 k6)) s from ⟨_, _, _, _, _, _, rfl, HS.out.below HSS.out h2.1⟩)
 clear hl hT
 subst hb
 have htl : (s.tabs.length : Int) = s.cols := by rw [HI.out.cols, HI.out.tabs]
 have htb : s.tabs.length ≤ 1000 := by omega
 have htp : 0 < s.tabs.length := by omega
 obtain ⟨xx, hxx⟩ : ∃ xx : Nat, xx = s.x.toNat := ⟨_, rfl⟩
 rw [← hxx]
 have hxt : xx < s.tabs.length := by omega
 have hxs : s.x = (xx : Int) := by omega
 have hti : (s.x : Int) < (s.tabs.length : Int) := by omega
 have HXX := Lib.hid hxs
 have HTL := Lib.hid htl
 have HT2 : Hid (TS _ w.heap.size (.slice A2 s.tabs.length k2) s.tabs) := (HS.out.2.1.keep (fun q hq => h2.1.cell (HSS.out _ hq))).mono (fun x hx => HSS.out x hx)
 have hb2 := h2.2
 clear hxx hxs htl h2
 have k0b : (k == 0) = true := by simpa using g0
 have k3b : (k == 3) = false := by simp; omega
 clear g0
 go_enter Tryz.func76, Tryz.ntmps76
 go_upto_region 2 with (first | ((with_reducible refine (paramr_0 HL.out hl2 HN.out).mono ?_); rintro e w' ⟨rfl, rfl⟩) | ((with_reducible refine (paramr_1 HL.out hl2 HMM.out).mono ?_); rintro e w' ⟨rfl, rfl⟩) | ((with_reducible refine (paramr_0 HL.out hl2 HK.out).mono ?_); rintro e w' ⟨rfl, rfl⟩))
 go_upto_region 47 with fail
 refine wp_region_lit ?_
 iterate 2 (refine wpList_plain rfl fun K hK => ?_; go_simp; refine hK _ _ ?_; clear hK K)
 refine wpl_appT _ rfl (.const (.slice none 0 0)) (.tmp 238) rfl (w.heap.size + 1 + 1) w.heap.size (.slice none 0 0) (.slice A2 s.tabs.length k2) [] s.tabs rfl rfl (OT.nil _ _) HT2.out (by simp; omega) (by rw [hb2]; exact Nat.le_refl _) ?_
 intro v4 w4 o4 g4 b4 _
 clear g4
 rw [List.nil_append] at o4
 obtain ⟨e0, e1⟩ := two_keptB b4
 obtain ⟨gt, cap, rfl, hg1, hg2, hg3, hg4⟩ := o4.open_ htp
 obtain ⟨c9, f9⟩ := cellR (v := .slice A2 s.tabs.length k2) e0 9 rfl
 obtain ⟨cx, fx⟩ := cellR (v := .int .i64 s.x) e0 4 rfl
 obtain ⟨q, s0, f0⟩ := o4.spot xx hxt
 have K0 := Lib.hid e0
 have K1 := Lib.hid e1
 have O4 := Lib.hid o4
 have Z4 := b4.size
 rw [hb2] at Z4
 have B4 := Lib.hid (H2.out.1.trans (b4.mono (by omega)))
 clear e0 e1 o4 b4 hb2
 have hne : ¬ gt = w.heap.size := by omega
 rw [HXX.out] at cx
 go_simp
 go_upto_region 58 with fail
 have e1 : ((w4.setCell ⟨w.heap.size, 9, none⟩ (.slice (some ⟨gt, 0, none⟩) s.tabs.length cap)).setCell ⟨gt, xx, none⟩ (.bool false)).heap[w.heap.size + 1]? = some (.cells zQ 30) := (heap_setCell_other _ _ _ _ (by simp; omega)).trans ((heap_setCell_other _ _ _ _ (by simp)).trans K1.out)
 refine wp_region_lit ?_
 refine wpl_loadS rfl (.tmp 3) rfl rfl ((heap_setCell_other _ _ _ _ (by simp; omega)).trans ((heap_setCell_same _ _ 9 _ _ _ K0.out).trans rfl)) rfl ?_
 refine wpl_storeS rfl (.tmp 6) (.tmp 272) rfl rfl rfl e1 rfl rfl all25 ?_
 go_wp2
 refine scEndT (s0 := s) (w.heap.size + 1) 6 Tryz.results76 ?_ ?_ e1 (by omega) ((B4.out.setCell (by simp) _).setCell (by simp; omega) _) HSS.out HS.out ?_ ?_ ?_ (w.heap.size + 1 + 1) (by omega) ((O4.out.other ⟨w.heap.size, 9, none⟩ _ (by simp; omega)).put xx false)
 all_goals rfl
theorem seqr_g3 (v vl : Value) (s : Sc) (l : List Int) (b : Int) (r c : Nat) (S T : Nat → Prop) (w : World) (hS : ∀ x, S x → x < w.heap.size) (hT : ∀ x, T x → x < w.heap.size) (h : SCV w S v s) (hi : ScIn s r c) (hl : SL vI w T vl l) (hl2 : l.length ≤ 1048576) (n m k : Int) (hn : paramL l 0 1 = n) (hm : paramL l 1 1 = m) (hk : paramL l 0 0 = k) (n1 : 1 ≤ n) (n2 : n ≤ 65535) (m1 : 1 ≤ m) (m2 : m ≤ 65535) (k0 : 0 ≤ k) (k9 : k ≤ 65535) (hb : b = 103) (g3 : k = 3) : Calls Tryz.prog 76 #[v, .int .u8 b, vl] w (ScPost S { s with tabs := List.replicate s.cols.toNat false } w) := by
 have HSS := Lib.hid hS
 clear hS
 obtain ⟨vc, vt, vo, vp, vi, vu, rfl, hs⟩ := h
 have HS := Lib.hid hs
 obtain ⟨A1, kk1, A2, k2, A3, k3, A4, k4, A5, k5, A6, k6, rfl, rfl, rfl, rfl, rfl, rfl, p1, q1, p2, q2, p3, q3, p4, q4, p5, q5, p6, q6⟩ := sslSix hs
 have HI := Lib.hid hi
 obtain ⟨y0, y1, x0, x1, hcl, hrl, c2, r2, hlen⟩ := dIn hi
 have c3 : s.cols ≤ 1000 := by omega
 have r3 : s.rows ≤ 1000 := by omega
 have r4 : 1 ≤ s.rows := by omega
 have c4 : s.x < s.cols := by omega
 have c5 : 1 ≤ s.cols := by omega
 have yr : s.y < s.rows := by omega
 have HN := Lib.hid hn
 have HMM := Lib.hid hm
 have HK := Lib.hid hk
 obtain ⟨Al, kl, rfl, pl, ql⟩ := hl.form
 clear hi hcl hrl hn hm hk
 have h2 := two_new w (.cells (vA s A1 A2 A3 A4 A5 A6 kk1 k2 k3 k4 k5 k6) 30) (.cells zQ 30)
 have HS2 : Hid (∀ x, S x → x < _) := fun x hx => Nat.lt_of_lt_of_le (HSS.out x hx) h2.1.size
 have H2 := Lib.hid h2
 have HL := Lib.hid (hl.keep (fun q hq => h2.1.cell (hT _ hq)))
 have HV := Lib.hid (show SCV _ S (.agg (vA s A1 A2 A3 A4 A5 A6 kk1 k2 k3 k4 k5 k6)) s from ⟨_, _, _, _, _, _, rfl, HS.out.below HSS.out h2.1⟩)
 clear hl hT
 subst hb
 have htl : (s.tabs.length : Int) = s.cols := by rw [HI.out.cols, HI.out.tabs]
 have htb : s.tabs.length ≤ 1000 := by omega
 have htp : 0 < s.tabs.length := by omega
 obtain ⟨xx, hxx⟩ : ∃ xx : Nat, xx = s.x.toNat := ⟨_, rfl⟩
 skip
 have hxt : xx < s.tabs.length := by omega
 have hxs : s.x = (xx : Int) := by omega
 have hti : (s.x : Int) < (s.tabs.length : Int) := by omega
 have HXX := Lib.hid hxs
 have HTL := Lib.hid htl
 have HT2 : Hid (TS _ w.heap.size (.slice A2 s.tabs.length k2) s.tabs) := (HS.out.2.1.keep (fun q hq => h2.1.cell (HSS.out _ hq))).mono (fun x hx => HSS.out x hx)
 have hb2 := h2.2
 clear hxx hxs htl h2
 have k0b : (k == 0) = false := by simp; omega
 have k3b : (k == 3) = true := by simpa using g3
 obtain ⟨cn, hcn⟩ : ∃ cn : Nat, s.cols = (cn : Int) := ⟨s.cols.toNat, by omega⟩
 have HCN := Lib.hid hcn
 have hmk := run_makeT cn (by omega)
 rw [← hcn] at hmk
 have HMK := Lib.hid hmk
 clear g3 hcn hmk
 go_enter Tryz.func76, Tryz.ntmps76
 go_upto_region 2 with (first | ((with_reducible refine (paramr_0 HL.out hl2 HN.out).mono ?_); rintro e w' ⟨rfl, rfl⟩) | ((with_reducible refine (paramr_1 HL.out hl2 HMM.out).mono ?_); rintro e w' ⟨rfl, rfl⟩) | ((with_reducible refine (paramr_0 HL.out hl2 HK.out).mono ?_); rintro e w' ⟨rfl, rfl⟩))
 go_upto_region 47 with fail
 refine wp_region_lit ?_
 iterate 2 (refine wpList_plain rfl fun K hK => ?_; go_simp; refine hK _ _ ?_; clear hK K)
 refine wpl_appT _ rfl (.const (.slice none 0 0)) (.tmp 238) rfl (w.heap.size + 1 + 1) w.heap.size (.slice none 0 0) (.slice A2 s.tabs.length k2) [] s.tabs rfl rfl (OT.nil _ _) HT2.out (by simp; omega) (by rw [hb2]; exact Nat.le_refl _) ?_
 intro v4 w4 o4 g4 b4 _
 clear g4
 rw [List.nil_append] at o4
 obtain ⟨e0, e1⟩ := two_keptB b4
 obtain ⟨gt, cap, rfl, hg1, hg2, hg3, hg4⟩ := o4.open_ htp
 obtain ⟨c9, f9⟩ := cellR (v := .slice A2 s.tabs.length k2) e0 9 rfl
 obtain ⟨cx, fx⟩ := cellR (v := .int .i64 s.x) e0 4 rfl
 obtain ⟨q, s0, f0⟩ := o4.spot xx hxt
 have K0 := Lib.hid e0
 have K1 := Lib.hid e1
 have O4 := Lib.hid o4
 have Z4 := b4.size
 rw [hb2] at Z4
 have B4 := Lib.hid (H2.out.1.trans (b4.mono (by omega)))
 clear e0 e1 o4 b4 hb2
 have hne : ¬ gt = w.heap.size := by omega
 rw [HXX.out] at cx
 go_simp
 go_upto_region 50 with fail
 generalize hW6 : World.setCell _ _ _ = W6
 have k6 : W6.heap[w.heap.size]? = some (.cells (vS s (.slice A1 s.cells.length kk1) (.slice (some ⟨gt, 0, none⟩) s.tabs.length cap) (.slice A3 s.other.length k3) (.slice A4 s.p.params.length k4) (.slice A5 s.p.inter.length k5) (.slice A6 s.p.utf.length k6)) 30) := by rw [← hW6]; exact (heap_setCell_other _ _ _ _ (by simp; omega)).trans ((heap_setCell_same _ _ 9 _ _ _ K0.out).trans rfl)
 have k61 : W6.heap[w.heap.size + 1]? = some (.cells zQ 30) := by rw [← hW6]; exact (heap_setCell_other _ _ _ _ (by simp; omega)).trans ((heap_setCell_other _ _ _ _ (by simp)).trans K1.out)
 have z6 : W6.heap.size = w4.heap.size := by rw [← hW6]; simp
 have b6 : Below w.heap.size w W6 := by rw [← hW6]; exact (B4.out.setCell (by simp) _).setCell (by simp; omega) _
 obtain ⟨a1, n1'⟩ := cellR (v := .int .i64 s.cols) k6 1 rfl
 obtain ⟨a9, n9'⟩ := cellR (v := .slice (some ⟨gt, 0, none⟩) s.tabs.length cap) k6 9 rfl
 have K6 := Lib.hid k6
 have K61 := Lib.hid k61
 have Z6 := Lib.hid z6
 have B6 := Lib.hid b6
 have hz6 : w.heap.size < W6.heap.size := by rw [z6]; omega
 have hmk := HMK.out W6
 clear k6 k61 z6 b6 hW6 c9 f9 cx fx s0 f0
 go_upto_region 58 with fail
 clear hmk a1 n1' a9 n9'
 have hxz : (W6.setCell ⟨w.heap.size, 9, none⟩ (.slice (some ⟨W6.heap.size, 0, none⟩) cn cn)).heap.size = W6.heap.size := by simp
 have hot := OT.made (W6.setCell ⟨w.heap.size, 9, none⟩ (.slice (some ⟨W6.heap.size, 0, none⟩) cn cn)) cn (by have := HCN.out; omega)
 rw [hxz] at hot
 have z6 := Z6.out
 have e0 : ((W6.setCell ⟨w.heap.size, 9, none⟩ (.slice (some ⟨W6.heap.size, 0, none⟩) cn cn)).alloc (.cells (madeCells #[.bool false] cn) 4)).heap[w.heap.size]? = _ := (heap_al _ _ _ (by rw [hxz]; omega)).trans (heap_setCell_same _ _ 9 _ _ _ K6.out)
 have e1 : ((W6.setCell ⟨w.heap.size, 9, none⟩ (.slice (some ⟨W6.heap.size, 0, none⟩) cn cn)).alloc (.cells (madeCells #[.bool false] cn) 4)).heap[w.heap.size + 1]? = some (.cells zQ 30) := (heap_al _ _ _ (by rw [hxz]; omega)).trans ((heap_setCell_other _ _ _ _ (by simp)).trans K61.out)
 have hcn2 : s.cols.toNat = cn := by have := HCN.out; omega
 have HCN2 := Lib.hid hcn2
 have HOT := Lib.hid hot
 have E1 := Lib.hid e1
 have E0 := Lib.hid e0
 clear hcn2 hot e1 e0 hxz z6
 refine wp_region_lit ?_
 refine wpl_loadS rfl (.tmp 3) rfl rfl (E0.out.trans rfl) rfl ?_
 refine wpl_storeS rfl (.tmp 6) (.tmp 272) rfl rfl rfl E1.out rfl rfl all25 ?_
 go_wp2
 rw [HCN2.out]
 have hsz : (List.replicate cn false).length = cn := by simp
 refine scEndT (s := { s with tabs := List.replicate cn false }) (s0 := s) (w.heap.size + 1) 6 Tryz.results76 ?_ ?_ E1.out (by omega) ((B6.out.setCell (by simp) _).alloc (by simp; omega) _) HSS.out HS.out ?_ ?_ ?_ W6.heap.size (by rw [Z6.out]; omega) HOT.out
 all_goals rfl
end Go.Proofs.YthncoigjfhmldaaGreat
