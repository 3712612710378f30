/- What is proved here: a contract of the program's function on a byte, where nothing pending is broken off: branch by branch; a contract of the program's function on a byte, where what is pending is broken off: branch by branch; a contract of the program's function on a byte, in the call's own lists, whatever the state; contracts of the program's Step and All on a terminal's parser, at any state that may be: in new memory; contracts of the library's copies of a slice of cells, of a slice of bools: in new memory. -/
import Derived.Test.YtlolgfgcgfjdjaaGreatDoorS19
import Derived.Deep.CutRange
import Derived.Laws.Cover3
import Derived.Test.YtlolgfgcgfjdjaaGreatDoorS5
import Derived.Test.YtlolgfgcgfjdjaaGreatDoorS2
namespace Go.Proofs.YtlolgfgcgfjdjaaGreatDoor
open Go.RowKit
set_option linter.unusedVariables false
set_option linter.unusedSimpArgs false
set_option maxHeartbeats 2000000
set_option maxRecDepth 100000
theorem step_ia24 (vp vi vu av : Value) (p : Pr) (b : UInt8) (l : List Ac) (base : Nat) (B : Nat → Prop) (w : World) (h : StL w base B vp vi vu av p.params p.inter p.utf l) (hbase : base ≤ w.heap.size) (hl : l.length ≤ 1099511626000) (hm0 : p.mode ≠ 0) (hb : b.toNat = 24) :
  Calls Tryz.prog 68 #[.agg #[.int .i64 (p.mode : Int), .int .u8 (p.priv : Int), vp, vi, vu], .int .u8 (b.toNat : Int), av] w (VPost w base B (prM 0) l) := by
 have H := Lib.hid h
 have HL : Hid (∀ x, B x → x < w.heap.size) := fun x hx => (h.lt x hx).2
 have HAV := Lib.hid (stl_oa h)
 obtain ⟨Ap, cp, Ai, ci, Au, cu, Aa, ca, rfl, rfl, rfl, rfl, -, -, ⟨u1, u2⟩, -⟩ := h.form
 have c0m : ((p.mode : Int) == 0) = false := beq_eq_false_iff_ne.2 (by omega)
 have d24 : ((b.toNat : Int) == 24) = true := beq_iff_eq.2 (by omega)
 clear h hm0 hb
 have HT := Lib.hid (two_at w)
 have HN := Lib.hid (two_new w)
 go_enter Tryz.func68, Tryz.ntmps68
 go_upto_region 5 with (go_at_call 101; refine (kindOf_any b _).mono ?_; rintro e w' ⟨rfl, rfl⟩)
 obtain ⟨t0, t1⟩ := HT.out (.cells #[.int .i64 (p.mode : Int), .int .u8 (p.priv : Int), .slice Ap p.params.length cp, .slice Ai p.inter.length ci, .slice Au p.utf.length cu] 29) (.cells #[.int .i64 0, .int .u8 0, .slice none 0 0, .slice none 0 0, .slice none 0 0] 29)
 obtain ⟨t2, t3⟩ := HN.out (.cells #[.int .i64 (p.mode : Int), .int .u8 (p.priv : Int), .slice Ap p.params.length cp, .slice Ai p.inter.length ci, .slice Au p.utf.length cu] 29) (.cells #[.int .i64 0, .int .u8 0, .slice none 0 0, .slice none 0 0, .slice none 0 0] 29)
 have HS1 := Lib.hid (H.out.below t2)
 have HB1 : Hid (∀ x, B x → B x ∨ w.heap.size + 1 + 1 ≤ x) := fun x hx => .inl hx
 have HF1 := Lib.hid (Fr.of t2 B)
 have HZ := Lib.hid (Nat.le_of_eq t3.symm)
 generalize (w.alloc _).alloc _ = W at *
 obtain ⟨c0, c1, c2, c3, c4, cf⟩ := five_cells t0
 obtain ⟨e0, e1, e2, e3, e4, ef⟩ := five_cells t1
 have K1 := Lib.hid t1
 have K0 := Lib.hid t0
 clear t0 t1 t2 t3
 have hpo : VPost w base B (prM 0) l (.returned (.tuple #[.agg #[.int .i64 0, .int .u8 0, .slice none 0 0, .slice none 0 0, .slice none 0 0], .slice Aa l.length ca])) (wset w W (.int .i64 0) (.int .u8 0) (.slice none 0 0) (.slice none 0 0) (.slice none 0 0)) := vend_w HL.out HS1.out.zero HB1.out HF1.out ⟨rfl, rfl, rfl, rfl, rfl⟩
 go_wp2
 exact bodyPost_ret (v := .tuple #[.agg #[.int .i64 0, .int .u8 0, .slice none 0 0, .slice none 0 0, .slice none 0 0], .slice Aa l.length ca]) (by simp [results, Tryz.results68, go_sem, e0, e1, e2, e3, e4]) rfl hpo
theorem step_ia26 (vp vi vu av : Value) (p : Pr) (b : UInt8) (l : List Ac) (base : Nat) (B : Nat → Prop) (w : World) (h : StL w base B vp vi vu av p.params p.inter p.utf l) (hbase : base ≤ w.heap.size) (hl : l.length ≤ 1099511626000) (hm0 : p.mode ≠ 0) (hb : b.toNat = 26) :
  Calls Tryz.prog 68 #[.agg #[.int .i64 (p.mode : Int), .int .u8 (p.priv : Int), vp, vi, vu], .int .u8 (b.toNat : Int), av] w (VPost w base B (prM 0) l) := by
 have H := Lib.hid h
 have HL : Hid (∀ x, B x → x < w.heap.size) := fun x hx => (h.lt x hx).2
 have HAV := Lib.hid (stl_oa h)
 obtain ⟨Ap, cp, Ai, ci, Au, cu, Aa, ca, rfl, rfl, rfl, rfl, -, -, ⟨u1, u2⟩, -⟩ := h.form
 have c0m : ((p.mode : Int) == 0) = false := beq_eq_false_iff_ne.2 (by omega)
 have d24 : ((b.toNat : Int) == 24) = false := beq_eq_false_iff_ne.2 (by omega)
 have d26 : ((b.toNat : Int) == 26) = true := beq_iff_eq.2 (by omega)
 clear h hm0 hb
 have HT := Lib.hid (two_at w)
 have HN := Lib.hid (two_new w)
 go_enter Tryz.func68, Tryz.ntmps68
 go_upto_region 5 with (go_at_call 101; refine (kindOf_any b _).mono ?_; rintro e w' ⟨rfl, rfl⟩)
 obtain ⟨t0, t1⟩ := HT.out (.cells #[.int .i64 (p.mode : Int), .int .u8 (p.priv : Int), .slice Ap p.params.length cp, .slice Ai p.inter.length ci, .slice Au p.utf.length cu] 29) (.cells #[.int .i64 0, .int .u8 0, .slice none 0 0, .slice none 0 0, .slice none 0 0] 29)
 obtain ⟨t2, t3⟩ := HN.out (.cells #[.int .i64 (p.mode : Int), .int .u8 (p.priv : Int), .slice Ap p.params.length cp, .slice Ai p.inter.length ci, .slice Au p.utf.length cu] 29) (.cells #[.int .i64 0, .int .u8 0, .slice none 0 0, .slice none 0 0, .slice none 0 0] 29)
 have HS1 := Lib.hid (H.out.below t2)
 have HB1 : Hid (∀ x, B x → B x ∨ w.heap.size + 1 + 1 ≤ x) := fun x hx => .inl hx
 have HF1 := Lib.hid (Fr.of t2 B)
 have HZ := Lib.hid (Nat.le_of_eq t3.symm)
 generalize (w.alloc _).alloc _ = W at *
 obtain ⟨c0, c1, c2, c3, c4, cf⟩ := five_cells t0
 obtain ⟨e0, e1, e2, e3, e4, ef⟩ := five_cells t1
 have K1 := Lib.hid t1
 have K0 := Lib.hid t0
 clear t0 t1 t2 t3
 have hpo : VPost w base B (prM 0) l (.returned (.tuple #[.agg #[.int .i64 0, .int .u8 0, .slice none 0 0, .slice none 0 0, .slice none 0 0], .slice Aa l.length ca])) (wset w W (.int .i64 0) (.int .u8 0) (.slice none 0 0) (.slice none 0 0) (.slice none 0 0)) := vend_w HL.out HS1.out.zero HB1.out HF1.out ⟨rfl, rfl, rfl, rfl, rfl⟩
 go_wp2
 exact bodyPost_ret (v := .tuple #[.agg #[.int .i64 0, .int .u8 0, .slice none 0 0, .slice none 0 0, .slice none 0 0], .slice Aa l.length ca]) (by simp [results, Tryz.results68, go_sem, e0, e1, e2, e3, e4]) rfl hpo
theorem step_ib (vp vi vu av : Value) (p : Pr) (b : UInt8) (l : List Ac) (base : Nat) (B : Nat → Prop) (w : World) (h : StL w base B vp vi vu av p.params p.inter p.utf l) (hbase : base ≤ w.heap.size) (hl : l.length ≤ 1099511626000) (hm0 : p.mode ≠ 0) (hb : b.toNat = 27) :
  Calls Tryz.prog 68 #[.agg #[.int .i64 (p.mode : Int), .int .u8 (p.priv : Int), vp, vi, vu], .int .u8 (b.toNat : Int), av] w (VPost w base B (prM 1) l) := by
 have H := Lib.hid h
 have HL : Hid (∀ x, B x → x < w.heap.size) := fun x hx => (h.lt x hx).2
 have HAV := Lib.hid (stl_oa h)
 obtain ⟨Ap, cp, Ai, ci, Au, cu, Aa, ca, rfl, rfl, rfl, rfl, -, -, ⟨u1, u2⟩, -⟩ := h.form
 have c0m : ((p.mode : Int) == 0) = false := beq_eq_false_iff_ne.2 (by omega)
 have d24 : ((b.toNat : Int) == 24) = false := beq_eq_false_iff_ne.2 (by omega)
 have d26 : ((b.toNat : Int) == 26) = false := beq_eq_false_iff_ne.2 (by omega)
 have d27 : ((b.toNat : Int) == 27) = true := beq_iff_eq.2 (by omega)
 clear h hm0 hb
 have HT := Lib.hid (two_at w)
 have HN := Lib.hid (two_new w)
 go_enter Tryz.func68, Tryz.ntmps68
 go_upto_region 5 with (go_at_call 101; refine (kindOf_any b _).mono ?_; rintro e w' ⟨rfl, rfl⟩)
 obtain ⟨t0, t1⟩ := HT.out (.cells #[.int .i64 (p.mode : Int), .int .u8 (p.priv : Int), .slice Ap p.params.length cp, .slice Ai p.inter.length ci, .slice Au p.utf.length cu] 29) (.cells #[.int .i64 0, .int .u8 0, .slice none 0 0, .slice none 0 0, .slice none 0 0] 29)
 obtain ⟨t2, t3⟩ := HN.out (.cells #[.int .i64 (p.mode : Int), .int .u8 (p.priv : Int), .slice Ap p.params.length cp, .slice Ai p.inter.length ci, .slice Au p.utf.length cu] 29) (.cells #[.int .i64 0, .int .u8 0, .slice none 0 0, .slice none 0 0, .slice none 0 0] 29)
 have HS1 := Lib.hid (H.out.below t2)
 have HB1 : Hid (∀ x, B x → B x ∨ w.heap.size + 1 + 1 ≤ x) := fun x hx => .inl hx
 have HF1 := Lib.hid (Fr.of t2 B)
 have HZ := Lib.hid (Nat.le_of_eq t3.symm)
 generalize (w.alloc _).alloc _ = W at *
 obtain ⟨c0, c1, c2, c3, c4, cf⟩ := five_cells t0
 obtain ⟨e0, e1, e2, e3, e4, ef⟩ := five_cells t1
 have K1 := Lib.hid t1
 have K0 := Lib.hid t0
 clear t0 t1 t2 t3
 have hpo : VPost w base B (prM 1) l (.returned (.tuple #[.agg #[.int .i64 1, .int .u8 0, .slice none 0 0, .slice none 0 0, .slice none 0 0], .slice Aa l.length ca])) (wset w W (.int .i64 1) (.int .u8 0) (.slice none 0 0) (.slice none 0 0) (.slice none 0 0)) := vend_w HL.out HS1.out.zero HB1.out HF1.out ⟨rfl, rfl, rfl, rfl, rfl⟩
 go_wp2
 exact bodyPost_ret (v := .tuple #[.agg #[.int .i64 1, .int .u8 0, .slice none 0 0, .slice none 0 0, .slice none 0 0], .slice Aa l.length ca]) (by simp [results, Tryz.results68, go_sem, e0, e1, e2, e3, e4]) rfl hpo
theorem step_ic (vp vi vu av : Value) (p r : Pr) (b : UInt8) (l l2 : List Ac) (base : Nat) (B : Nat → Prop) (w : World) (h : StL w base B vp vi vu av p.params p.inter p.utf l) (hbase : base ≤ w.heap.size) (hl : l.length ≤ 1099511626000) (hm0 : p.mode ≠ 0) (h24 : b.toNat ≠ 24) (h26 : b.toNat ≠ 26) (h27 : b.toNat ≠ 27) (hm : p.mode = 7)
  (hc : ∀ W B1 av1, StL W base B1 vp vi vu av1 p.params p.inter p.utf l2 → base ≤ W.heap.size → Calls Tryz.prog 102 #[.agg #[.int .i64 (p.mode : Int), .int .u8 (p.priv : Int), vp, vi, vu], .int .u8 (b.toNat : Int)] W (PPost W base B1 r av1 l2)) (hl2 : l = l2) :
  Calls Tryz.prog 68 #[.agg #[.int .i64 (p.mode : Int), .int .u8 (p.priv : Int), vp, vi, vu], .int .u8 (b.toNat : Int), av] w (VPost w base B (r) l2) := by
 have H := Lib.hid h
 have HL : Hid (∀ x, B x → x < w.heap.size) := fun x hx => (h.lt x hx).2
 have HAV := Lib.hid (stl_oa h)
 have HC := Lib.hid hc
 obtain ⟨Ap, cp, Ai, ci, Au, cu, Aa, ca, rfl, rfl, rfl, rfl, -, -, ⟨u1, u2⟩, -⟩ := h.form
 have c0m : ((p.mode : Int) == 0) = false := beq_eq_false_iff_ne.2 (by omega)
 have d24 : ((b.toNat : Int) == 24) = false := beq_eq_false_iff_ne.2 (by omega)
 have d26 : ((b.toNat : Int) == 26) = false := beq_eq_false_iff_ne.2 (by omega)
 have d27 : ((b.toNat : Int) == 27) = false := beq_eq_false_iff_ne.2 (by omega)
 have m7 : ((p.mode : Int) == 7) = true := beq_iff_eq.2 (by omega)
 subst hl2
 clear h hc hm0 h24 h26 h27 hm
 have HT := Lib.hid (two_at w)
 have HN := Lib.hid (two_new w)
 go_enter Tryz.func68, Tryz.ntmps68
 go_upto_region 5 with (go_at_call 101; refine (kindOf_any b _).mono ?_; rintro e w' ⟨rfl, rfl⟩)
 obtain ⟨t0, t1⟩ := HT.out (.cells #[.int .i64 (p.mode : Int), .int .u8 (p.priv : Int), .slice Ap p.params.length cp, .slice Ai p.inter.length ci, .slice Au p.utf.length cu] 29) (.cells #[.int .i64 0, .int .u8 0, .slice none 0 0, .slice none 0 0, .slice none 0 0] 29)
 obtain ⟨t2, t3⟩ := HN.out (.cells #[.int .i64 (p.mode : Int), .int .u8 (p.priv : Int), .slice Ap p.params.length cp, .slice Ai p.inter.length ci, .slice Au p.utf.length cu] 29) (.cells #[.int .i64 0, .int .u8 0, .slice none 0 0, .slice none 0 0, .slice none 0 0] 29)
 have HS1 := Lib.hid (H.out.below t2)
 have HB1 : Hid (∀ x, B x → B x ∨ w.heap.size + 1 + 1 ≤ x) := fun x hx => .inl hx
 have HF1 := Lib.hid (Fr.of t2 B)
 have HZ := Lib.hid (Nat.le_of_eq t3.symm)
 generalize (w.alloc _).alloc _ = W at *
 obtain ⟨c0, c1, c2, c3, c4, cf⟩ := five_cells t0
 obtain ⟨e0, e1, e2, e3, e4, ef⟩ := five_cells t1
 have K1 := Lib.hid t1
 have K0 := Lib.hid t0
 clear t0 t1 t2 t3
 have hbW : base ≤ W.heap.size := by have := HZ.out; omega
 have HC2 := Lib.hid (HC.out W B (.slice Aa l.length ca) HS1.out hbW)
 go_wp2_with (go_at_call 102; refine HC2.out.mono ?_; rintro e w4 ⟨B2, Bp, np, Bi, ni, Bu, nu, rfl, hst, hB, hF⟩; obtain ⟨f0, f1, f2, f3, f4, ff⟩ := five_cells (kept_g HL.out HZ.out HB1.out hF K1.out); have HP := Lib.hid (hand_g (r := r) HL.out HZ.out HB1.out HF1.out hst hB hF ⟨rfl, rfl, rfl, rfl, rfl⟩); clear hst hB hF)
 exact bodyPost_ret (v := .tuple #[.agg #[.int .i64 (r.mode : Int), .int .u8 (r.priv : Int), .slice Bp r.params.length np, .slice Bi r.inter.length ni, .slice Bu r.utf.length nu], .slice Aa l.length ca]) (by simp [results, Tryz.results68, go_sem, f0, f1, f2, f3, f4]) rfl HP.out
theorem step_id (vp vi vu av : Value) (p : Pr) (b : UInt8) (l : List Ac) (base : Nat) (B : Nat → Prop) (w : World) (h : StL w base B vp vi vu av p.params p.inter p.utf l) (hbase : base ≤ w.heap.size) (hl : l.length ≤ 1099511626000) (hm0 : p.mode ≠ 0) (h24 : b.toNat ≠ 24) (h26 : b.toNat ≠ 26) (h27 : b.toNat ≠ 27) (hm7 : p.mode ≠ 7) (hk : kindN b = 0) :
  Calls Tryz.prog 68 #[.agg #[.int .i64 (p.mode : Int), .int .u8 (p.priv : Int), vp, vi, vu], .int .u8 (b.toNat : Int), av] w (VPost w base B (p) (l ++ [acC b.toNat])) := by
 have H := Lib.hid h
 have HL : Hid (∀ x, B x → x < w.heap.size) := fun x hx => (h.lt x hx).2
 have HAV := Lib.hid (stl_oa h)
 obtain ⟨Ap, cp, Ai, ci, Au, cu, Aa, ca, rfl, rfl, rfl, rfl, -, -, ⟨u1, u2⟩, -⟩ := h.form
 have c0m : ((p.mode : Int) == 0) = false := beq_eq_false_iff_ne.2 (by omega)
 have d24 : ((b.toNat : Int) == 24) = false := beq_eq_false_iff_ne.2 (by omega)
 have d26 : ((b.toNat : Int) == 26) = false := beq_eq_false_iff_ne.2 (by omega)
 have d27 : ((b.toNat : Int) == 27) = false := beq_eq_false_iff_ne.2 (by omega)
 have m7 : ((p.mode : Int) == 7) = false := beq_eq_false_iff_ne.2 (by omega)
 have k0 : ((kindN b : Int) == 0) = true := beq_iff_eq.2 (by omega)
 clear h hm0 h24 h26 h27 hm7 hk
 have HT := Lib.hid (two_at w)
 have HN := Lib.hid (two_new w)
 go_enter Tryz.func68, Tryz.ntmps68
 go_upto_region 5 with (go_at_call 101; refine (kindOf_any b _).mono ?_; rintro e w' ⟨rfl, rfl⟩)
 obtain ⟨t0, t1⟩ := HT.out (.cells #[.int .i64 (p.mode : Int), .int .u8 (p.priv : Int), .slice Ap p.params.length cp, .slice Ai p.inter.length ci, .slice Au p.utf.length cu] 29) (.cells #[.int .i64 0, .int .u8 0, .slice none 0 0, .slice none 0 0, .slice none 0 0] 29)
 obtain ⟨t2, t3⟩ := HN.out (.cells #[.int .i64 (p.mode : Int), .int .u8 (p.priv : Int), .slice Ap p.params.length cp, .slice Ai p.inter.length ci, .slice Au p.utf.length cu] 29) (.cells #[.int .i64 0, .int .u8 0, .slice none 0 0, .slice none 0 0, .slice none 0 0] 29)
 have HS1 := Lib.hid (H.out.below t2)
 have HB1 : Hid (∀ x, B x → B x ∨ w.heap.size + 1 + 1 ≤ x) := fun x hx => .inl hx
 have HF1 := Lib.hid (Fr.of t2 B)
 have HZ := Lib.hid (Nat.le_of_eq t3.symm)
 generalize (w.alloc _).alloc _ = W at *
 obtain ⟨c0, c1, c2, c3, c4, cf⟩ := five_cells t0
 obtain ⟨e0, e1, e2, e3, e4, ef⟩ := five_cells t1
 have K1 := Lib.hid t1
 have K0 := Lib.hid t0
 clear t0 t1 t2 t3
 have hbW : base ≤ W.heap.size := by have := HZ.out; omega
 have HRD : Hid _ := fun W2 hW => act_readyD (w := w) HS1.out rfl hbW (acC b.toNat) ⟨rfl, rfl⟩ 72 W2 hW
 have hz := HZ.out
 have hw0 : w.heap.size < W.heap.size := by omega
 have hw1 : w.heap.size + 1 < W.heap.size := by omega
 have HK : Hid (∀ (o : Obj) (g : Nat) (y : Obj), W.heap[g]? = some y → (W.alloc o).drew.heap[g]? = some y) := fun o g y h => by
  have hg : g < W.heap.size := by
   rcases Nat.lt_or_ge g W.heap.size with c | c
   ·exact c
   ·rw [Array.getElem?_eq_none c] at h; cases h
  exact (Below.heap_alloc W o g hg).trans h
 have HAO : Hid (∀ k, (Value.slice Aa l.length ca).ownBlock = some k → k ≠ w.heap.size + 1 ∧ k ≠ w.heap.size) := fun k e => by
  have := stl_own HS1.out k e
  rcases HB1.out k this with h | h
  ·have := HL.out k h; omega
  ·omega
 go_wp2
 go_region_law (obtain ⟨S, t1, t2, t3, t4, t5⟩ := HRD.out _ rfl; refine step_appO rfl (.tmp 53) (.tmp 56) rfl base S _ (fun _ => False) (.slice Aa l.length ca) _ l [acC b.toNat] ?_ ?_ t1 t2 t3 (fun _ h => h.elim) (fun _ _ h => h) (by simp; omega) t4 ?_; go_simp; go_simp; intro v9 w9 ho9 hg9 hb9 hv9; obtain ⟨B2, s1, s2, s3⟩ := t5 v9 w9 ho9 hg9 hv9; obtain ⟨A9, n9, rfl, -, -⟩ := ho9.as.form; obtain ⟨r0, r1, r2, r3, r4, rf⟩ := five_cells (row_grown hg9 (HK.out _ _ _ K1.out) (fun k e => (HAO.out k e).1)); obtain ⟨x0, x1, x2, x3, x4, xf⟩ := five_cells (row_grown hg9 (HK.out _ _ _ K0.out) (fun k e => (HAO.out k e).2)); have HPO : Hid (VPost w base B (p) (l ++ [acC b.toNat]) (.returned (.tuple #[.agg #[.int .i64 (p.mode : Int), .int .u8 (p.priv : Int), .slice Ap p.params.length cp, .slice Ai p.inter.length ci, .slice Au p.utf.length cu], .slice A9 (l ++ [acC b.toNat]).length n9])) (wset w w9 (.int .i64 (p.mode : Int)) (.int .u8 (p.priv : Int)) (.slice Ap p.params.length cp) (.slice Ai p.inter.length ci) (.slice Au p.utf.length cu))) := vend_w HL.out s1 (fun x hx => (s2 x hx).elim (HB1.out x) (fun h => .inr (by omega))) (HF1.out.trans s3 (fun x hx => (HB1.out x hx).imp id (fun h => by omega))) ⟨rfl, rfl, rfl, rfl, rfl⟩; clear t1 t2 t3 t4 t5 s1 s2 s3 ho9 hg9 hb9 hv9)
 all_goals
  go_wp2
  exact bodyPost_ret (v := .tuple #[.agg #[.int .i64 (p.mode : Int), .int .u8 (p.priv : Int), .slice Ap p.params.length cp, .slice Ai p.inter.length ci, .slice Au p.utf.length cu], .slice A9 (l ++ [acC b.toNat]).length n9]) (by simp [results, Tryz.results68, go_sem, r0, r1, r2, r3, r4]) rfl HPO.out
theorem step_ie (vp vi vu av : Value) (p : Pr) (b : UInt8) (l : List Ac) (base : Nat) (B : Nat → Prop) (w : World) (h : StL w base B vp vi vu av p.params p.inter p.utf l) (hbase : base ≤ w.heap.size) (hl : l.length ≤ 1099511626000) (hm0 : p.mode ≠ 0) (h24 : b.toNat ≠ 24) (h26 : b.toNat ≠ 26) (h27 : b.toNat ≠ 27) (hm7 : p.mode ≠ 7) (hk : kindN b = 4) :
  Calls Tryz.prog 68 #[.agg #[.int .i64 (p.mode : Int), .int .u8 (p.priv : Int), vp, vi, vu], .int .u8 (b.toNat : Int), av] w (VPost w base B (p) l) := by
 have H := Lib.hid h
 have HL : Hid (∀ x, B x → x < w.heap.size) := fun x hx => (h.lt x hx).2
 have HAV := Lib.hid (stl_oa h)
 obtain ⟨Ap, cp, Ai, ci, Au, cu, Aa, ca, rfl, rfl, rfl, rfl, -, -, ⟨u1, u2⟩, -⟩ := h.form
 have c0m : ((p.mode : Int) == 0) = false := beq_eq_false_iff_ne.2 (by omega)
 have d24 : ((b.toNat : Int) == 24) = false := beq_eq_false_iff_ne.2 (by omega)
 have d26 : ((b.toNat : Int) == 26) = false := beq_eq_false_iff_ne.2 (by omega)
 have d27 : ((b.toNat : Int) == 27) = false := beq_eq_false_iff_ne.2 (by omega)
 have m7 : ((p.mode : Int) == 7) = false := beq_eq_false_iff_ne.2 (by omega)
 have k0 : ((kindN b : Int) == 0) = false := beq_eq_false_iff_ne.2 (by omega)
 have k4 : ((kindN b : Int) == 4) = true := beq_iff_eq.2 (by omega)
 clear h hm0 h24 h26 h27 hm7 hk
 have HT := Lib.hid (two_at w)
 have HN := Lib.hid (two_new w)
 go_enter Tryz.func68, Tryz.ntmps68
 go_upto_region 5 with (go_at_call 101; refine (kindOf_any b _).mono ?_; rintro e w' ⟨rfl, rfl⟩)
 obtain ⟨t0, t1⟩ := HT.out (.cells #[.int .i64 (p.mode : Int), .int .u8 (p.priv : Int), .slice Ap p.params.length cp, .slice Ai p.inter.length ci, .slice Au p.utf.length cu] 29) (.cells #[.int .i64 0, .int .u8 0, .slice none 0 0, .slice none 0 0, .slice none 0 0] 29)
 obtain ⟨t2, t3⟩ := HN.out (.cells #[.int .i64 (p.mode : Int), .int .u8 (p.priv : Int), .slice Ap p.params.length cp, .slice Ai p.inter.length ci, .slice Au p.utf.length cu] 29) (.cells #[.int .i64 0, .int .u8 0, .slice none 0 0, .slice none 0 0, .slice none 0 0] 29)
 have HS1 := Lib.hid (H.out.below t2)
 have HB1 : Hid (∀ x, B x → B x ∨ w.heap.size + 1 + 1 ≤ x) := fun x hx => .inl hx
 have HF1 := Lib.hid (Fr.of t2 B)
 have HZ := Lib.hid (Nat.le_of_eq t3.symm)
 generalize (w.alloc _).alloc _ = W at *
 obtain ⟨c0, c1, c2, c3, c4, cf⟩ := five_cells t0
 obtain ⟨e0, e1, e2, e3, e4, ef⟩ := five_cells t1
 have K1 := Lib.hid t1
 have K0 := Lib.hid t0
 clear t0 t1 t2 t3
 have hpo : VPost w base B (p) l (.returned (.tuple #[.agg #[.int .i64 (p.mode : Int), .int .u8 (p.priv : Int), .slice Ap p.params.length cp, .slice Ai p.inter.length ci, .slice Au p.utf.length cu], .slice Aa l.length ca])) (wset w W (.int .i64 (p.mode : Int)) (.int .u8 (p.priv : Int)) (.slice Ap p.params.length cp) (.slice Ai p.inter.length ci) (.slice Au p.utf.length cu)) := vend_w HL.out HS1.out HB1.out HF1.out ⟨rfl, rfl, rfl, rfl, rfl⟩
 go_wp2
 exact bodyPost_ret (v := .tuple #[.agg #[.int .i64 (p.mode : Int), .int .u8 (p.priv : Int), .slice Ap p.params.length cp, .slice Ai p.inter.length ci, .slice Au p.utf.length cu], .slice Aa l.length ca]) (by simp [results, Tryz.results68, go_sem, e0, e1, e2, e3, e4]) rfl hpo
theorem step_ig (vp vi vu av : Value) (p : Pr) (b : UInt8) (l : List Ac) (base : Nat) (B : Nat → Prop) (w : World) (h : StL w base B vp vi vu av p.params p.inter p.utf l) (hbase : base ≤ w.heap.size) (hl : l.length ≤ 1099511626000) (hm0 : p.mode ≠ 0) (h24 : b.toNat ≠ 24) (h26 : b.toNat ≠ 26) (h27 : b.toNat ≠ 27) (hm7 : p.mode ≠ 7) (hk : kindN b = 5) :
  Calls Tryz.prog 68 #[.agg #[.int .i64 (p.mode : Int), .int .u8 (p.priv : Int), vp, vi, vu], .int .u8 (b.toNat : Int), av] w (VPost w base B (prM 0) l) := by
 have H := Lib.hid h
 have HL : Hid (∀ x, B x → x < w.heap.size) := fun x hx => (h.lt x hx).2
 have HAV := Lib.hid (stl_oa h)
 obtain ⟨Ap, cp, Ai, ci, Au, cu, Aa, ca, rfl, rfl, rfl, rfl, -, -, ⟨u1, u2⟩, -⟩ := h.form
 have c0m : ((p.mode : Int) == 0) = false := beq_eq_false_iff_ne.2 (by omega)
 have d24 : ((b.toNat : Int) == 24) = false := beq_eq_false_iff_ne.2 (by omega)
 have d26 : ((b.toNat : Int) == 26) = false := beq_eq_false_iff_ne.2 (by omega)
 have d27 : ((b.toNat : Int) == 27) = false := beq_eq_false_iff_ne.2 (by omega)
 have m7 : ((p.mode : Int) == 7) = false := beq_eq_false_iff_ne.2 (by omega)
 have k0 : ((kindN b : Int) == 0) = false := beq_eq_false_iff_ne.2 (by omega)
 have k4 : ((kindN b : Int) == 4) = false := beq_eq_false_iff_ne.2 (by omega)
 have k5 : ((kindN b : Int) == 5) = true := beq_iff_eq.2 (by omega)
 clear h hm0 h24 h26 h27 hm7 hk
 have HT := Lib.hid (two_at w)
 have HN := Lib.hid (two_new w)
 go_enter Tryz.func68, Tryz.ntmps68
 go_upto_region 5 with (go_at_call 101; refine (kindOf_any b _).mono ?_; rintro e w' ⟨rfl, rfl⟩)
 obtain ⟨t0, t1⟩ := HT.out (.cells #[.int .i64 (p.mode : Int), .int .u8 (p.priv : Int), .slice Ap p.params.length cp, .slice Ai p.inter.length ci, .slice Au p.utf.length cu] 29) (.cells #[.int .i64 0, .int .u8 0, .slice none 0 0, .slice none 0 0, .slice none 0 0] 29)
 obtain ⟨t2, t3⟩ := HN.out (.cells #[.int .i64 (p.mode : Int), .int .u8 (p.priv : Int), .slice Ap p.params.length cp, .slice Ai p.inter.length ci, .slice Au p.utf.length cu] 29) (.cells #[.int .i64 0, .int .u8 0, .slice none 0 0, .slice none 0 0, .slice none 0 0] 29)
 have HS1 := Lib.hid (H.out.below t2)
 have HB1 : Hid (∀ x, B x → B x ∨ w.heap.size + 1 + 1 ≤ x) := fun x hx => .inl hx
 have HF1 := Lib.hid (Fr.of t2 B)
 have HZ := Lib.hid (Nat.le_of_eq t3.symm)
 generalize (w.alloc _).alloc _ = W at *
 obtain ⟨c0, c1, c2, c3, c4, cf⟩ := five_cells t0
 obtain ⟨e0, e1, e2, e3, e4, ef⟩ := five_cells t1
 have K1 := Lib.hid t1
 have K0 := Lib.hid t0
 clear t0 t1 t2 t3
 have hpo : VPost w base B (prM 0) l (.returned (.tuple #[.agg #[.int .i64 0, .int .u8 0, .slice none 0 0, .slice none 0 0, .slice none 0 0], .slice Aa l.length ca])) (wset w W (.int .i64 0) (.int .u8 0) (.slice none 0 0) (.slice none 0 0) (.slice none 0 0)) := vend_w HL.out HS1.out.zero HB1.out HF1.out ⟨rfl, rfl, rfl, rfl, rfl⟩
 go_wp2
 exact bodyPost_ret (v := .tuple #[.agg #[.int .i64 0, .int .u8 0, .slice none 0 0, .slice none 0 0, .slice none 0 0], .slice Aa l.length ca]) (by simp [results, Tryz.results68, go_sem, e0, e1, e2, e3, e4]) rfl hpo
theorem step_ih (vp vi vu av : Value) (p r : Pr) (b : UInt8) (l l2 : List Ac) (base : Nat) (B : Nat → Prop) (w : World) (h : StL w base B vp vi vu av p.params p.inter p.utf l) (hbase : base ≤ w.heap.size) (hl : l.length ≤ 1099511626000) (hm0 : p.mode ≠ 0) (h24 : b.toNat ≠ 24) (h26 : b.toNat ≠ 26) (h27 : b.toNat ≠ 27) (hm7 : p.mode ≠ 7) (hk0 : kindN b ≠ 0) (hk4 : kindN b ≠ 4) (hk5 : kindN b ≠ 5)
  (hc : ∀ W B1 av1, StL W base B1 vp vi vu av1 p.params p.inter p.utf l → base ≤ W.heap.size → Calls Tryz.prog 104 #[.agg #[.int .i64 (p.mode : Int), .int .u8 (p.priv : Int), vp, vi, vu], .int .u8 (b.toNat : Int), av1] W (VPost W base B1 r l2)) :
  Calls Tryz.prog 68 #[.agg #[.int .i64 (p.mode : Int), .int .u8 (p.priv : Int), vp, vi, vu], .int .u8 (b.toNat : Int), av] w (VPost w base B (r) l2) := by
 have H := Lib.hid h
 have HL : Hid (∀ x, B x → x < w.heap.size) := fun x hx => (h.lt x hx).2
 have HAV := Lib.hid (stl_oa h)
 have HC := Lib.hid hc
 obtain ⟨Ap, cp, Ai, ci, Au, cu, Aa, ca, rfl, rfl, rfl, rfl, -, -, ⟨u1, u2⟩, -⟩ := h.form
 have c0m : ((p.mode : Int) == 0) = false := beq_eq_false_iff_ne.2 (by omega)
 have d24 : ((b.toNat : Int) == 24) = false := beq_eq_false_iff_ne.2 (by omega)
 have d26 : ((b.toNat : Int) == 26) = false := beq_eq_false_iff_ne.2 (by omega)
 have d27 : ((b.toNat : Int) == 27) = false := beq_eq_false_iff_ne.2 (by omega)
 have m7 : ((p.mode : Int) == 7) = false := beq_eq_false_iff_ne.2 (by omega)
 have k0 : ((kindN b : Int) == 0) = false := beq_eq_false_iff_ne.2 (by omega)
 have k4 : ((kindN b : Int) == 4) = false := beq_eq_false_iff_ne.2 (by omega)
 have k5 : ((kindN b : Int) == 5) = false := beq_eq_false_iff_ne.2 (by omega)
 clear h hc hm0 h24 h26 h27 hm7 hk0 hk4 hk5
 have HT := Lib.hid (two_at w)
 have HN := Lib.hid (two_new w)
 go_enter Tryz.func68, Tryz.ntmps68
 go_upto_region 5 with (go_at_call 101; refine (kindOf_any b _).mono ?_; rintro e w' ⟨rfl, rfl⟩)
 obtain ⟨t0, t1⟩ := HT.out (.cells #[.int .i64 (p.mode : Int), .int .u8 (p.priv : Int), .slice Ap p.params.length cp, .slice Ai p.inter.length ci, .slice Au p.utf.length cu] 29) (.cells #[.int .i64 0, .int .u8 0, .slice none 0 0, .slice none 0 0, .slice none 0 0] 29)
 obtain ⟨t2, t3⟩ := HN.out (.cells #[.int .i64 (p.mode : Int), .int .u8 (p.priv : Int), .slice Ap p.params.length cp, .slice Ai p.inter.length ci, .slice Au p.utf.length cu] 29) (.cells #[.int .i64 0, .int .u8 0, .slice none 0 0, .slice none 0 0, .slice none 0 0] 29)
 have HS1 := Lib.hid (H.out.below t2)
 have HB1 : Hid (∀ x, B x → B x ∨ w.heap.size + 1 + 1 ≤ x) := fun x hx => .inl hx
 have HF1 := Lib.hid (Fr.of t2 B)
 have HZ := Lib.hid (Nat.le_of_eq t3.symm)
 generalize (w.alloc _).alloc _ = W at *
 obtain ⟨c0, c1, c2, c3, c4, cf⟩ := five_cells t0
 obtain ⟨e0, e1, e2, e3, e4, ef⟩ := five_cells t1
 have K1 := Lib.hid t1
 have K0 := Lib.hid t0
 clear t0 t1 t2 t3
 have hbW : base ≤ W.heap.size := by have := HZ.out; omega
 have HC2 := Lib.hid (HC.out W B (.slice Aa l.length ca) HS1.out hbW)
 go_wp2_with (go_at_call 104; refine HC2.out.mono ?_; rintro e w4 ⟨B2, Bp, np, Bi, ni, Bu, nu, Ba, na, rfl, hst, hB, hF⟩; obtain ⟨f0, f1, f2, f3, f4, ff⟩ := five_cells (kept_g HL.out HZ.out HB1.out hF K1.out); have HP := Lib.hid (hand_g (r := r) HL.out HZ.out HB1.out HF1.out hst hB hF ⟨rfl, rfl, rfl, rfl, rfl⟩); clear hst hB hF)
 exact bodyPost_ret (v := .tuple #[.agg #[.int .i64 (r.mode : Int), .int .u8 (r.priv : Int), .slice Bp r.params.length np, .slice Bi r.inter.length ni, .slice Bu r.utf.length nu], .slice Ba l2.length na]) (by simp [results, Tryz.results68, go_sem, f0, f1, f2, f3, f4]) rfl HP.out
theorem step_ea24 (vp vi vu av : Value) (p : Pr) (b : UInt8) (l : List Ac) (base : Nat) (B : Nat → Prop) (w : World) (h : StL w base B vp vi vu av p.params p.inter p.utf l) (hbase : base ≤ w.heap.size) (hl : l.length ≤ 1099511626000) (hm0 : p.mode = 0) (hu0 : p.utf.length = 0) (hb : b.toNat = 24) :
  Calls Tryz.prog 68 #[.agg #[.int .i64 (p.mode : Int), .int .u8 (p.priv : Int), vp, vi, vu], .int .u8 (b.toNat : Int), av] w (VPost w base B (prM 0) l) := by
 have H := Lib.hid h
 have HL : Hid (∀ x, B x → x < w.heap.size) := fun x hx => (h.lt x hx).2
 have HAV := Lib.hid (stl_oa h)
 obtain ⟨Ap, cp, Ai, ci, Au, cu, Aa, ca, rfl, rfl, rfl, rfl, -, -, ⟨u1, u2⟩, -⟩ := h.form
 have c0m : ((p.mode : Int) == 0) = true := beq_iff_eq.2 (by omega)
 have c0u : decide (0 < p.utf.length) = false := decide_eq_false (by omega)
 have d24 : ((b.toNat : Int) == 24) = true := beq_iff_eq.2 (by omega)
 clear h hm0 hu0 hb
 have HT := Lib.hid (two_at w)
 have HN := Lib.hid (two_new w)
 go_enter Tryz.func68, Tryz.ntmps68
 go_upto_region 5 with (go_at_call 101; refine (kindOf_any b _).mono ?_; rintro e w' ⟨rfl, rfl⟩)
 obtain ⟨t0, t1⟩ := HT.out (.cells #[.int .i64 (p.mode : Int), .int .u8 (p.priv : Int), .slice Ap p.params.length cp, .slice Ai p.inter.length ci, .slice Au p.utf.length cu] 29) (.cells #[.int .i64 0, .int .u8 0, .slice none 0 0, .slice none 0 0, .slice none 0 0] 29)
 obtain ⟨t2, t3⟩ := HN.out (.cells #[.int .i64 (p.mode : Int), .int .u8 (p.priv : Int), .slice Ap p.params.length cp, .slice Ai p.inter.length ci, .slice Au p.utf.length cu] 29) (.cells #[.int .i64 0, .int .u8 0, .slice none 0 0, .slice none 0 0, .slice none 0 0] 29)
 have HS1 := Lib.hid (H.out.below t2)
 have HB1 : Hid (∀ x, B x → B x ∨ w.heap.size + 1 + 1 ≤ x) := fun x hx => .inl hx
 have HF1 := Lib.hid (Fr.of t2 B)
 have HZ := Lib.hid (Nat.le_of_eq t3.symm)
 generalize (w.alloc _).alloc _ = W at *
 obtain ⟨c0, c1, c2, c3, c4, cf⟩ := five_cells t0
 obtain ⟨e0, e1, e2, e3, e4, ef⟩ := five_cells t1
 have K1 := Lib.hid t1
 have K0 := Lib.hid t0
 clear t0 t1 t2 t3
 have hpo : VPost w base B (prM 0) l (.returned (.tuple #[.agg #[.int .i64 0, .int .u8 0, .slice none 0 0, .slice none 0 0, .slice none 0 0], .slice Aa l.length ca])) (wset w W (.int .i64 0) (.int .u8 0) (.slice none 0 0) (.slice none 0 0) (.slice none 0 0)) := vend_w HL.out HS1.out.zero HB1.out HF1.out ⟨rfl, rfl, rfl, rfl, rfl⟩
 go_wp2
 exact bodyPost_ret (v := .tuple #[.agg #[.int .i64 0, .int .u8 0, .slice none 0 0, .slice none 0 0, .slice none 0 0], .slice Aa l.length ca]) (by simp [results, Tryz.results68, go_sem, e0, e1, e2, e3, e4]) rfl hpo
theorem step_ea26 (vp vi vu av : Value) (p : Pr) (b : UInt8) (l : List Ac) (base : Nat) (B : Nat → Prop) (w : World) (h : StL w base B vp vi vu av p.params p.inter p.utf l) (hbase : base ≤ w.heap.size) (hl : l.length ≤ 1099511626000) (hm0 : p.mode = 0) (hu0 : p.utf.length = 0) (hb : b.toNat = 26) :
  Calls Tryz.prog 68 #[.agg #[.int .i64 (p.mode : Int), .int .u8 (p.priv : Int), vp, vi, vu], .int .u8 (b.toNat : Int), av] w (VPost w base B (prM 0) l) := by
 have H := Lib.hid h
 have HL : Hid (∀ x, B x → x < w.heap.size) := fun x hx => (h.lt x hx).2
 have HAV := Lib.hid (stl_oa h)
 obtain ⟨Ap, cp, Ai, ci, Au, cu, Aa, ca, rfl, rfl, rfl, rfl, -, -, ⟨u1, u2⟩, -⟩ := h.form
 have c0m : ((p.mode : Int) == 0) = true := beq_iff_eq.2 (by omega)
 have c0u : decide (0 < p.utf.length) = false := decide_eq_false (by omega)
 have d24 : ((b.toNat : Int) == 24) = false := beq_eq_false_iff_ne.2 (by omega)
 have d26 : ((b.toNat : Int) == 26) = true := beq_iff_eq.2 (by omega)
 clear h hm0 hu0 hb
 have HT := Lib.hid (two_at w)
 have HN := Lib.hid (two_new w)
 go_enter Tryz.func68, Tryz.ntmps68
 go_upto_region 5 with (go_at_call 101; refine (kindOf_any b _).mono ?_; rintro e w' ⟨rfl, rfl⟩)
 obtain ⟨t0, t1⟩ := HT.out (.cells #[.int .i64 (p.mode : Int), .int .u8 (p.priv : Int), .slice Ap p.params.length cp, .slice Ai p.inter.length ci, .slice Au p.utf.length cu] 29) (.cells #[.int .i64 0, .int .u8 0, .slice none 0 0, .slice none 0 0, .slice none 0 0] 29)
 obtain ⟨t2, t3⟩ := HN.out (.cells #[.int .i64 (p.mode : Int), .int .u8 (p.priv : Int), .slice Ap p.params.length cp, .slice Ai p.inter.length ci, .slice Au p.utf.length cu] 29) (.cells #[.int .i64 0, .int .u8 0, .slice none 0 0, .slice none 0 0, .slice none 0 0] 29)
 have HS1 := Lib.hid (H.out.below t2)
 have HB1 : Hid (∀ x, B x → B x ∨ w.heap.size + 1 + 1 ≤ x) := fun x hx => .inl hx
 have HF1 := Lib.hid (Fr.of t2 B)
 have HZ := Lib.hid (Nat.le_of_eq t3.symm)
 generalize (w.alloc _).alloc _ = W at *
 obtain ⟨c0, c1, c2, c3, c4, cf⟩ := five_cells t0
 obtain ⟨e0, e1, e2, e3, e4, ef⟩ := five_cells t1
 have K1 := Lib.hid t1
 have K0 := Lib.hid t0
 clear t0 t1 t2 t3
 have hpo : VPost w base B (prM 0) l (.returned (.tuple #[.agg #[.int .i64 0, .int .u8 0, .slice none 0 0, .slice none 0 0, .slice none 0 0], .slice Aa l.length ca])) (wset w W (.int .i64 0) (.int .u8 0) (.slice none 0 0) (.slice none 0 0) (.slice none 0 0)) := vend_w HL.out HS1.out.zero HB1.out HF1.out ⟨rfl, rfl, rfl, rfl, rfl⟩
 go_wp2
 exact bodyPost_ret (v := .tuple #[.agg #[.int .i64 0, .int .u8 0, .slice none 0 0, .slice none 0 0, .slice none 0 0], .slice Aa l.length ca]) (by simp [results, Tryz.results68, go_sem, e0, e1, e2, e3, e4]) rfl hpo
theorem step_eb (vp vi vu av : Value) (p : Pr) (b : UInt8) (l : List Ac) (base : Nat) (B : Nat → Prop) (w : World) (h : StL w base B vp vi vu av p.params p.inter p.utf l) (hbase : base ≤ w.heap.size) (hl : l.length ≤ 1099511626000) (hm0 : p.mode = 0) (hu0 : p.utf.length = 0) (hb : b.toNat = 27) :
  Calls Tryz.prog 68 #[.agg #[.int .i64 (p.mode : Int), .int .u8 (p.priv : Int), vp, vi, vu], .int .u8 (b.toNat : Int), av] w (VPost w base B (prM 1) l) := by
 have H := Lib.hid h
 have HL : Hid (∀ x, B x → x < w.heap.size) := fun x hx => (h.lt x hx).2
 have HAV := Lib.hid (stl_oa h)
 obtain ⟨Ap, cp, Ai, ci, Au, cu, Aa, ca, rfl, rfl, rfl, rfl, -, -, ⟨u1, u2⟩, -⟩ := h.form
 have c0m : ((p.mode : Int) == 0) = true := beq_iff_eq.2 (by omega)
 have c0u : decide (0 < p.utf.length) = false := decide_eq_false (by omega)
 have d24 : ((b.toNat : Int) == 24) = false := beq_eq_false_iff_ne.2 (by omega)
 have d26 : ((b.toNat : Int) == 26) = false := beq_eq_false_iff_ne.2 (by omega)
 have d27 : ((b.toNat : Int) == 27) = true := beq_iff_eq.2 (by omega)
 clear h hm0 hu0 hb
 have HT := Lib.hid (two_at w)
 have HN := Lib.hid (two_new w)
 go_enter Tryz.func68, Tryz.ntmps68
 go_upto_region 5 with (go_at_call 101; refine (kindOf_any b _).mono ?_; rintro e w' ⟨rfl, rfl⟩)
 obtain ⟨t0, t1⟩ := HT.out (.cells #[.int .i64 (p.mode : Int), .int .u8 (p.priv : Int), .slice Ap p.params.length cp, .slice Ai p.inter.length ci, .slice Au p.utf.length cu] 29) (.cells #[.int .i64 0, .int .u8 0, .slice none 0 0, .slice none 0 0, .slice none 0 0] 29)
 obtain ⟨t2, t3⟩ := HN.out (.cells #[.int .i64 (p.mode : Int), .int .u8 (p.priv : Int), .slice Ap p.params.length cp, .slice Ai p.inter.length ci, .slice Au p.utf.length cu] 29) (.cells #[.int .i64 0, .int .u8 0, .slice none 0 0, .slice none 0 0, .slice none 0 0] 29)
 have HS1 := Lib.hid (H.out.below t2)
 have HB1 : Hid (∀ x, B x → B x ∨ w.heap.size + 1 + 1 ≤ x) := fun x hx => .inl hx
 have HF1 := Lib.hid (Fr.of t2 B)
 have HZ := Lib.hid (Nat.le_of_eq t3.symm)
 generalize (w.alloc _).alloc _ = W at *
 obtain ⟨c0, c1, c2, c3, c4, cf⟩ := five_cells t0
 obtain ⟨e0, e1, e2, e3, e4, ef⟩ := five_cells t1
 have K1 := Lib.hid t1
 have K0 := Lib.hid t0
 clear t0 t1 t2 t3
 have hpo : VPost w base B (prM 1) l (.returned (.tuple #[.agg #[.int .i64 1, .int .u8 0, .slice none 0 0, .slice none 0 0, .slice none 0 0], .slice Aa l.length ca])) (wset w W (.int .i64 1) (.int .u8 0) (.slice none 0 0) (.slice none 0 0) (.slice none 0 0)) := vend_w HL.out HS1.out.zero HB1.out HF1.out ⟨rfl, rfl, rfl, rfl, rfl⟩
 go_wp2
 exact bodyPost_ret (v := .tuple #[.agg #[.int .i64 1, .int .u8 0, .slice none 0 0, .slice none 0 0, .slice none 0 0], .slice Aa l.length ca]) (by simp [results, Tryz.results68, go_sem, e0, e1, e2, e3, e4]) rfl hpo
theorem step_ed (vp vi vu av : Value) (p : Pr) (b : UInt8) (l : List Ac) (base : Nat) (B : Nat → Prop) (w : World) (h : StL w base B vp vi vu av p.params p.inter p.utf l) (hbase : base ≤ w.heap.size) (hl : l.length ≤ 1099511626000) (hm0 : p.mode = 0) (hu0 : p.utf.length = 0) (h24 : b.toNat ≠ 24) (h26 : b.toNat ≠ 26) (h27 : b.toNat ≠ 27) (hk : kindN b = 0) :
  Calls Tryz.prog 68 #[.agg #[.int .i64 (p.mode : Int), .int .u8 (p.priv : Int), vp, vi, vu], .int .u8 (b.toNat : Int), av] w (VPost w base B (p) (l ++ [acC b.toNat])) := by
 have H := Lib.hid h
 have HL : Hid (∀ x, B x → x < w.heap.size) := fun x hx => (h.lt x hx).2
 have HAV := Lib.hid (stl_oa h)
 obtain ⟨Ap, cp, Ai, ci, Au, cu, Aa, ca, rfl, rfl, rfl, rfl, -, -, ⟨u1, u2⟩, -⟩ := h.form
 have c0m : ((p.mode : Int) == 0) = true := beq_iff_eq.2 (by omega)
 have c0u : decide (0 < p.utf.length) = false := decide_eq_false (by omega)
 have d24 : ((b.toNat : Int) == 24) = false := beq_eq_false_iff_ne.2 (by omega)
 have d26 : ((b.toNat : Int) == 26) = false := beq_eq_false_iff_ne.2 (by omega)
 have d27 : ((b.toNat : Int) == 27) = false := beq_eq_false_iff_ne.2 (by omega)
 have m7 : ((p.mode : Int) == 7) = false := beq_eq_false_iff_ne.2 (by omega)
 have k0 : ((kindN b : Int) == 0) = true := beq_iff_eq.2 (by omega)
 clear h hm0 hu0 h24 h26 h27 hk
 have HT := Lib.hid (two_at w)
 have HN := Lib.hid (two_new w)
 go_enter Tryz.func68, Tryz.ntmps68
 go_upto_region 5 with (go_at_call 101; refine (kindOf_any b _).mono ?_; rintro e w' ⟨rfl, rfl⟩)
 obtain ⟨t0, t1⟩ := HT.out (.cells #[.int .i64 (p.mode : Int), .int .u8 (p.priv : Int), .slice Ap p.params.length cp, .slice Ai p.inter.length ci, .slice Au p.utf.length cu] 29) (.cells #[.int .i64 0, .int .u8 0, .slice none 0 0, .slice none 0 0, .slice none 0 0] 29)
 obtain ⟨t2, t3⟩ := HN.out (.cells #[.int .i64 (p.mode : Int), .int .u8 (p.priv : Int), .slice Ap p.params.length cp, .slice Ai p.inter.length ci, .slice Au p.utf.length cu] 29) (.cells #[.int .i64 0, .int .u8 0, .slice none 0 0, .slice none 0 0, .slice none 0 0] 29)
 have HS1 := Lib.hid (H.out.below t2)
 have HB1 : Hid (∀ x, B x → B x ∨ w.heap.size + 1 + 1 ≤ x) := fun x hx => .inl hx
 have HF1 := Lib.hid (Fr.of t2 B)
 have HZ := Lib.hid (Nat.le_of_eq t3.symm)
 generalize (w.alloc _).alloc _ = W at *
 obtain ⟨c0, c1, c2, c3, c4, cf⟩ := five_cells t0
 obtain ⟨e0, e1, e2, e3, e4, ef⟩ := five_cells t1
 have K1 := Lib.hid t1
 have K0 := Lib.hid t0
 clear t0 t1 t2 t3
 have hbW : base ≤ W.heap.size := by have := HZ.out; omega
 have HRD : Hid _ := fun W2 hW => act_readyD (w := w) HS1.out rfl hbW (acC b.toNat) ⟨rfl, rfl⟩ 72 W2 hW
 have hz := HZ.out
 have hw0 : w.heap.size < W.heap.size := by omega
 have hw1 : w.heap.size + 1 < W.heap.size := by omega
 have HK : Hid (∀ (o : Obj) (g : Nat) (y : Obj), W.heap[g]? = some y → (W.alloc o).drew.heap[g]? = some y) := fun o g y h => by
  have hg : g < W.heap.size := by
   rcases Nat.lt_or_ge g W.heap.size with c | c
   ·exact c
   ·rw [Array.getElem?_eq_none c] at h; cases h
  exact (Below.heap_alloc W o g hg).trans h
 have HAO : Hid (∀ k, (Value.slice Aa l.length ca).ownBlock = some k → k ≠ w.heap.size + 1 ∧ k ≠ w.heap.size) := fun k e => by
  have := stl_own HS1.out k e
  rcases HB1.out k this with h | h
  ·have := HL.out k h; omega
  ·omega
 go_wp2
 go_region_law (obtain ⟨S, t1, t2, t3, t4, t5⟩ := HRD.out _ rfl; refine step_appO rfl (.tmp 53) (.tmp 56) rfl base S _ (fun _ => False) (.slice Aa l.length ca) _ l [acC b.toNat] ?_ ?_ t1 t2 t3 (fun _ h => h.elim) (fun _ _ h => h) (by simp; omega) t4 ?_; go_simp; go_simp; intro v9 w9 ho9 hg9 hb9 hv9; obtain ⟨B2, s1, s2, s3⟩ := t5 v9 w9 ho9 hg9 hv9; obtain ⟨A9, n9, rfl, -, -⟩ := ho9.as.form; obtain ⟨r0, r1, r2, r3, r4, rf⟩ := five_cells (row_grown hg9 (HK.out _ _ _ K1.out) (fun k e => (HAO.out k e).1)); obtain ⟨x0, x1, x2, x3, x4, xf⟩ := five_cells (row_grown hg9 (HK.out _ _ _ K0.out) (fun k e => (HAO.out k e).2)); have HPO : Hid (VPost w base B (p) (l ++ [acC b.toNat]) (.returned (.tuple #[.agg #[.int .i64 (p.mode : Int), .int .u8 (p.priv : Int), .slice Ap p.params.length cp, .slice Ai p.inter.length ci, .slice Au p.utf.length cu], .slice A9 (l ++ [acC b.toNat]).length n9])) (wset w w9 (.int .i64 (p.mode : Int)) (.int .u8 (p.priv : Int)) (.slice Ap p.params.length cp) (.slice Ai p.inter.length ci) (.slice Au p.utf.length cu))) := vend_w HL.out s1 (fun x hx => (s2 x hx).elim (HB1.out x) (fun h => .inr (by omega))) (HF1.out.trans s3 (fun x hx => (HB1.out x hx).imp id (fun h => by omega))) ⟨rfl, rfl, rfl, rfl, rfl⟩; clear t1 t2 t3 t4 t5 s1 s2 s3 ho9 hg9 hb9 hv9)
 all_goals
  go_wp2
  exact bodyPost_ret (v := .tuple #[.agg #[.int .i64 (p.mode : Int), .int .u8 (p.priv : Int), .slice Ap p.params.length cp, .slice Ai p.inter.length ci, .slice Au p.utf.length cu], .slice A9 (l ++ [acC b.toNat]).length n9]) (by simp [results, Tryz.results68, go_sem, r0, r1, r2, r3, r4]) rfl HPO.out
theorem step_ee (vp vi vu av : Value) (p : Pr) (b : UInt8) (l : List Ac) (base : Nat) (B : Nat → Prop) (w : World) (h : StL w base B vp vi vu av p.params p.inter p.utf l) (hbase : base ≤ w.heap.size) (hl : l.length ≤ 1099511626000) (hm0 : p.mode = 0) (hu0 : p.utf.length = 0) (h24 : b.toNat ≠ 24) (h26 : b.toNat ≠ 26) (h27 : b.toNat ≠ 27) (hk : kindN b = 4) :
  Calls Tryz.prog 68 #[.agg #[.int .i64 (p.mode : Int), .int .u8 (p.priv : Int), vp, vi, vu], .int .u8 (b.toNat : Int), av] w (VPost w base B (p) l) := by
 have H := Lib.hid h
 have HL : Hid (∀ x, B x → x < w.heap.size) := fun x hx => (h.lt x hx).2
 have HAV := Lib.hid (stl_oa h)
 obtain ⟨Ap, cp, Ai, ci, Au, cu, Aa, ca, rfl, rfl, rfl, rfl, -, -, ⟨u1, u2⟩, -⟩ := h.form
 have c0m : ((p.mode : Int) == 0) = true := beq_iff_eq.2 (by omega)
 have c0u : decide (0 < p.utf.length) = false := decide_eq_false (by omega)
 have d24 : ((b.toNat : Int) == 24) = false := beq_eq_false_iff_ne.2 (by omega)
 have d26 : ((b.toNat : Int) == 26) = false := beq_eq_false_iff_ne.2 (by omega)
 have d27 : ((b.toNat : Int) == 27) = false := beq_eq_false_iff_ne.2 (by omega)
 have m7 : ((p.mode : Int) == 7) = false := beq_eq_false_iff_ne.2 (by omega)
 have k0 : ((kindN b : Int) == 0) = false := beq_eq_false_iff_ne.2 (by omega)
 have k4 : ((kindN b : Int) == 4) = true := beq_iff_eq.2 (by omega)
 clear h hm0 hu0 h24 h26 h27 hk
 have HT := Lib.hid (two_at w)
 have HN := Lib.hid (two_new w)
 go_enter Tryz.func68, Tryz.ntmps68
 go_upto_region 5 with (go_at_call 101; refine (kindOf_any b _).mono ?_; rintro e w' ⟨rfl, rfl⟩)
 obtain ⟨t0, t1⟩ := HT.out (.cells #[.int .i64 (p.mode : Int), .int .u8 (p.priv : Int), .slice Ap p.params.length cp, .slice Ai p.inter.length ci, .slice Au p.utf.length cu] 29) (.cells #[.int .i64 0, .int .u8 0, .slice none 0 0, .slice none 0 0, .slice none 0 0] 29)
 obtain ⟨t2, t3⟩ := HN.out (.cells #[.int .i64 (p.mode : Int), .int .u8 (p.priv : Int), .slice Ap p.params.length cp, .slice Ai p.inter.length ci, .slice Au p.utf.length cu] 29) (.cells #[.int .i64 0, .int .u8 0, .slice none 0 0, .slice none 0 0, .slice none 0 0] 29)
 have HS1 := Lib.hid (H.out.below t2)
 have HB1 : Hid (∀ x, B x → B x ∨ w.heap.size + 1 + 1 ≤ x) := fun x hx => .inl hx
 have HF1 := Lib.hid (Fr.of t2 B)
 have HZ := Lib.hid (Nat.le_of_eq t3.symm)
 generalize (w.alloc _).alloc _ = W at *
 obtain ⟨c0, c1, c2, c3, c4, cf⟩ := five_cells t0
 obtain ⟨e0, e1, e2, e3, e4, ef⟩ := five_cells t1
 have K1 := Lib.hid t1
 have K0 := Lib.hid t0
 clear t0 t1 t2 t3
 have hpo : VPost w base B (p) l (.returned (.tuple #[.agg #[.int .i64 (p.mode : Int), .int .u8 (p.priv : Int), .slice Ap p.params.length cp, .slice Ai p.inter.length ci, .slice Au p.utf.length cu], .slice Aa l.length ca])) (wset w W (.int .i64 (p.mode : Int)) (.int .u8 (p.priv : Int)) (.slice Ap p.params.length cp) (.slice Ai p.inter.length ci) (.slice Au p.utf.length cu)) := vend_w HL.out HS1.out HB1.out HF1.out ⟨rfl, rfl, rfl, rfl, rfl⟩
 go_wp2
 exact bodyPost_ret (v := .tuple #[.agg #[.int .i64 (p.mode : Int), .int .u8 (p.priv : Int), .slice Ap p.params.length cp, .slice Ai p.inter.length ci, .slice Au p.utf.length cu], .slice Aa l.length ca]) (by simp [results, Tryz.results68, go_sem, e0, e1, e2, e3, e4]) rfl hpo
theorem step_ef (vp vi vu av : Value) (p r : Pr) (b : UInt8) (l l2 : List Ac) (base : Nat) (B : Nat → Prop) (w : World) (h : StL w base B vp vi vu av p.params p.inter p.utf l) (hbase : base ≤ w.heap.size) (hl : l.length ≤ 1099511626000) (hm0 : p.mode = 0) (hu0 : p.utf.length = 0) (h24 : b.toNat ≠ 24) (h26 : b.toNat ≠ 26) (h27 : b.toNat ≠ 27) (hk0 : kindN b ≠ 0) (hk4 : kindN b ≠ 4)
  (hc : ∀ W B1 av1, StL W base B1 vp vi vu av1 p.params p.inter p.utf l → base ≤ W.heap.size → Calls Tryz.prog 103 #[.agg #[.int .i64 (p.mode : Int), .int .u8 (p.priv : Int), vp, vi, vu], .int .u8 (b.toNat : Int), av1] W (VPost W base B1 r l2)) :
  Calls Tryz.prog 68 #[.agg #[.int .i64 (p.mode : Int), .int .u8 (p.priv : Int), vp, vi, vu], .int .u8 (b.toNat : Int), av] w (VPost w base B (r) l2) := by
 have H := Lib.hid h
 have HL : Hid (∀ x, B x → x < w.heap.size) := fun x hx => (h.lt x hx).2
 have HAV := Lib.hid (stl_oa h)
 have HC := Lib.hid hc
 obtain ⟨Ap, cp, Ai, ci, Au, cu, Aa, ca, rfl, rfl, rfl, rfl, -, -, ⟨u1, u2⟩, -⟩ := h.form
 have c0m : ((p.mode : Int) == 0) = true := beq_iff_eq.2 (by omega)
 have c0u : decide (0 < p.utf.length) = false := decide_eq_false (by omega)
 have d24 : ((b.toNat : Int) == 24) = false := beq_eq_false_iff_ne.2 (by omega)
 have d26 : ((b.toNat : Int) == 26) = false := beq_eq_false_iff_ne.2 (by omega)
 have d27 : ((b.toNat : Int) == 27) = false := beq_eq_false_iff_ne.2 (by omega)
 have m7 : ((p.mode : Int) == 7) = false := beq_eq_false_iff_ne.2 (by omega)
 have k0 : ((kindN b : Int) == 0) = false := beq_eq_false_iff_ne.2 (by omega)
 have k4 : ((kindN b : Int) == 4) = false := beq_eq_false_iff_ne.2 (by omega)
 clear h hc hm0 hu0 h24 h26 h27 hk0 hk4
 have HT := Lib.hid (two_at w)
 have HN := Lib.hid (two_new w)
 go_enter Tryz.func68, Tryz.ntmps68
 go_upto_region 5 with (go_at_call 101; refine (kindOf_any b _).mono ?_; rintro e w' ⟨rfl, rfl⟩)
 obtain ⟨t0, t1⟩ := HT.out (.cells #[.int .i64 (p.mode : Int), .int .u8 (p.priv : Int), .slice Ap p.params.length cp, .slice Ai p.inter.length ci, .slice Au p.utf.length cu] 29) (.cells #[.int .i64 0, .int .u8 0, .slice none 0 0, .slice none 0 0, .slice none 0 0] 29)
 obtain ⟨t2, t3⟩ := HN.out (.cells #[.int .i64 (p.mode : Int), .int .u8 (p.priv : Int), .slice Ap p.params.length cp, .slice Ai p.inter.length ci, .slice Au p.utf.length cu] 29) (.cells #[.int .i64 0, .int .u8 0, .slice none 0 0, .slice none 0 0, .slice none 0 0] 29)
 have HS1 := Lib.hid (H.out.below t2)
 have HB1 : Hid (∀ x, B x → B x ∨ w.heap.size + 1 + 1 ≤ x) := fun x hx => .inl hx
 have HF1 := Lib.hid (Fr.of t2 B)
 have HZ := Lib.hid (Nat.le_of_eq t3.symm)
 generalize (w.alloc _).alloc _ = W at *
 obtain ⟨c0, c1, c2, c3, c4, cf⟩ := five_cells t0
 obtain ⟨e0, e1, e2, e3, e4, ef⟩ := five_cells t1
 have K1 := Lib.hid t1
 have K0 := Lib.hid t0
 clear t0 t1 t2 t3
 have hbW : base ≤ W.heap.size := by have := HZ.out; omega
 have HC2 := Lib.hid (HC.out W B (.slice Aa l.length ca) HS1.out hbW)
 go_wp2_with (go_at_call 103; refine HC2.out.mono ?_; rintro e w4 ⟨B2, Bp, np, Bi, ni, Bu, nu, Ba, na, rfl, hst, hB, hF⟩; obtain ⟨f0, f1, f2, f3, f4, ff⟩ := five_cells (kept_g HL.out HZ.out HB1.out hF K1.out); have HP := Lib.hid (hand_g (r := r) HL.out HZ.out HB1.out HF1.out hst hB hF ⟨rfl, rfl, rfl, rfl, rfl⟩); clear hst hB hF)
 exact bodyPost_ret (v := .tuple #[.agg #[.int .i64 (r.mode : Int), .int .u8 (r.priv : Int), .slice Bp r.params.length np, .slice Bi r.inter.length ni, .slice Bu r.utf.length nu], .slice Ba l2.length na]) (by simp [results, Tryz.results68, go_sem, f0, f1, f2, f3, f4]) rfl HP.out
theorem step_kf (vp vi vu av : Value) (p r : Pr) (b : UInt8) (l l2 : List Ac) (base : Nat) (B : Nat → Prop) (w : World) (h : StL w base B vp vi vu av p.params p.inter p.utf l) (hbase : base ≤ w.heap.size) (hl : l.length ≤ 1099511626000) (hm0 : p.mode = 0) (hu0 : 0 < p.utf.length) (hk5 : kindN b = 5) (h24 : b.toNat ≠ 24) (h26 : b.toNat ≠ 26) (h27 : b.toNat ≠ 27) (hk0 : kindN b ≠ 0) (hk4 : kindN b ≠ 4)
  (hc : ∀ W B1 av1, StL W base B1 vp vi vu av1 p.params p.inter p.utf l → base ≤ W.heap.size → Calls Tryz.prog 103 #[.agg #[.int .i64 (p.mode : Int), .int .u8 (p.priv : Int), vp, vi, vu], .int .u8 (b.toNat : Int), av1] W (VPost W base B1 r l2)) :
  Calls Tryz.prog 68 #[.agg #[.int .i64 (p.mode : Int), .int .u8 (p.priv : Int), vp, vi, vu], .int .u8 (b.toNat : Int), av] w (VPost w base B (r) l2) := by
 have H := Lib.hid h
 have HL : Hid (∀ x, B x → x < w.heap.size) := fun x hx => (h.lt x hx).2
 have HAV := Lib.hid (stl_oa h)
 have HC := Lib.hid hc
 obtain ⟨Ap, cp, Ai, ci, Au, cu, Aa, ca, rfl, rfl, rfl, rfl, -, -, ⟨u1, u2⟩, -⟩ := h.form
 have c0m : ((p.mode : Int) == 0) = true := beq_iff_eq.2 (by omega)
 have c0u : 0 < p.utf.length := hu0
 have c0k : ((kindN b : Int) != 5) = false := by rw [bne, show ((kindN b : Int) == 5) = true from beq_iff_eq.2 (by omega)]; rfl
 have d24 : ((b.toNat : Int) == 24) = false := beq_eq_false_iff_ne.2 (by omega)
 have d26 : ((b.toNat : Int) == 26) = false := beq_eq_false_iff_ne.2 (by omega)
 have d27 : ((b.toNat : Int) == 27) = false := beq_eq_false_iff_ne.2 (by omega)
 have m7 : ((p.mode : Int) == 7) = false := beq_eq_false_iff_ne.2 (by omega)
 have k0 : ((kindN b : Int) == 0) = false := beq_eq_false_iff_ne.2 (by omega)
 have k4 : ((kindN b : Int) == 4) = false := beq_eq_false_iff_ne.2 (by omega)
 clear h hc hm0 hu0 hk5 h24 h26 h27 hk0 hk4
 have HT := Lib.hid (two_at w)
 have HN := Lib.hid (two_new w)
 go_enter Tryz.func68, Tryz.ntmps68
 go_upto_region 5 with (go_at_call 101; refine (kindOf_any b _).mono ?_; rintro e w' ⟨rfl, rfl⟩)
 obtain ⟨t0, t1⟩ := HT.out (.cells #[.int .i64 (p.mode : Int), .int .u8 (p.priv : Int), .slice Ap p.params.length cp, .slice Ai p.inter.length ci, .slice Au p.utf.length cu] 29) (.cells #[.int .i64 0, .int .u8 0, .slice none 0 0, .slice none 0 0, .slice none 0 0] 29)
 obtain ⟨t2, t3⟩ := HN.out (.cells #[.int .i64 (p.mode : Int), .int .u8 (p.priv : Int), .slice Ap p.params.length cp, .slice Ai p.inter.length ci, .slice Au p.utf.length cu] 29) (.cells #[.int .i64 0, .int .u8 0, .slice none 0 0, .slice none 0 0, .slice none 0 0] 29)
 have HS1 := Lib.hid (H.out.below t2)
 have HB1 : Hid (∀ x, B x → B x ∨ w.heap.size + 1 + 1 ≤ x) := fun x hx => .inl hx
 have HF1 := Lib.hid (Fr.of t2 B)
 have HZ := Lib.hid (Nat.le_of_eq t3.symm)
 generalize (w.alloc _).alloc _ = W at *
 obtain ⟨c0, c1, c2, c3, c4, cf⟩ := five_cells t0
 obtain ⟨e0, e1, e2, e3, e4, ef⟩ := five_cells t1
 have K1 := Lib.hid t1
 have K0 := Lib.hid t0
 clear t0 t1 t2 t3
 have hbW : base ≤ W.heap.size := by have := HZ.out; omega
 have HC2 := Lib.hid (HC.out W B (.slice Aa l.length ca) HS1.out hbW)
 go_wp2_with (go_at_call 103; refine HC2.out.mono ?_; rintro e w4 ⟨B2, Bp, np, Bi, ni, Bu, nu, Ba, na, rfl, hst, hB, hF⟩; obtain ⟨f0, f1, f2, f3, f4, ff⟩ := five_cells (kept_g HL.out HZ.out HB1.out hF K1.out); have HP := Lib.hid (hand_g (r := r) HL.out HZ.out HB1.out HF1.out hst hB hF ⟨rfl, rfl, rfl, rfl, rfl⟩); clear hst hB hF)
 exact bodyPost_ret (v := .tuple #[.agg #[.int .i64 (r.mode : Int), .int .u8 (r.priv : Int), .slice Bp r.params.length np, .slice Bi r.inter.length ni, .slice Bu r.utf.length nu], .slice Ba l2.length na]) (by simp [results, Tryz.results68, go_sem, f0, f1, f2, f3, f4]) rfl HP.out
end Go.Proofs.YtlolgfgcgfjdjaaGreatDoor

namespace Go.Proofs.YtlolgfgcgfjdjaaGreatDoor
open Go.RowKit
set_option linter.unusedVariables false
set_option linter.unusedSimpArgs false
set_option maxHeartbeats 2000000
set_option maxRecDepth 100000
theorem step_ya24 (vp vi vu av : Value) (p : Pr) (b : UInt8) (l : List Ac) (base : Nat) (B : Nat → Prop) (w : World) (h : StL w base B vp vi vu av p.params p.inter p.utf l) (hbase : base ≤ w.heap.size) (hl : l.length ≤ 1099511626000) (hm0 : p.mode = 0) (hu0 : 0 < p.utf.length) (hk5 : kindN b ≠ 5) (hb : b.toNat = 24) :
  Calls Tryz.prog 68 #[.agg #[.int .i64 (p.mode : Int), .int .u8 (p.priv : Int), vp, vi, vu], .int .u8 (b.toNat : Int), av] w (VPost w base B (prM 0) (l ++ [acP 65533])) := by
 have H := Lib.hid h
 have HL : Hid (∀ x, B x → x < w.heap.size) := fun x hx => (h.lt x hx).2
 have HAV := Lib.hid (stl_oa h)
 obtain ⟨Ap, cp, Ai, ci, Au, cu, Aa, ca, rfl, rfl, rfl, rfl, -, -, ⟨u1, u2⟩, -⟩ := h.form
 have c0m : ((p.mode : Int) == 0) = true := beq_iff_eq.2 (by omega)
 have c0u : 0 < p.utf.length := hu0
 have c0k : ((kindN b : Int) != 5) = true := by rw [bne, show ((kindN b : Int) == 5) = false from beq_eq_false_iff_ne.2 (by omega)]; rfl
 have d24 : ((b.toNat : Int) == 24) = true := beq_iff_eq.2 (by omega)
 clear h hm0 hu0 hk5 hb
 have HT := Lib.hid (two_at w)
 have HN := Lib.hid (two_new w)
 obtain ⟨l3, hl3⟩ : ∃ l3, l ++ [acP 65533] = l3 := ⟨_, rfl⟩
 have hlen3 : l3.length ≤ 1099511626001 := by rw [← hl3]; simp; omega
 rw [hl3]
 have HL3 := Lib.hid hl3
 clear hl3
 have HR : Hid _ := fun x y W2 hW => act_ready (w := w) (H.out.noU.below (HN.out x y).1) (HN.out x y).2 (Nat.le_trans hbase (HN.out x y).1.size) (acP 65533) ⟨rfl, rfl⟩ 72 W2 hW
 have HK2 : Hid _ := fun (x y u : Obj) => three_at w x y u
 go_enter Tryz.func68, Tryz.ntmps68
 go_upto_region 5 with (first
  | (go_at_call 101; refine (kindOf_any b _).mono ?_; rintro e w' ⟨rfl, rfl⟩)
  | (at_builtin; obtain ⟨S, t1, t2, t3, t4, t5⟩ := HR.out _ _ _ rfl; obtain ⟨k0, k1, -, -⟩ := HK2.out _ _ _; refine wpl_appA _ rfl (.tmp 25) (.tmp 27) rfl base S _ (fun _ => False) _ _ l [acP 65533] rfl rfl t1 t2 t3 (fun _ h => h.elim) (fun _ _ h => h) (by simp; omega) t4 ?_; intro v3 W ho3 hg3 hb3 hv3; obtain ⟨B1, s1, s2, s3⟩ := t5 v3 W ho3 hg3 hv3; have q0 := row_grown hg3 k0 (fun k e => by have := HAV.out k e; omega); have q1 := row_grown hg3 k1 (fun k e => by have := HAV.out k e; omega); have HB1 : Hid (∀ x, B1 x → B x ∨ w.heap.size + 1 + 1 ≤ x) := (fun x hx => (s2 x hx).imp id (fun h => by omega)); have HF1 : Hid (Fr B w W) := ((Fr.of (HN.out _ _).1 B).trans s3 (fun x hx => .inl hx)); have HZ : Hid (w.heap.size + 1 + 1 ≤ W.heap.size) := (Nat.le_trans (Nat.le_of_eq (HN.out _ _).2.symm) s3.size); rw [HL3.out] at s1 ho3; have HS1 := Lib.hid s1; obtain ⟨A3, n3, rfl, -, -⟩ := ho3.as.form; have K1 := Lib.hid q1; have K0 := Lib.hid q0; clear t1 t2 t3 t4 t5 k0 k1 s1 s2 s3 q0 q1 ho3 hg3 hb3 hv3))
 obtain ⟨c0, c1, c2, c3, c4, cf⟩ := five_cells K0.out
 obtain ⟨e0, e1, e2, e3, e4, ef⟩ := five_cells K1.out
 have hpo : VPost w base B (prM 0) l3 (.returned (.tuple #[.agg #[.int .i64 0, .int .u8 0, .slice none 0 0, .slice none 0 0, .slice none 0 0], .slice A3 l3.length n3])) (wset w W (.int .i64 0) (.int .u8 0) (.slice none 0 0) (.slice none 0 0) (.slice none 0 0)) := vend_w HL.out HS1.out.zero HB1.out HF1.out ⟨rfl, rfl, rfl, rfl, rfl⟩
 go_wp2
 exact bodyPost_ret (v := .tuple #[.agg #[.int .i64 0, .int .u8 0, .slice none 0 0, .slice none 0 0, .slice none 0 0], .slice A3 l3.length n3]) (by simp [results, Tryz.results68, go_sem, e0, e1, e2, e3, e4]) rfl hpo
theorem step_ya26 (vp vi vu av : Value) (p : Pr) (b : UInt8) (l : List Ac) (base : Nat) (B : Nat → Prop) (w : World) (h : StL w base B vp vi vu av p.params p.inter p.utf l) (hbase : base ≤ w.heap.size) (hl : l.length ≤ 1099511626000) (hm0 : p.mode = 0) (hu0 : 0 < p.utf.length) (hk5 : kindN b ≠ 5) (hb : b.toNat = 26) :
  Calls Tryz.prog 68 #[.agg #[.int .i64 (p.mode : Int), .int .u8 (p.priv : Int), vp, vi, vu], .int .u8 (b.toNat : Int), av] w (VPost w base B (prM 0) (l ++ [acP 65533])) := by
 have H := Lib.hid h
 have HL : Hid (∀ x, B x → x < w.heap.size) := fun x hx => (h.lt x hx).2
 have HAV := Lib.hid (stl_oa h)
 obtain ⟨Ap, cp, Ai, ci, Au, cu, Aa, ca, rfl, rfl, rfl, rfl, -, -, ⟨u1, u2⟩, -⟩ := h.form
 have c0m : ((p.mode : Int) == 0) = true := beq_iff_eq.2 (by omega)
 have c0u : 0 < p.utf.length := hu0
 have c0k : ((kindN b : Int) != 5) = true := by rw [bne, show ((kindN b : Int) == 5) = false from beq_eq_false_iff_ne.2 (by omega)]; rfl
 have d24 : ((b.toNat : Int) == 24) = false := beq_eq_false_iff_ne.2 (by omega)
 have d26 : ((b.toNat : Int) == 26) = true := beq_iff_eq.2 (by omega)
 clear h hm0 hu0 hk5 hb
 have HT := Lib.hid (two_at w)
 have HN := Lib.hid (two_new w)
 obtain ⟨l3, hl3⟩ : ∃ l3, l ++ [acP 65533] = l3 := ⟨_, rfl⟩
 have hlen3 : l3.length ≤ 1099511626001 := by rw [← hl3]; simp; omega
 rw [hl3]
 have HL3 := Lib.hid hl3
 clear hl3
 have HR : Hid _ := fun x y W2 hW => act_ready (w := w) (H.out.noU.below (HN.out x y).1) (HN.out x y).2 (Nat.le_trans hbase (HN.out x y).1.size) (acP 65533) ⟨rfl, rfl⟩ 72 W2 hW
 have HK2 : Hid _ := fun (x y u : Obj) => three_at w x y u
 go_enter Tryz.func68, Tryz.ntmps68
 go_upto_region 5 with (first
  | (go_at_call 101; refine (kindOf_any b _).mono ?_; rintro e w' ⟨rfl, rfl⟩)
  | (at_builtin; obtain ⟨S, t1, t2, t3, t4, t5⟩ := HR.out _ _ _ rfl; obtain ⟨k0, k1, -, -⟩ := HK2.out _ _ _; refine wpl_appA _ rfl (.tmp 25) (.tmp 27) rfl base S _ (fun _ => False) _ _ l [acP 65533] rfl rfl t1 t2 t3 (fun _ h => h.elim) (fun _ _ h => h) (by simp; omega) t4 ?_; intro v3 W ho3 hg3 hb3 hv3; obtain ⟨B1, s1, s2, s3⟩ := t5 v3 W ho3 hg3 hv3; have q0 := row_grown hg3 k0 (fun k e => by have := HAV.out k e; omega); have q1 := row_grown hg3 k1 (fun k e => by have := HAV.out k e; omega); have HB1 : Hid (∀ x, B1 x → B x ∨ w.heap.size + 1 + 1 ≤ x) := (fun x hx => (s2 x hx).imp id (fun h => by omega)); have HF1 : Hid (Fr B w W) := ((Fr.of (HN.out _ _).1 B).trans s3 (fun x hx => .inl hx)); have HZ : Hid (w.heap.size + 1 + 1 ≤ W.heap.size) := (Nat.le_trans (Nat.le_of_eq (HN.out _ _).2.symm) s3.size); rw [HL3.out] at s1 ho3; have HS1 := Lib.hid s1; obtain ⟨A3, n3, rfl, -, -⟩ := ho3.as.form; have K1 := Lib.hid q1; have K0 := Lib.hid q0; clear t1 t2 t3 t4 t5 k0 k1 s1 s2 s3 q0 q1 ho3 hg3 hb3 hv3))
 obtain ⟨c0, c1, c2, c3, c4, cf⟩ := five_cells K0.out
 obtain ⟨e0, e1, e2, e3, e4, ef⟩ := five_cells K1.out
 have hpo : VPost w base B (prM 0) l3 (.returned (.tuple #[.agg #[.int .i64 0, .int .u8 0, .slice none 0 0, .slice none 0 0, .slice none 0 0], .slice A3 l3.length n3])) (wset w W (.int .i64 0) (.int .u8 0) (.slice none 0 0) (.slice none 0 0) (.slice none 0 0)) := vend_w HL.out HS1.out.zero HB1.out HF1.out ⟨rfl, rfl, rfl, rfl, rfl⟩
 go_wp2
 exact bodyPost_ret (v := .tuple #[.agg #[.int .i64 0, .int .u8 0, .slice none 0 0, .slice none 0 0, .slice none 0 0], .slice A3 l3.length n3]) (by simp [results, Tryz.results68, go_sem, e0, e1, e2, e3, e4]) rfl hpo
theorem step_yb (vp vi vu av : Value) (p : Pr) (b : UInt8) (l : List Ac) (base : Nat) (B : Nat → Prop) (w : World) (h : StL w base B vp vi vu av p.params p.inter p.utf l) (hbase : base ≤ w.heap.size) (hl : l.length ≤ 1099511626000) (hm0 : p.mode = 0) (hu0 : 0 < p.utf.length) (hk5 : kindN b ≠ 5) (hb : b.toNat = 27) :
  Calls Tryz.prog 68 #[.agg #[.int .i64 (p.mode : Int), .int .u8 (p.priv : Int), vp, vi, vu], .int .u8 (b.toNat : Int), av] w (VPost w base B (prM 1) (l ++ [acP 65533])) := by
 have H := Lib.hid h
 have HL : Hid (∀ x, B x → x < w.heap.size) := fun x hx => (h.lt x hx).2
 have HAV := Lib.hid (stl_oa h)
 obtain ⟨Ap, cp, Ai, ci, Au, cu, Aa, ca, rfl, rfl, rfl, rfl, -, -, ⟨u1, u2⟩, -⟩ := h.form
 have c0m : ((p.mode : Int) == 0) = true := beq_iff_eq.2 (by omega)
 have c0u : 0 < p.utf.length := hu0
 have c0k : ((kindN b : Int) != 5) = true := by rw [bne, show ((kindN b : Int) == 5) = false from beq_eq_false_iff_ne.2 (by omega)]; rfl
 have d24 : ((b.toNat : Int) == 24) = false := beq_eq_false_iff_ne.2 (by omega)
 have d26 : ((b.toNat : Int) == 26) = false := beq_eq_false_iff_ne.2 (by omega)
 have d27 : ((b.toNat : Int) == 27) = true := beq_iff_eq.2 (by omega)
 clear h hm0 hu0 hk5 hb
 have HT := Lib.hid (two_at w)
 have HN := Lib.hid (two_new w)
 obtain ⟨l3, hl3⟩ : ∃ l3, l ++ [acP 65533] = l3 := ⟨_, rfl⟩
 have hlen3 : l3.length ≤ 1099511626001 := by rw [← hl3]; simp; omega
 rw [hl3]
 have HL3 := Lib.hid hl3
 clear hl3
 have HR : Hid _ := fun x y W2 hW => act_ready (w := w) (H.out.noU.below (HN.out x y).1) (HN.out x y).2 (Nat.le_trans hbase (HN.out x y).1.size) (acP 65533) ⟨rfl, rfl⟩ 72 W2 hW
 have HK2 : Hid _ := fun (x y u : Obj) => three_at w x y u
 go_enter Tryz.func68, Tryz.ntmps68
 go_upto_region 5 with (first
  | (go_at_call 101; refine (kindOf_any b _).mono ?_; rintro e w' ⟨rfl, rfl⟩)
  | (at_builtin; obtain ⟨S, t1, t2, t3, t4, t5⟩ := HR.out _ _ _ rfl; obtain ⟨k0, k1, -, -⟩ := HK2.out _ _ _; refine wpl_appA _ rfl (.tmp 25) (.tmp 27) rfl base S _ (fun _ => False) _ _ l [acP 65533] rfl rfl t1 t2 t3 (fun _ h => h.elim) (fun _ _ h => h) (by simp; omega) t4 ?_; intro v3 W ho3 hg3 hb3 hv3; obtain ⟨B1, s1, s2, s3⟩ := t5 v3 W ho3 hg3 hv3; have q0 := row_grown hg3 k0 (fun k e => by have := HAV.out k e; omega); have q1 := row_grown hg3 k1 (fun k e => by have := HAV.out k e; omega); have HB1 : Hid (∀ x, B1 x → B x ∨ w.heap.size + 1 + 1 ≤ x) := (fun x hx => (s2 x hx).imp id (fun h => by omega)); have HF1 : Hid (Fr B w W) := ((Fr.of (HN.out _ _).1 B).trans s3 (fun x hx => .inl hx)); have HZ : Hid (w.heap.size + 1 + 1 ≤ W.heap.size) := (Nat.le_trans (Nat.le_of_eq (HN.out _ _).2.symm) s3.size); rw [HL3.out] at s1 ho3; have HS1 := Lib.hid s1; obtain ⟨A3, n3, rfl, -, -⟩ := ho3.as.form; have K1 := Lib.hid q1; have K0 := Lib.hid q0; clear t1 t2 t3 t4 t5 k0 k1 s1 s2 s3 q0 q1 ho3 hg3 hb3 hv3))
 obtain ⟨c0, c1, c2, c3, c4, cf⟩ := five_cells K0.out
 obtain ⟨e0, e1, e2, e3, e4, ef⟩ := five_cells K1.out
 have hpo : VPost w base B (prM 1) l3 (.returned (.tuple #[.agg #[.int .i64 1, .int .u8 0, .slice none 0 0, .slice none 0 0, .slice none 0 0], .slice A3 l3.length n3])) (wset w W (.int .i64 1) (.int .u8 0) (.slice none 0 0) (.slice none 0 0) (.slice none 0 0)) := vend_w HL.out HS1.out.zero HB1.out HF1.out ⟨rfl, rfl, rfl, rfl, rfl⟩
 go_wp2
 exact bodyPost_ret (v := .tuple #[.agg #[.int .i64 1, .int .u8 0, .slice none 0 0, .slice none 0 0, .slice none 0 0], .slice A3 l3.length n3]) (by simp [results, Tryz.results68, go_sem, e0, e1, e2, e3, e4]) rfl hpo
theorem step_yd (vp vi vu av : Value) (p : Pr) (b : UInt8) (l : List Ac) (base : Nat) (B : Nat → Prop) (w : World) (h : StL w base B vp vi vu av p.params p.inter p.utf l) (hbase : base ≤ w.heap.size) (hl : l.length ≤ 1099511626000) (hm0 : p.mode = 0) (hu0 : 0 < p.utf.length) (hk5 : kindN b ≠ 5) (h24 : b.toNat ≠ 24) (h26 : b.toNat ≠ 26) (h27 : b.toNat ≠ 27) (hk : kindN b = 0) :
  Calls Tryz.prog 68 #[.agg #[.int .i64 (p.mode : Int), .int .u8 (p.priv : Int), vp, vi, vu], .int .u8 (b.toNat : Int), av] w (VPost w base B ({ p with utf := [] }) ((l ++ [acP 65533]) ++ [acC b.toNat])) := by
 have H := Lib.hid h
 have HL : Hid (∀ x, B x → x < w.heap.size) := fun x hx => (h.lt x hx).2
 have HAV := Lib.hid (stl_oa h)
 obtain ⟨Ap, cp, Ai, ci, Au, cu, Aa, ca, rfl, rfl, rfl, rfl, -, -, ⟨u1, u2⟩, -⟩ := h.form
 have c0m : ((p.mode : Int) == 0) = true := beq_iff_eq.2 (by omega)
 have c0u : 0 < p.utf.length := hu0
 have c0k : ((kindN b : Int) != 5) = true := by rw [bne, show ((kindN b : Int) == 5) = false from beq_eq_false_iff_ne.2 (by omega)]; rfl
 have d24 : ((b.toNat : Int) == 24) = false := beq_eq_false_iff_ne.2 (by omega)
 have d26 : ((b.toNat : Int) == 26) = false := beq_eq_false_iff_ne.2 (by omega)
 have d27 : ((b.toNat : Int) == 27) = false := beq_eq_false_iff_ne.2 (by omega)
 have m7 : ((p.mode : Int) == 7) = false := beq_eq_false_iff_ne.2 (by omega)
 have k0 : ((kindN b : Int) == 0) = true := beq_iff_eq.2 (by omega)
 clear h hm0 hu0 hk5 h24 h26 h27 hk
 have HT := Lib.hid (two_at w)
 have HN := Lib.hid (two_new w)
 obtain ⟨l3, hl3⟩ : ∃ l3, l ++ [acP 65533] = l3 := ⟨_, rfl⟩
 have hlen3 : l3.length ≤ 1099511626001 := by rw [← hl3]; simp; omega
 rw [hl3]
 have HL3 := Lib.hid hl3
 clear hl3
 have HR : Hid _ := fun x y W2 hW => act_ready (w := w) (H.out.noU.below (HN.out x y).1) (HN.out x y).2 (Nat.le_trans hbase (HN.out x y).1.size) (acP 65533) ⟨rfl, rfl⟩ 72 W2 hW
 have HK2 : Hid _ := fun (x y u : Obj) => three_at w x y u
 go_enter Tryz.func68, Tryz.ntmps68
 go_upto_region 5 with (first
  | (go_at_call 101; refine (kindOf_any b _).mono ?_; rintro e w' ⟨rfl, rfl⟩)
  | (at_builtin; obtain ⟨S, t1, t2, t3, t4, t5⟩ := HR.out _ _ _ rfl; obtain ⟨k0, k1, -, -⟩ := HK2.out _ _ _; refine wpl_appA _ rfl (.tmp 25) (.tmp 27) rfl base S _ (fun _ => False) _ _ l [acP 65533] rfl rfl t1 t2 t3 (fun _ h => h.elim) (fun _ _ h => h) (by simp; omega) t4 ?_; intro v3 W ho3 hg3 hb3 hv3; obtain ⟨B1, s1, s2, s3⟩ := t5 v3 W ho3 hg3 hv3; have q0 := row_grown hg3 k0 (fun k e => by have := HAV.out k e; omega); have q1 := row_grown hg3 k1 (fun k e => by have := HAV.out k e; omega); have HB1 : Hid (∀ x, B1 x → B x ∨ w.heap.size + 1 + 1 ≤ x) := (fun x hx => (s2 x hx).imp id (fun h => by omega)); have HF1 : Hid (Fr B w W) := ((Fr.of (HN.out _ _).1 B).trans s3 (fun x hx => .inl hx)); have HZ : Hid (w.heap.size + 1 + 1 ≤ W.heap.size) := (Nat.le_trans (Nat.le_of_eq (HN.out _ _).2.symm) s3.size); rw [HL3.out] at s1 ho3; have HS1 := Lib.hid s1; obtain ⟨A3, n3, rfl, -, -⟩ := ho3.as.form; have K1 := Lib.hid q1; have K0 := Lib.hid q0; clear t1 t2 t3 t4 t5 k0 k1 s1 s2 s3 q0 q1 ho3 hg3 hb3 hv3))
 obtain ⟨c0, c1, c2, c3, c4, cf⟩ := five_cells K0.out
 obtain ⟨e0, e1, e2, e3, e4, ef⟩ := five_cells K1.out
 have hbW : base ≤ W.heap.size := by have := HZ.out; omega
 have HRD : Hid _ := fun W2 hW => act_readyD (w := w) HS1.out rfl hbW (acC b.toNat) ⟨rfl, rfl⟩ 72 W2 hW
 have hz := HZ.out
 have hw0 : w.heap.size < W.heap.size := by omega
 have hw1 : w.heap.size + 1 < W.heap.size := by omega
 have HK : Hid (∀ (o : Obj) (g : Nat) (y : Obj), W.heap[g]? = some y → (W.alloc o).drew.heap[g]? = some y) := fun o g y h => by
  have hg : g < W.heap.size := by
   rcases Nat.lt_or_ge g W.heap.size with c | c
   ·exact c
   ·rw [Array.getElem?_eq_none c] at h; cases h
  exact (Below.heap_alloc W o g hg).trans h
 have HAO : Hid (∀ k, (Value.slice A3 l3.length n3).ownBlock = some k → k ≠ w.heap.size + 1 ∧ k ≠ w.heap.size) := fun k e => by
  have := stl_own HS1.out k e
  rcases HB1.out k this with h | h
  ·have := HL.out k h; omega
  ·omega
 go_wp2
 go_region_law (obtain ⟨S, t1, t2, t3, t4, t5⟩ := HRD.out _ rfl; refine step_appO rfl (.tmp 53) (.tmp 56) rfl base S _ (fun _ => False) (.slice A3 l3.length n3) _ l3 [acC b.toNat] ?_ ?_ t1 t2 t3 (fun _ h => h.elim) (fun _ _ h => h) (by simp; omega) t4 ?_; go_simp; go_simp; intro v9 w9 ho9 hg9 hb9 hv9; obtain ⟨B2, s1, s2, s3⟩ := t5 v9 w9 ho9 hg9 hv9; obtain ⟨A9, n9, rfl, -, -⟩ := ho9.as.form; obtain ⟨r0, r1, r2, r3, r4, rf⟩ := five_cells (row_grown hg9 (HK.out _ _ _ K1.out) (fun k e => (HAO.out k e).1)); obtain ⟨x0, x1, x2, x3, x4, xf⟩ := five_cells (row_grown hg9 (HK.out _ _ _ K0.out) (fun k e => (HAO.out k e).2)); have HPO : Hid (VPost w base B ({ p with utf := [] }) (l3 ++ [acC b.toNat]) (.returned (.tuple #[.agg #[.int .i64 (p.mode : Int), .int .u8 (p.priv : Int), .slice Ap p.params.length cp, .slice Ai p.inter.length ci, .slice none 0 0], .slice A9 (l3 ++ [acC b.toNat]).length n9])) (wset w w9 (.int .i64 (p.mode : Int)) (.int .u8 (p.priv : Int)) (.slice Ap p.params.length cp) (.slice Ai p.inter.length ci) (.slice none 0 0))) := vend_w HL.out s1 (fun x hx => (s2 x hx).elim (HB1.out x) (fun h => .inr (by omega))) (HF1.out.trans s3 (fun x hx => (HB1.out x hx).imp id (fun h => by omega))) ⟨rfl, rfl, rfl, rfl, rfl⟩; clear t1 t2 t3 t4 t5 s1 s2 s3 ho9 hg9 hb9 hv9)
 all_goals
  go_wp2
  exact bodyPost_ret (v := .tuple #[.agg #[.int .i64 (p.mode : Int), .int .u8 (p.priv : Int), .slice Ap p.params.length cp, .slice Ai p.inter.length ci, .slice none 0 0], .slice A9 (l3 ++ [acC b.toNat]).length n9]) (by simp [results, Tryz.results68, go_sem, r0, r1, r2, r3, r4]) rfl HPO.out
theorem step_ye (vp vi vu av : Value) (p : Pr) (b : UInt8) (l : List Ac) (base : Nat) (B : Nat → Prop) (w : World) (h : StL w base B vp vi vu av p.params p.inter p.utf l) (hbase : base ≤ w.heap.size) (hl : l.length ≤ 1099511626000) (hm0 : p.mode = 0) (hu0 : 0 < p.utf.length) (hk5 : kindN b ≠ 5) (h24 : b.toNat ≠ 24) (h26 : b.toNat ≠ 26) (h27 : b.toNat ≠ 27) (hk : kindN b = 4) :
  Calls Tryz.prog 68 #[.agg #[.int .i64 (p.mode : Int), .int .u8 (p.priv : Int), vp, vi, vu], .int .u8 (b.toNat : Int), av] w (VPost w base B ({ p with utf := [] }) (l ++ [acP 65533])) := by
 have H := Lib.hid h
 have HL : Hid (∀ x, B x → x < w.heap.size) := fun x hx => (h.lt x hx).2
 have HAV := Lib.hid (stl_oa h)
 obtain ⟨Ap, cp, Ai, ci, Au, cu, Aa, ca, rfl, rfl, rfl, rfl, -, -, ⟨u1, u2⟩, -⟩ := h.form
 have c0m : ((p.mode : Int) == 0) = true := beq_iff_eq.2 (by omega)
 have c0u : 0 < p.utf.length := hu0
 have c0k : ((kindN b : Int) != 5) = true := by rw [bne, show ((kindN b : Int) == 5) = false from beq_eq_false_iff_ne.2 (by omega)]; rfl
 have d24 : ((b.toNat : Int) == 24) = false := beq_eq_false_iff_ne.2 (by omega)
 have d26 : ((b.toNat : Int) == 26) = false := beq_eq_false_iff_ne.2 (by omega)
 have d27 : ((b.toNat : Int) == 27) = false := beq_eq_false_iff_ne.2 (by omega)
 have m7 : ((p.mode : Int) == 7) = false := beq_eq_false_iff_ne.2 (by omega)
 have k0 : ((kindN b : Int) == 0) = false := beq_eq_false_iff_ne.2 (by omega)
 have k4 : ((kindN b : Int) == 4) = true := beq_iff_eq.2 (by omega)
 clear h hm0 hu0 hk5 h24 h26 h27 hk
 have HT := Lib.hid (two_at w)
 have HN := Lib.hid (two_new w)
 obtain ⟨l3, hl3⟩ : ∃ l3, l ++ [acP 65533] = l3 := ⟨_, rfl⟩
 have hlen3 : l3.length ≤ 1099511626001 := by rw [← hl3]; simp; omega
 rw [hl3]
 have HL3 := Lib.hid hl3
 clear hl3
 have HR : Hid _ := fun x y W2 hW => act_ready (w := w) (H.out.noU.below (HN.out x y).1) (HN.out x y).2 (Nat.le_trans hbase (HN.out x y).1.size) (acP 65533) ⟨rfl, rfl⟩ 72 W2 hW
 have HK2 : Hid _ := fun (x y u : Obj) => three_at w x y u
 go_enter Tryz.func68, Tryz.ntmps68
 go_upto_region 5 with (first
  | (go_at_call 101; refine (kindOf_any b _).mono ?_; rintro e w' ⟨rfl, rfl⟩)
  | (at_builtin; obtain ⟨S, t1, t2, t3, t4, t5⟩ := HR.out _ _ _ rfl; obtain ⟨k0, k1, -, -⟩ := HK2.out _ _ _; refine wpl_appA _ rfl (.tmp 25) (.tmp 27) rfl base S _ (fun _ => False) _ _ l [acP 65533] rfl rfl t1 t2 t3 (fun _ h => h.elim) (fun _ _ h => h) (by simp; omega) t4 ?_; intro v3 W ho3 hg3 hb3 hv3; obtain ⟨B1, s1, s2, s3⟩ := t5 v3 W ho3 hg3 hv3; have q0 := row_grown hg3 k0 (fun k e => by have := HAV.out k e; omega); have q1 := row_grown hg3 k1 (fun k e => by have := HAV.out k e; omega); have HB1 : Hid (∀ x, B1 x → B x ∨ w.heap.size + 1 + 1 ≤ x) := (fun x hx => (s2 x hx).imp id (fun h => by omega)); have HF1 : Hid (Fr B w W) := ((Fr.of (HN.out _ _).1 B).trans s3 (fun x hx => .inl hx)); have HZ : Hid (w.heap.size + 1 + 1 ≤ W.heap.size) := (Nat.le_trans (Nat.le_of_eq (HN.out _ _).2.symm) s3.size); rw [HL3.out] at s1 ho3; have HS1 := Lib.hid s1; obtain ⟨A3, n3, rfl, -, -⟩ := ho3.as.form; have K1 := Lib.hid q1; have K0 := Lib.hid q0; clear t1 t2 t3 t4 t5 k0 k1 s1 s2 s3 q0 q1 ho3 hg3 hb3 hv3))
 obtain ⟨c0, c1, c2, c3, c4, cf⟩ := five_cells K0.out
 obtain ⟨e0, e1, e2, e3, e4, ef⟩ := five_cells K1.out
 have hpo : VPost w base B ({ p with utf := [] }) l3 (.returned (.tuple #[.agg #[.int .i64 (p.mode : Int), .int .u8 (p.priv : Int), .slice Ap p.params.length cp, .slice Ai p.inter.length ci, .slice none 0 0], .slice A3 l3.length n3])) (wset w W (.int .i64 (p.mode : Int)) (.int .u8 (p.priv : Int)) (.slice Ap p.params.length cp) (.slice Ai p.inter.length ci) (.slice none 0 0)) := vend_w HL.out HS1.out HB1.out HF1.out ⟨rfl, rfl, rfl, rfl, rfl⟩
 go_wp2
 exact bodyPost_ret (v := .tuple #[.agg #[.int .i64 (p.mode : Int), .int .u8 (p.priv : Int), .slice Ap p.params.length cp, .slice Ai p.inter.length ci, .slice none 0 0], .slice A3 l3.length n3]) (by simp [results, Tryz.results68, go_sem, e0, e1, e2, e3, e4]) rfl hpo
theorem step_yf (vp vi vu av : Value) (p r : Pr) (b : UInt8) (l l2 : List Ac) (base : Nat) (B : Nat → Prop) (w : World) (h : StL w base B vp vi vu av p.params p.inter p.utf l) (hbase : base ≤ w.heap.size) (hl : l.length ≤ 1099511626000) (hm0 : p.mode = 0) (hu0 : 0 < p.utf.length) (hk5 : kindN b ≠ 5) (h24 : b.toNat ≠ 24) (h26 : b.toNat ≠ 26) (h27 : b.toNat ≠ 27) (hk0 : kindN b ≠ 0) (hk4 : kindN b ≠ 4)
  (hc : ∀ W B1 av1, StL W base B1 vp vi (.slice none 0 0) av1 p.params p.inter [] (l ++ [acP 65533]) → base ≤ W.heap.size → Calls Tryz.prog 103 #[.agg #[.int .i64 (p.mode : Int), .int .u8 (p.priv : Int), vp, vi, (.slice none 0 0)], .int .u8 (b.toNat : Int), av1] W (VPost W base B1 r l2)) :
  Calls Tryz.prog 68 #[.agg #[.int .i64 (p.mode : Int), .int .u8 (p.priv : Int), vp, vi, vu], .int .u8 (b.toNat : Int), av] w (VPost w base B (r) l2) := by
 have H := Lib.hid h
 have HL : Hid (∀ x, B x → x < w.heap.size) := fun x hx => (h.lt x hx).2
 have HAV := Lib.hid (stl_oa h)
 have HC := Lib.hid hc
 obtain ⟨Ap, cp, Ai, ci, Au, cu, Aa, ca, rfl, rfl, rfl, rfl, -, -, ⟨u1, u2⟩, -⟩ := h.form
 have c0m : ((p.mode : Int) == 0) = true := beq_iff_eq.2 (by omega)
 have c0u : 0 < p.utf.length := hu0
 have c0k : ((kindN b : Int) != 5) = true := by rw [bne, show ((kindN b : Int) == 5) = false from beq_eq_false_iff_ne.2 (by omega)]; rfl
 have d24 : ((b.toNat : Int) == 24) = false := beq_eq_false_iff_ne.2 (by omega)
 have d26 : ((b.toNat : Int) == 26) = false := beq_eq_false_iff_ne.2 (by omega)
 have d27 : ((b.toNat : Int) == 27) = false := beq_eq_false_iff_ne.2 (by omega)
 have m7 : ((p.mode : Int) == 7) = false := beq_eq_false_iff_ne.2 (by omega)
 have k0 : ((kindN b : Int) == 0) = false := beq_eq_false_iff_ne.2 (by omega)
 have k4 : ((kindN b : Int) == 4) = false := beq_eq_false_iff_ne.2 (by omega)
 clear h hc hm0 hu0 hk5 h24 h26 h27 hk0 hk4
 have HT := Lib.hid (two_at w)
 have HN := Lib.hid (two_new w)
 obtain ⟨l3, hl3⟩ : ∃ l3, l ++ [acP 65533] = l3 := ⟨_, rfl⟩
 have hlen3 : l3.length ≤ 1099511626001 := by rw [← hl3]; simp; omega
 rw [hl3] at HC
 have HL3 := Lib.hid hl3
 clear hl3
 have HR : Hid _ := fun x y W2 hW => act_ready (w := w) (H.out.noU.below (HN.out x y).1) (HN.out x y).2 (Nat.le_trans hbase (HN.out x y).1.size) (acP 65533) ⟨rfl, rfl⟩ 72 W2 hW
 have HK2 : Hid _ := fun (x y u : Obj) => three_at w x y u
 go_enter Tryz.func68, Tryz.ntmps68
 go_upto_region 5 with (first
  | (go_at_call 101; refine (kindOf_any b _).mono ?_; rintro e w' ⟨rfl, rfl⟩)
  | (at_builtin; obtain ⟨S, t1, t2, t3, t4, t5⟩ := HR.out _ _ _ rfl; obtain ⟨k0, k1, -, -⟩ := HK2.out _ _ _; refine wpl_appA _ rfl (.tmp 25) (.tmp 27) rfl base S _ (fun _ => False) _ _ l [acP 65533] rfl rfl t1 t2 t3 (fun _ h => h.elim) (fun _ _ h => h) (by simp; omega) t4 ?_; intro v3 W ho3 hg3 hb3 hv3; obtain ⟨B1, s1, s2, s3⟩ := t5 v3 W ho3 hg3 hv3; have q0 := row_grown hg3 k0 (fun k e => by have := HAV.out k e; omega); have q1 := row_grown hg3 k1 (fun k e => by have := HAV.out k e; omega); have HB1 : Hid (∀ x, B1 x → B x ∨ w.heap.size + 1 + 1 ≤ x) := (fun x hx => (s2 x hx).imp id (fun h => by omega)); have HF1 : Hid (Fr B w W) := ((Fr.of (HN.out _ _).1 B).trans s3 (fun x hx => .inl hx)); have HZ : Hid (w.heap.size + 1 + 1 ≤ W.heap.size) := (Nat.le_trans (Nat.le_of_eq (HN.out _ _).2.symm) s3.size); rw [HL3.out] at s1 ho3; have HS1 := Lib.hid s1; obtain ⟨A3, n3, rfl, -, -⟩ := ho3.as.form; have K1 := Lib.hid q1; have K0 := Lib.hid q0; clear t1 t2 t3 t4 t5 k0 k1 s1 s2 s3 q0 q1 ho3 hg3 hb3 hv3))
 obtain ⟨c0, c1, c2, c3, c4, cf⟩ := five_cells K0.out
 obtain ⟨e0, e1, e2, e3, e4, ef⟩ := five_cells K1.out
 have hbW : base ≤ W.heap.size := by have := HZ.out; omega
 have HC2 := Lib.hid (HC.out W B1 (.slice A3 l3.length n3) HS1.out hbW)
 go_wp2_with (go_at_call 103; refine HC2.out.mono ?_; rintro e w4 ⟨B2, Bp, np, Bi, ni, Bu, nu, Ba, na, rfl, hst, hB, hF⟩; obtain ⟨f0, f1, f2, f3, f4, ff⟩ := five_cells (kept_g HL.out HZ.out HB1.out hF K1.out); have HP := Lib.hid (hand_g (r := r) HL.out HZ.out HB1.out HF1.out hst hB hF ⟨rfl, rfl, rfl, rfl, rfl⟩); clear hst hB hF)
 exact bodyPost_ret (v := .tuple #[.agg #[.int .i64 (r.mode : Int), .int .u8 (r.priv : Int), .slice Bp r.params.length np, .slice Bi r.inter.length ni, .slice Bu r.utf.length nu], .slice Ba l2.length na]) (by simp [results, Tryz.results68, go_sem, f0, f1, f2, f3, f4]) rfl HP.out
end Go.Proofs.YtlolgfgcgfjdjaaGreatDoor

namespace Go.Proofs.YtlolgfgcgfjdjaaGreatDoor
open Go.RowKit
set_option linter.unusedVariables false
set_option linter.unusedSimpArgs false
set_option maxHeartbeats 400000
set_option maxRecDepth 100000
theorem kind_cases (b : UInt8) : (b.toNat < 32 ∧ kindN b = 0) ∨ (32 ≤ b.toNat ∧ b.toNat < 127 ∧ kindN b ≠ 0 ∧ kindN b ≠ 4 ∧ kindN b ≠ 5) ∨ (b.toNat = 127 ∧ kindN b = 4) ∨ (128 ≤ b.toNat ∧ kindN b = 5) := by
 have := b.toNat_lt
 unfold kindN
 repeat' split
 all_goals omega
theorem pr_zero {p : Pr} (hok : PrOk p) (hm : p.mode = 0) : { p with utf := [] } = prM 0 := by
 have h1 : p.priv = 0 ∧ p.params = [] := by rcases hok.csi with h | h | h <;> first | omega | exact h
 have h2 : p.inter = [] := by
  have := hok.with_
  rcases Nat.eq_zero_or_pos p.inter.length with h | h
  ·exact List.eq_nil_of_length_eq_zero h
  ·omega
 rw [show ({ p with utf := [] } : Pr) = ⟨p.mode, p.priv, p.params, p.inter, []⟩ from rfl, hm, h1.1, h1.2, h2]
 rfl
theorem stepIn_any (vp vi vu av : Value) (p : Pr) (b : UInt8) (l : List Ac) (base : Nat) (B : Nat → Prop) (w : World) (h : StL w base B vp vi vu av p.params p.inter p.utf l) (hbase : base ≤ w.heap.size) (hl : l.length ≤ 1099511626000) (hok : PrOk p) :
  Calls Tryz.prog 68 #[.agg #[.int .i64 (p.mode : Int), .int .u8 (p.priv : Int), vp, vi, vu], .int .u8 (b.toNat : Int), av] w (VPost w base B (vtL p b).1 (l ++ (vtL p b).2)) := by
 have hkc := kind_cases b
 by_cases hm : p.mode = 0
 ·have hz := pr_zero hok hm
  by_cases hu : p.utf.length = 0
  ·have hu2 : p.utf = [] := List.eq_nil_of_length_eq_zero hu
   have hp : p = prM 0 := by rw [← hz, ← hu2]
   have e : vtL p b = vtN p b := by unfold vtL; rw [if_neg (by omega)]
   rw [e]
   by_cases b1 : b.toNat = 24
   ·rw [show vtN p b = (prM 0, []) from by unfold vtN; rw [if_pos (.inl b1)], List.append_nil]
    exact step_ea24 vp vi vu av p b l base B w h hbase hl hm hu b1
   by_cases b2 : b.toNat = 26
   ·rw [show vtN p b = (prM 0, []) from by unfold vtN; rw [if_pos (.inr b2)], List.append_nil]
    exact step_ea26 vp vi vu av p b l base B w h hbase hl hm hu b2
   by_cases b3 : b.toNat = 27
   ·rw [show vtN p b = (prM 1, []) from by unfold vtN; rw [if_neg (by omega), if_pos b3], List.append_nil]
    exact step_eb vp vi vu av p b l base B w h hbase hl hm hu b3
   rcases hkc with ⟨c1, c2⟩ | ⟨c0, c1, c2, c3, c4⟩ | ⟨c1, c2⟩ | ⟨c1, c2⟩
   ·rw [show vtN p b = (p, [acC b.toNat]) from by unfold vtN; rw [if_neg (by omega), if_neg b3, if_pos hm, if_pos c1, ← hp]]
    exact step_ed vp vi vu av p b l base B w h hbase hl hm hu b1 b2 b3 c2
   ·rw [show vtN p b = ({ prM 0 with utf := (stepL p.utf b).1 }, printsL (stepL p.utf b).2) from by unfold vtN; rw [if_neg (by omega), if_neg b3, if_pos hm, if_neg (by omega), if_neg (by omega), hu2]]
    exact step_ef vp vi vu av p _ b l _ base B w h hbase hl hm hu b1 b2 b3 c2 c3 fun W B1 av1 hW hbW => ground_any vp vi vu av1 p b l base B1 W hW hbW (by omega) (by omega)
   ·rw [show vtN p b = (p, []) from by unfold vtN; rw [if_neg (by omega), if_neg b3, if_pos hm, if_neg (by omega), if_pos c1, ← hp], List.append_nil]
    exact step_ee vp vi vu av p b l base B w h hbase hl hm hu b1 b2 b3 c2
   ·rw [show vtN p b = ({ prM 0 with utf := (stepL p.utf b).1 }, printsL (stepL p.utf b).2) from by unfold vtN; rw [if_neg (by omega), if_neg b3, if_pos hm, if_neg (by omega), if_neg (by omega), hu2]]
    exact step_ef vp vi vu av p _ b l _ base B w h hbase hl hm hu b1 b2 b3 (by omega) (by omega) fun W B1 av1 hW hbW => ground_any vp vi vu av1 p b l base B1 W hW hbW (by omega) (by omega)
  ·have hbg : beginsL p.utf = true := by
    rcases hok.utf with h | ⟨_, h⟩
    ·rw [h] at hu; exact absurd rfl hu
    ·exact h
   have hl3 := (beginsL_len _ hbg).2
   by_cases hk : kindN b = 5
   ·have h8 : 128 ≤ b.toNat := by omega
    rw [vt_pend p b hm (by omega) hbg h8]
    exact step_kf vp vi vu av p _ b l _ base B w h hbase hl hm (by omega) hk (by omega) (by omega) (by omega) (by omega) (by omega) fun W B1 av1 hW hbW => ground_any vp vi vu av1 p b l base B1 W hW hbW (by omega) hl3
   ·have h8 : b.toNat < 128 := by omega
    have e : vtL p b = ((vtN (prM 0) b).1, acP 65533 :: (vtN (prM 0) b).2) := by
     unfold vtL
     rw [if_pos ⟨hm, by omega⟩, if_neg (by unfold goesB; rw [decide_eq_false (by omega)]; simp), hz]
    rw [e]
    by_cases b1 : b.toNat = 24
    ·rw [show vtN (prM 0) b = (prM 0, []) from by unfold vtN; rw [if_pos (.inl b1)]]
     exact step_ya24 vp vi vu av p b l base B w h hbase hl hm (by omega) hk b1
    by_cases b2 : b.toNat = 26
    ·rw [show vtN (prM 0) b = (prM 0, []) from by unfold vtN; rw [if_pos (.inr b2)]]
     exact step_ya26 vp vi vu av p b l base B w h hbase hl hm (by omega) hk b2
    by_cases b3 : b.toNat = 27
    ·rw [show vtN (prM 0) b = (prM 1, []) from by unfold vtN; rw [if_neg (by omega), if_pos b3]]
     exact step_yb vp vi vu av p b l base B w h hbase hl hm (by omega) hk b3
    rcases hkc with ⟨c1, c2⟩ | ⟨c0, c1, c2, c3, c4⟩ | ⟨c1, c2⟩ | ⟨c1, c2⟩
    ·rw [show vtN (prM 0) b = (prM 0, [acC b.toNat]) from by unfold vtN; rw [if_neg (by omega), if_neg b3, if_pos (show (prM 0).mode = 0 from rfl), if_pos c1], show l ++ acP 65533 :: [acC b.toNat] = (l ++ [acP 65533]) ++ [acC b.toNat] by simp]
     have := step_yd vp vi vu av p b l base B w h hbase hl hm (by omega) hk b1 b2 b3 c2
     rw [hz] at this
     exact this
    ·rw [show vtN (prM 0) b = ({ prM 0 with utf := (stepL [] b).1 }, printsL (stepL [] b).2) from by unfold vtN; rw [if_neg (by omega), if_neg b3, if_pos (show (prM 0).mode = 0 from rfl), if_neg (by omega), if_neg (by omega)]]
     refine step_yf vp vi vu av p _ b l _ base B w h hbase hl hm (by omega) hk b1 b2 b3 c2 c3 fun W B1 av1 hW hbW => ?_
     have := ground_any vp vi (.slice none 0 0) av1 { p with utf := [] } b (l ++ [acP 65533]) base B1 W hW hbW (by simp; omega) (by simp)
     rw [show l ++ acP 65533 :: printsL (stepL [] b).2 = (l ++ [acP 65533]) ++ printsL (stepL [] b).2 by simp]
     exact this
    ·rw [show vtN (prM 0) b = (prM 0, []) from by unfold vtN; rw [if_neg (by omega), if_neg b3, if_pos (show (prM 0).mode = 0 from rfl), if_neg (by omega), if_pos c1]]
     have := step_ye vp vi vu av p b l base B w h hbase hl hm (by omega) hk b1 b2 b3 c2
     rw [hz] at this
     exact this
    ·omega
 ·have e : vtL p b = vtN p b := by unfold vtL; rw [if_neg (by omega)]
  rw [e]
  by_cases b1 : b.toNat = 24
  ·rw [show vtN p b = (prM 0, []) from by unfold vtN; rw [if_pos (.inl b1)], List.append_nil]
   exact step_ia24 vp vi vu av p b l base B w h hbase hl hm b1
  by_cases b2 : b.toNat = 26
  ·rw [show vtN p b = (prM 0, []) from by unfold vtN; rw [if_pos (.inr b2)], List.append_nil]
   exact step_ia26 vp vi vu av p b l base B w h hbase hl hm b2
  by_cases b3 : b.toNat = 27
  ·rw [show vtN p b = (prM 1, []) from by unfold vtN; rw [if_neg (by omega), if_pos b3], List.append_nil]
   exact step_ib vp vi vu av p b l base B w h hbase hl hm b3
  by_cases m7 : p.mode = 7
  ·rw [show vtN p b = (if b.toNat = 7 then prM 0 else p, []) from by unfold vtN; rw [if_neg (by omega), if_neg b3, if_neg hm, if_pos m7]; split <;> rfl, List.append_nil]
   exact step_ic vp vi vu av p _ b l l base B w h hbase hl hm b1 b2 b3 m7 (fun W B1 av1 hW hbW => text_any vp vi vu av1 p b l base B1 W hW) rfl
  rcases hkc with ⟨c1, c2⟩ | ⟨c0, c1, c2, c3, c4⟩ | ⟨c1, c2⟩ | ⟨c1, c2⟩
  ·rw [show vtN p b = (p, [acC b.toNat]) from by unfold vtN; rw [if_neg (by omega), if_neg b3, if_neg hm, if_neg m7, if_pos c1]]
   exact step_id vp vi vu av p b l base B w h hbase hl hm b1 b2 b3 m7 c2
  ·rw [show vtN p b = vtM p b from by unfold vtN; rw [if_neg (by omega), if_neg b3, if_neg hm, if_neg m7, if_neg (by omega), if_neg (by omega), if_neg (by omega)]]
   exact step_ih vp vi vu av p _ b l _ base B w h hbase hl hm b1 b2 b3 m7 c2 c3 c4 fun W B1 av1 hW hbW => sequence_any vp vi vu av1 p b l base B1 W hW hbW (by omega) hok hm m7 c0 c1
  ·rw [show vtN p b = (p, []) from by unfold vtN; rw [if_neg (by omega), if_neg b3, if_neg hm, if_neg m7, if_neg (by omega), if_pos c1], List.append_nil]
   exact step_ie vp vi vu av p b l base B w h hbase hl hm b1 b2 b3 m7 c2
  ·rw [show vtN p b = (prM 0, []) from by unfold vtN; rw [if_neg (by omega), if_neg b3, if_neg hm, if_neg m7, if_neg (by omega), if_neg (by omega), if_pos c1], List.append_nil]
   exact step_ig vp vi vu av p b l base B w h hbase hl hm b1 b2 b3 m7 c2
end Go.Proofs.YtlolgfgcgfjdjaaGreatDoor

namespace Go.Proofs.YtlolgfgcgfjdjaaGreatDoor
open Go.RowKit
set_option linter.unusedVariables false
set_option linter.unusedSimpArgs false
set_option maxHeartbeats 2000000
set_option maxRecDepth 100000
theorem nilI (w : World) (A : Option Addr) (n c : Nat) : (binOp .eql 27 (.slice A n c) (.slice none 0 0)).run Tryz.prog w = .ok (.bool A.isNone) w := by
 have := run_equal_slice_nil w 27 3 A n c Tryz.underlying27
 simp [binOp, this]
theorem nilB (w : World) (A : Option Addr) (n c : Nat) : (binOp .eql 22 (.slice A n c) (.slice none 0 0)).run Tryz.prog w = .ok (.bool A.isNone) w := by
 have := run_equal_slice_nil w 22 5 A n c Tryz.underlying22
 simp [binOp, this]
theorem cloneI_any (v : Value) (l : List Int) (w : World) (hv : IS w w.heap.size v l) (hl : l.length ≤ 1048576) : Calls Tryz.prog 66 #[v] w fun e w' => ∃ u, e = .returned u ∧ OI w' w.heap.size u l ∧ Below w.heap.size w w' := by
 have HV := Lib.hid hv
 obtain ⟨A, c, rfl, g1, g2, g3⟩ := hv.at_
 clear hv
 rcases A with _ | ad
 ·have hl0 : l = [] := by
   rcases Nat.eq_zero_or_pos l.length with h | h
   ·exact List.eq_nil_of_length_eq_zero h
   ·obtain ⟨ad, hA, _⟩ := g3 0 h; cases hA
  subst hl0
  clear g3
  have hn := nilI w none 0 c
  rw [show (none : Option Addr).isNone = true from rfl] at hn
  go_enter Tryz.func66, Tryz.ntmps66
  go_wp2
  go_ret
  exact ⟨_, rfl, OI.nil _ _, Below.refl _ _⟩
 ·clear g3
  have hn := nilI w (some ad) l.length c
  rw [show (some ad : Option Addr).isNone = false from rfl] at hn
  have HE : Hid (OI (w.alloc (.cells #[] 3)) w.heap.size (.slice (some ⟨w.heap.size, 0, none⟩) 0 0) []) := World.ownsRow_made (base := w.heap.size) (e := 3) (size := 1) w #[] 0 (Nat.le_refl _) (by simp [maxLen]) (by simp)
  go_enter Tryz.func66, Tryz.ntmps66
  go_wp2_with (at_builtin; refine wpl_appI _ rfl (.tmp 5) (.tmp 6) rfl w.heap.size _ _ _ [] l rfl rfl HE.out (HV.out.alloc (Nat.le_refl _) _) (by simp; omega) (by simp) ?_; intro v1 w1 ho1 hg1 hb1 _)
  go_ret
  exact ⟨v1, rfl, by rw [← List.nil_append l]; exact ho1, ((Below.refl _ _).alloc (Nat.le_refl _) _).trans hb1⟩
theorem cloneB_any (v : Value) (l : List UInt8) (w : World) (hv : BS w w.heap.size v l) (hl : l.length ≤ 1048576) : Calls Tryz.prog 67 #[v] w fun e w' => ∃ u, e = .returned u ∧ OB w' w.heap.size u l ∧ Below w.heap.size w w' := by
 have HV := Lib.hid hv
 obtain ⟨A, c, rfl, g1, g2, g3⟩ := hv.at_
 clear hv
 rcases A with _ | ad
 ·have hl0 : l = [] := by
   rcases Nat.eq_zero_or_pos l.length with h | h
   ·exact List.eq_nil_of_length_eq_zero h
   ·obtain ⟨ad, hA, _⟩ := g3 0 h; cases hA
  subst hl0
  clear g3
  have hn := nilB w none 0 c
  rw [show (none : Option Addr).isNone = true from rfl] at hn
  go_enter Tryz.func67, Tryz.ntmps67
  go_wp2
  go_ret
  exact ⟨_, rfl, OB.nil _ _, Below.refl _ _⟩
 ·clear g3
  have hn := nilB w (some ad) l.length c
  rw [show (some ad : Option Addr).isNone = false from rfl] at hn
  have HE : Hid (OB (w.alloc (.cells #[] 5)) w.heap.size (.slice (some ⟨w.heap.size, 0, none⟩) 0 0) []) := World.ownsRow_made (base := w.heap.size) (e := 5) (size := 1) w #[] 0 (Nat.le_refl _) (by simp [maxLen]) (by simp)
  go_enter Tryz.func67, Tryz.ntmps67
  go_wp2_with (at_builtin; refine wpl_app _ rfl (.tmp 5) (.tmp 6) rfl w.heap.size _ _ _ [] l rfl rfl HE.out (HV.out.alloc (Nat.le_refl _) _) (by simp; omega) (by simp) ?_; intro v1 w1 ho1 hg1 hb1 _)
  go_ret
  exact ⟨v1, rfl, by rw [← List.nil_append l]; exact ho1, ((Below.refl _ _).alloc (Nat.le_refl _) _).trans hb1⟩
theorem own_lower {w : World} {base b2 size n : Nat} {e : TypeId} {v : Value} {xs : List Value} (h : w.ownsRow base e size v n xs) (hb : b2 ≤ base) : w.ownsRow b2 e size v n xs := by
 refine ⟨h.1, ?_⟩
 rcases h.2 with hn | ⟨g, cap, cur, hv, hg, rest⟩
 ·exact .inl hn
 ·exact .inr ⟨g, cap, cur, hv, Nat.le_trans hb hg, rest⟩
theorem box_set {w : World} {g : Nat} {t : TypeId} {x0 x1 x2 x3 x4 u : Value} (h : w.heap[g]? = some (.cells #[x0, x1, x2, x3, x4] t)) :
  (w.setCell ⟨g, 2, none⟩ u).heap[g]? = some (.cells #[x0, x1, u, x3, x4] t) ∧ (w.setCell ⟨g, 3, none⟩ u).heap[g]? = some (.cells #[x0, x1, x2, u, x4] t) := by
 constructor
 ·rw [heap_setCell_same w g 2 _ t u h]; rfl
 ·rw [heap_setCell_same w g 3 _ t u h]; rfl
theorem two_keptS {w w4 : World} {x y : Obj} (hb : Below ((w.alloc x).alloc y).heap.size ((w.alloc x).alloc y) w4) : (w4.heap[w.heap.size]? = some x ∧ w4.heap[w.heap.size + 1]? = some y) ∧ Below w.heap.size w w4 ∧ w.heap.size + 1 + 1 ≤ w4.heap.size := by
 have h2 := two_new w x y
 refine ⟨two_keptB (by rw [← h2.2]; exact hb), h2.1.trans (hb.mono (by omega)), ?_⟩
 have := hb.size
 omega
theorem field2 {w w4 w5 : World} {x0 x1 x2 x3 x4 u : Value} {t : TypeId} {y : Obj} (hb4 : Below w.heap.size w w4) (hz4 : w.heap.size + 1 + 1 ≤ w4.heap.size) (k0 : w4.heap[w.heap.size]? = some (.cells #[x0, x1, x2, x3, x4] t)) (k1 : w4.heap[w.heap.size + 1]? = some y) (hb : Below (w4.setCell ⟨w.heap.size, 2, none⟩ u).heap.size (w4.setCell ⟨w.heap.size, 2, none⟩ u) w5) :
  w5.heap[w.heap.size]? = some (.cells #[x0, x1, u, x3, x4] t) ∧ w5.heap[w.heap.size + 1]? = some y ∧ Below w.heap.size w w5 ∧ w.heap.size + 1 + 1 ≤ w5.heap.size ∧ (∀ e size n v xs, w4.ownsRow (w.heap.size + 1 + 1) e size v n xs → w5.ownsRow (w.heap.size + 1 + 1) e size v n xs) := by
 have hs : (w4.setCell ⟨w.heap.size, 2, none⟩ u).heap.size = w4.heap.size := by simp
 have hz := hb.size
 refine ⟨(hb.block _ (by omega)).trans (box_set k0).1, (hb.block _ (by omega)).trans ((Below.heap_setCell _ _ _ _ (by simp)).trans k1), (hb4.setCell (p := ⟨w.heap.size, 2, none⟩) (Nat.le_refl _) u).trans (hb.mono (by have := hb4.size; omega)), by omega, fun e size n v xs h => ?_⟩
 have h1 := ownsRow_setCell_below h (a := ⟨w.heap.size, 2, none⟩) (by show w.heap.size < w.heap.size + 1 + 1; omega) u
 exact own_keep h1 (fun g hg => hb.block g (World.ownsRow.lt h1 g hg).2)
theorem field3 {w w4 w5 : World} {x0 x1 x2 x3 x4 u : Value} {t : TypeId} {y : Obj} (hb4 : Below w.heap.size w w4) (hz4 : w.heap.size + 1 + 1 ≤ w4.heap.size) (k0 : w4.heap[w.heap.size]? = some (.cells #[x0, x1, x2, x3, x4] t)) (k1 : w4.heap[w.heap.size + 1]? = some y) (hb : Below (w4.setCell ⟨w.heap.size, 3, none⟩ u).heap.size (w4.setCell ⟨w.heap.size, 3, none⟩ u) w5) :
  w5.heap[w.heap.size]? = some (.cells #[x0, x1, x2, u, x4] t) ∧ w5.heap[w.heap.size + 1]? = some y ∧ Below w.heap.size w w5 ∧ w.heap.size + 1 + 1 ≤ w5.heap.size ∧ (∀ e size n v xs, w4.ownsRow (w.heap.size + 1 + 1) e size v n xs → w5.ownsRow (w.heap.size + 1 + 1) e size v n xs) := by
 have hs : (w4.setCell ⟨w.heap.size, 3, none⟩ u).heap.size = w4.heap.size := by simp
 have hz := hb.size
 refine ⟨(hb.block _ (by omega)).trans (box_set k0).2, (hb.block _ (by omega)).trans ((Below.heap_setCell _ _ _ _ (by simp)).trans k1), (hb4.setCell (p := ⟨w.heap.size, 3, none⟩) (Nat.le_refl _) u).trans (hb.mono (by have := hb4.size; omega)), by omega, fun e size n v xs h => ?_⟩
 have h1 := ownsRow_setCell_below h (a := ⟨w.heap.size, 3, none⟩) (by show w.heap.size < w.heap.size + 1 + 1; omega) u
 exact own_keep h1 (fun g hg => hb.block g (World.ownsRow.lt h1 g hg).2)
theorem size_set (w : World) (a : Addr) (u : Value) : (w.setCell a u).heap.size = w.heap.size := by simp
theorem own_post {w w6 : World} {p : Pr} {v1 v2 v3 : Value} (hb : Below w.heap.size w w6) (h1 : OI w6 (w.heap.size + 1 + 1) v1 p.params) (h2 : OB w6 (w.heap.size + 1 + 1) v2 p.inter) (n : Nat) (hn : w.heap.size + 1 + 1 ≤ n) (h2n : ∀ g, v2.ownBlock = some g → g < n) (h3 : OB w6 n v3 p.utf) :
  PPost w w.heap.size (fun _ => False) p (.slice none 0 0) [] (.returned (.agg #[.int .i64 (p.mode : Int), .int .u8 (p.priv : Int), v1, v2, v3])) (fset w w6 4 v3 (.int .i64 (p.mode : Int)) (.int .u8 (p.priv : Int)) v1 v2 v3) := by
 have hst : StL w6 w.heap.size (fun x => v1.ownBlock = some x ∨ v2.ownBlock = some x ∨ v3.ownBlock = some x) v1 v2 v3 (.slice none 0 0) p.params p.inter p.utf [] := by
  refine ⟨fun x => v3.ownBlock = some x, ⟨own_lower h1 (by omega), own_lower h2 (by omega), h3.slO, OA.nil _ _ _⟩, fun x hx => .inr (.inr hx), fun x hx => ?_, fun g e => ⟨.inl e, fun hs => own_apart h1 h3 (by decide) g e hs⟩, fun g e => ⟨.inr (.inl e), fun hs => ?_⟩, fun g e => by (cases e)⟩
  ·rcases hx with hx | hx | hx
   ·have := World.ownsRow.lt h1 x hx; omega
   ·have := World.ownsRow.lt h2 x hx; omega
   ·have := World.ownsRow.lt h3 x hx; omega
  ·have := h2n g e
   have := (World.ownsRow.lt h3 g hs).1
   omega
 refine pend_f (fun x hx => hx.elim) hst (fun x hx => .inr ?_) (Fr.of hb _) ⟨rfl, rfl, rfl, rfl, rfl⟩
 rcases hx with hx | hx | hx
 ·exact (World.ownsRow.lt h1 x hx).1
 ·exact (World.ownsRow.lt h2 x hx).1
 ·have := (World.ownsRow.lt h3 x hx).1; omega
theorem own_anyP (vp vi vu : Value) (p : Pr) (S : Nat → Prop) (w : World) (hp : SL vI w S vp p.params) (hi : SL vB w S vi p.inter) (hu : SL vB w S vu p.utf) (hS : ∀ x, S x → x < w.heap.size) (l1 : p.params.length ≤ 16) (l2 : p.inter.length ≤ 2) (l3 : p.utf.length ≤ 3) :
  Calls Tryz.prog 69 #[.agg #[.int .i64 (p.mode : Int), .int .u8 (p.priv : Int), vp, vi, vu]] w (PPost w w.heap.size (fun _ => False) p (.slice none 0 0) []) := by
 have HP : Hid (∀ w2, Below w.heap.size w w2 → IS w2 w2.heap.size vp p.params) := fun w2 hb => ((hp.is hS).below hb).more hb.size
 have HI : Hid (∀ w2, Below w.heap.size w w2 → BS w2 w2.heap.size vi p.inter) := fun w2 hb => ((hi.bs hS).below hb).more hb.size
 have HU : Hid (∀ w2, Below w.heap.size w w2 → BS w2 w2.heap.size vu p.utf) := fun w2 hb => ((hu.bs hS).below hb).more hb.size
 obtain ⟨Ap, cp, rfl, p1, p2⟩ := hp.form
 obtain ⟨Ai, ci, rfl, i1, i2⟩ := hi.form
 obtain ⟨Au, cu, rfl, u1, u2⟩ := hu.form
 clear hp hi hu hS
 have HN := Lib.hid (two_new w)
 go_enter Tryz.func69, Tryz.ntmps69
 go_wp2_with (first
  | (go_at_call 66; refine (cloneI_any _ p.params _ (HP.out _ (HN.out _ _).1) (by omega)).mono ?_; rintro e w4 ⟨v1, rfl, ho1, hb1⟩; obtain ⟨⟨k0, k1⟩, hb4, hz4⟩ := two_keptS hb1; rw [(HN.out _ _).2] at ho1; obtain ⟨A1, n1, rfl, q1, q2⟩ := ho1.sl.form; obtain ⟨c0, c1, c2, c3, c4, cf⟩ := five_cells k0; have K0 := Lib.hid k0; have K1 := Lib.hid k1; have HB4 := Lib.hid hb4; have HO1 := Lib.hid ho1; have HZ4 := Lib.hid hz4; clear k0 k1 hb1 hb4 hz4 ho1)
  | (go_at_call 67; (with_reducible refine (cloneB_any _ p.inter _ (HI.out _ (HB4.out.setCell (Nat.le_refl _) _)) (by omega)).mono ?_); rintro e w5 ⟨v2, rfl, ho2, hb2⟩; obtain ⟨j0, j1, hb5, hz5, hkeep⟩ := field2 HB4.out HZ4.out K0.out K1.out hb2; rw [size_set] at ho2; have HO2 := Lib.hid (own_lower ho2 HZ4.out); have HO15 := Lib.hid (hkeep _ _ _ _ _ HO1.out); obtain ⟨A2, n2, rfl, q3, q4⟩ := ho2.sl.form; obtain ⟨e0, e1, e2, e3, e4, ef⟩ := five_cells j0; have J0 := Lib.hid j0; have J1 := Lib.hid j1; have HB5 := Lib.hid hb5; have HZ5 := Lib.hid hz5; clear j0 j1 hb2 hb5 hz5 ho2 hkeep)
  | (go_at_call 67; (with_reducible refine (cloneB_any _ p.utf _ (HU.out _ (HB5.out.setCell (Nat.le_refl _) _)) (by omega)).mono ?_); rintro e w6 ⟨v3, rfl, ho3, hb3⟩; obtain ⟨j0, j1, hb6, hz6, hkeep⟩ := field3 HB5.out HZ5.out J0.out J1.out hb3; rw [size_set] at ho3; have HP6 := Lib.hid (own_post hb6 (hkeep _ _ _ _ _ HO15.out) (hkeep _ _ _ _ _ HO2.out) w5.heap.size HZ5.out (fun g e => (World.ownsRow.lt HO2.out g e).2) ho3); obtain ⟨A3, n3, rfl, q5, q6⟩ := ho3.sl.form; obtain ⟨f0, f1, f2, f3, f4, ff⟩ := five_cells j0; obtain ⟨r0, r1, r2, r3, r4, rf⟩ := five_cells j1; clear j0 j1 hb3 hb6 hz6 ho3 hkeep))
 exact bodyPost_ret (v := .agg #[.int .i64 (p.mode : Int), .int .u8 (p.priv : Int), .slice A1 p.params.length n1, .slice A2 p.inter.length n2, .slice A3 p.utf.length n3]) (by simp [results, Tryz.results69, go_sem, r0, r1, r2, r3, r4]) rfl HP6.out
end Go.Proofs.YtlolgfgcgfjdjaaGreatDoor

namespace Go.Proofs.YtlolgfgcgfjdjaaGreatDoor
open Go.RowKit
set_option linter.unusedVariables false
set_option linter.unusedSimpArgs false
set_option maxHeartbeats 1000000
set_option maxRecDepth 100000
theorem nilC (w : World) (A : Option Addr) (n c : Nat) : (binOp .eql 24 (.slice A n c) (.slice none 0 0)).run Tryz.prog w = .ok (.bool A.isNone) w := by
 have := run_equal_slice_nil w 24 50 A n c Tryz.underlying24
 simp [binOp, this]
theorem cloneC_any (v : Value) (l : List Cl) (w : World) (hv : CS w w.heap.size v l) (hl : l.length ≤ 1048576) : Calls Tryz.prog 50 #[v] w fun e w' => ∃ u, e = .returned u ∧ OC w' w.heap.size u l ∧ Below w.heap.size w w' := by
 have HV := Lib.hid hv
 obtain ⟨A, c, rfl, g1, g2, g3⟩ := hv
 unfold maxLen at g2
 rcases A with _ | ad
 ·have hl0 : l = [] := by
   rcases Nat.eq_zero_or_pos l.length with h | h
   ·exact List.eq_nil_of_length_eq_zero h
   ·obtain ⟨ad, hA, _⟩ := g3 h; cases hA
  subst hl0
  clear g3
  have hn := nilC w none 0 c
  rw [show (none : Option Addr).isNone = true from rfl] at hn
  go_enter Tryz.func50, Tryz.ntmps50
  go_wp2
  go_ret
  exact ⟨_, rfl, OC.nil _ _, Below.refl _ _⟩
 ·clear g3
  have hn := nilC w (some ad) l.length c
  rw [show (some ad : Option Addr).isNone = false from rfl] at hn
  have HE : Hid (OC (w.alloc (.cells #[] 50)) w.heap.size (.slice (some ⟨w.heap.size, 0, none⟩) 0 0) []) := World.ownsRow_made (base := w.heap.size) (e := 50) (size := 3) w #[] 0 (Nat.le_refl _) (by simp [maxLen]) (by simp)
  go_enter Tryz.func50, Tryz.ntmps50
  go_wp2_with (at_builtin; refine wpl_appC _ rfl (.tmp 5) (.tmp 6) rfl w.heap.size _ _ _ [] l rfl rfl HE.out (HV.out.alloc (Nat.le_refl _) _) (by simp; omega) (by simp) ?_; intro v1 w1 ho1 hg1 hb1 _)
  go_ret
  exact ⟨v1, rfl, by rw [← List.nil_append l]; exact ho1, ((Below.refl _ _).alloc (Nat.le_refl _) _).trans hb1⟩
theorem nilT (w : World) (A : Option Addr) (n c : Nat) : (binOp .eql 26 (.slice A n c) (.slice none 0 0)).run Tryz.prog w = .ok (.bool A.isNone) w := by
 have := run_equal_slice_nil w 26 4 A n c Tryz.underlying26
 simp [binOp, this]
theorem cloneT_any (v : Value) (l : List Bool) (w : World) (hv : TS w w.heap.size v l) (hl : l.length ≤ 1048576) : Calls Tryz.prog 65 #[v] w fun e w' => ∃ u, e = .returned u ∧ OT w' w.heap.size u l ∧ Below w.heap.size w w' := by
 have HV := Lib.hid hv
 obtain ⟨A, c, rfl, g1, g2, g3⟩ := hv
 unfold maxLen at g2
 rcases A with _ | ad
 ·have hl0 : l = [] := by
   rcases Nat.eq_zero_or_pos l.length with h | h
   ·exact List.eq_nil_of_length_eq_zero h
   ·obtain ⟨ad, hA, _⟩ := g3 h; cases hA
  subst hl0
  clear g3
  have hn := nilT w none 0 c
  rw [show (none : Option Addr).isNone = true from rfl] at hn
  go_enter Tryz.func65, Tryz.ntmps65
  go_wp2
  go_ret
  exact ⟨_, rfl, OT.nil _ _, Below.refl _ _⟩
 ·clear g3
  have hn := nilT w (some ad) l.length c
  rw [show (some ad : Option Addr).isNone = false from rfl] at hn
  have HE : Hid (OT (w.alloc (.cells #[] 4)) w.heap.size (.slice (some ⟨w.heap.size, 0, none⟩) 0 0) []) := World.ownsRow_made (base := w.heap.size) (e := 4) (size := 1) w #[] 0 (Nat.le_refl _) (by simp [maxLen]) (by simp)
  go_enter Tryz.func65, Tryz.ntmps65
  go_wp2_with (at_builtin; refine wpl_appT _ rfl (.tmp 5) (.tmp 6) rfl w.heap.size _ _ _ [] l rfl rfl HE.out (HV.out.alloc (Nat.le_refl _) _) (by simp; omega) (by simp) ?_; intro v1 w1 ho1 hg1 hb1 _)
  go_ret
  exact ⟨v1, rfl, by rw [← List.nil_append l]; exact ho1, ((Below.refl _ _).alloc (Nat.le_refl _) _).trans hb1⟩
end Go.Proofs.YtlolgfgcgfjdjaaGreatDoor
