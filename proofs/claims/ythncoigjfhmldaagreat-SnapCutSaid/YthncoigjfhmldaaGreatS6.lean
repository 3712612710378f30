/- What is proved here: parts of the proofs of the laws of layer 10. -/
import Derived.Test.YthncoigjfhmldaaGreatS5
namespace Go.Proofs.YthncoigjfhmldaaGreat
open Go.RowKit
set_option linter.unusedVariables false
set_option linter.unusedSimpArgs false
set_option maxHeartbeats 1000000
set_option maxRecDepth 100000
theorem two_new (w : World) (x y : Obj) : Below w.heap.size w ((w.alloc x).alloc y) ∧ ((w.alloc x).alloc y).heap.size = w.heap.size + 1 + 1 :=
 ⟨((Below.refl w.heap.size w).alloc (Nat.le_refl _) x).alloc (by simp) y, by simp⟩
theorem act_new0 {w W : World} {S : Nat → Prop} (hb : Below w.heap.size w W) (hS : ∀ x, S x → x < w.heap.size) (a : Ac) (vp vi : Value) (t : TypeId) (g : Nat) (hg : g = W.heap.size) (hp : SL vI w S vp a.params) (hi : SL vB w S vi a.inter) (cs : Array Value) (hcs : cs = #[.int .i64 (a.kind : Int), .int .i32 a.r, .int .u8 (a.b : Int), .int .u8 (a.priv : Int), vp, vi]) :
  AS (W.alloc (.cells cs t)) (NewB (W.alloc (.cells cs t)) w.heap.size) (fun x => S x ∨ NewB (W.alloc (.cells cs t)) w.heap.size x) (.slice (some ⟨g, 0, none⟩) 1 1) [a] := act_new hb hS a vp vi t g hg hp hi cs hcs
theorem byte_new {w W : World} {S : Nat → Prop} (hb : Below w.heap.size w W) (b : UInt8) (t : TypeId) (g : Nat) (hg : g = W.heap.size) : SL vB (W.alloc (.cells #[.int .u8 (b.toNat : Int)] t)) (fun x => S x ∨ NewB (W.alloc (.cells #[.int .u8 (b.toNat : Int)] t)) w.heap.size x) (.slice (some ⟨g, 0, none⟩) 1 1) [b] := by
 subst hg
 obtain ⟨A, c, hv, h1, h2, h3⟩ := BS.one W b t
 refine ⟨A, c, hv, h1, h2, fun hl => ?_⟩
 obtain ⟨ad, hA, hbk, hc⟩ := h3 hl
 subst hA
 simp only [Value.slice.injEq, Option.some.injEq] at hv
 refine ⟨ad, rfl, .inr ⟨?_, by simpa using hbk⟩, hc⟩
 rw [← hv.1]
 exact hb.size
theorem stepr_24 (vp vi vu : Value) (p : Pr) (b : UInt8) (S : Nat → Prop) (w : World) (hp : SL vI w S vp p.params) (hi : SL vB w S vi p.inter) (hu : SL vB w S vu p.utf) (hS : ∀ x, S x → x < w.heap.size) (h : b.toNat = 24) :
  Calls Tryz.prog 71 #[.agg #[.int .i64 (p.mode : Int), .int .u8 (p.priv : Int), vp, vi, vu], .int .u8 (b.toNat : Int)] w (VtPost S (prM 0, []) w) := by
 have HP := Lib.hid hp
 have HI := Lib.hid hi
 have HU := Lib.hid hu
 have HSS := Lib.hid hS
 obtain ⟨Ap, cp, rfl, p1, p2⟩ := hp.form
 obtain ⟨Ai, ci, rfl, i1, i2⟩ := hi.form
 obtain ⟨Au, cu, rfl, u1, u2⟩ := hu.form
 clear hp hi hu hS
 have hb255 := b.toNat_lt
 have d24 : ((b.toNat : Int) == 24) = true := beq_iff_eq.2 (by omega)
 clear h
 go_enter Tryz.func71, Tryz.ntmps71
 go_wp2
 exact bodyPost_ret (v := .tuple #[.agg #[.int .i64 0, .int .u8 0, .slice none 0 0, .slice none 0 0, .slice none 0 0], .slice none 0 0]) (by simp [results, Tryz.results71, go_sem]) rfl ⟨_, _, rfl, prM_pv _ _ 0, AS.nil _ _ _, (two_new w _ _).1⟩
theorem stepr_26 (vp vi vu : Value) (p : Pr) (b : UInt8) (S : Nat → Prop) (w : World) (hp : SL vI w S vp p.params) (hi : SL vB w S vi p.inter) (hu : SL vB w S vu p.utf) (hS : ∀ x, S x → x < w.heap.size) (h : b.toNat = 26) :
  Calls Tryz.prog 71 #[.agg #[.int .i64 (p.mode : Int), .int .u8 (p.priv : Int), vp, vi, vu], .int .u8 (b.toNat : Int)] w (VtPost S (prM 0, []) w) := by
 have HP := Lib.hid hp
 have HI := Lib.hid hi
 have HU := Lib.hid hu
 have HSS := Lib.hid hS
 obtain ⟨Ap, cp, rfl, p1, p2⟩ := hp.form
 obtain ⟨Ai, ci, rfl, i1, i2⟩ := hi.form
 obtain ⟨Au, cu, rfl, u1, u2⟩ := hu.form
 clear hp hi hu hS
 have hb255 := b.toNat_lt
 have d24 : ((b.toNat : Int) == 24) = false := beq_eq_false_iff_ne.2 (by omega)
 have d26 : ((b.toNat : Int) == 26) = true := beq_iff_eq.2 (by omega)
 clear h
 go_enter Tryz.func71, Tryz.ntmps71
 go_wp2
 exact bodyPost_ret (v := .tuple #[.agg #[.int .i64 0, .int .u8 0, .slice none 0 0, .slice none 0 0, .slice none 0 0], .slice none 0 0]) (by simp [results, Tryz.results71, go_sem]) rfl ⟨_, _, rfl, prM_pv _ _ 0, AS.nil _ _ _, (two_new w _ _).1⟩
theorem stepr_27 (vp vi vu : Value) (p : Pr) (b : UInt8) (S : Nat → Prop) (w : World) (hp : SL vI w S vp p.params) (hi : SL vB w S vi p.inter) (hu : SL vB w S vu p.utf) (hS : ∀ x, S x → x < w.heap.size) (h : b.toNat = 27) :
  Calls Tryz.prog 71 #[.agg #[.int .i64 (p.mode : Int), .int .u8 (p.priv : Int), vp, vi, vu], .int .u8 (b.toNat : Int)] w (VtPost S (prM 1, []) w) := by
 have HP := Lib.hid hp
 have HI := Lib.hid hi
 have HU := Lib.hid hu
 have HSS := Lib.hid hS
 obtain ⟨Ap, cp, rfl, p1, p2⟩ := hp.form
 obtain ⟨Ai, ci, rfl, i1, i2⟩ := hi.form
 obtain ⟨Au, cu, rfl, u1, u2⟩ := hu.form
 clear hp hi hu hS
 have hb255 := b.toNat_lt
 have d24 : ((b.toNat : Int) == 24) = false := beq_eq_false_iff_ne.2 (by omega)
 have d26 : ((b.toNat : Int) == 26) = false := beq_eq_false_iff_ne.2 (by omega)
 have d27 : ((b.toNat : Int) == 27) = true := beq_iff_eq.2 (by omega)
 clear h
 go_enter Tryz.func71, Tryz.ntmps71
 go_wp2
 exact bodyPost_ret (v := .tuple #[.agg #[.int .i64 1, .int .u8 0, .slice none 0 0, .slice none 0 0, .slice none 0 0], .slice none 0 0]) (by simp [results, Tryz.results71, go_sem]) rfl ⟨_, _, rfl, prM_pv _ _ 1, AS.nil _ _ _, (two_new w _ _).1⟩
theorem stepr_g1 (vp vi vu : Value) (p : Pr) (b : UInt8) (S : Nat → Prop) (w : World) (hp : SL vI w S vp p.params) (hi : SL vB w S vi p.inter) (hu : SL vB w S vu p.utf) (hS : ∀ x, S x → x < w.heap.size) (h24 : b.toNat ≠ 24) (h26 : b.toNat ≠ 26) (h27 : b.toNat ≠ 27) (hm : p.mode = 0) (h : b.toNat < 32) :
  Calls Tryz.prog 71 #[.agg #[.int .i64 (p.mode : Int), .int .u8 (p.priv : Int), vp, vi, vu], .int .u8 (b.toNat : Int)] w (VtPost S (prM 0, [acC b.toNat]) w) := by
 have HP := Lib.hid hp
 have HI := Lib.hid hi
 have HU := Lib.hid hu
 have HSS := Lib.hid hS
 obtain ⟨Ap, cp, rfl, p1, p2⟩ := hp.form
 obtain ⟨Ai, ci, rfl, i1, i2⟩ := hi.form
 obtain ⟨Au, cu, rfl, u1, u2⟩ := hu.form
 clear hp hi hu hS
 have hb255 := b.toNat_lt
 have d24 : ((b.toNat : Int) == 24) = false := beq_eq_false_iff_ne.2 (by omega)
 have d26 : ((b.toNat : Int) == 26) = false := beq_eq_false_iff_ne.2 (by omega)
 have d27 : ((b.toNat : Int) == 27) = false := beq_eq_false_iff_ne.2 (by omega)
 have m0 : ((p.mode : Int) == 0) = true := beq_iff_eq.2 (by omega)
 have l32 : (b.toNat : Int) < 32 := by omega
 clear h24 h26 h27 hm
 go_enter Tryz.func71, Tryz.ntmps71
 go_wp2
 exact bodyPost_ret (v := .tuple #[.agg #[.int .i64 0, .int .u8 0, .slice none 0 0, .slice none 0 0, .slice none 0 0], .slice (some ⟨w.heap.size + 1 + 1, 0, none⟩) 1 1]) (by simp [results, Tryz.results71, go_sem]) rfl ⟨_, _, rfl, prM_pv _ _ 0, act_new0 (two_new w _ _).1 HSS.out (acC b.toNat) _ _ _ _ (by simp) (SL.nil _ _ _) (SL.nil _ _ _) _ rfl, (two_new w _ _).1.alloc (by simp; omega) _⟩
theorem stepr_g2 (vp vi vu : Value) (p : Pr) (b : UInt8) (S : Nat → Prop) (w : World) (hp : SL vI w S vp p.params) (hi : SL vB w S vi p.inter) (hu : SL vB w S vu p.utf) (hS : ∀ x, S x → x < w.heap.size) (h24 : b.toNat ≠ 24) (h26 : b.toNat ≠ 26) (h27 : b.toNat ≠ 27) (hm : p.mode = 0) (h : b.toNat = 127) :
  Calls Tryz.prog 71 #[.agg #[.int .i64 (p.mode : Int), .int .u8 (p.priv : Int), vp, vi, vu], .int .u8 (b.toNat : Int)] w (VtPost S (prM 0, []) w) := by
 have HP := Lib.hid hp
 have HI := Lib.hid hi
 have HU := Lib.hid hu
 have HSS := Lib.hid hS
 obtain ⟨Ap, cp, rfl, p1, p2⟩ := hp.form
 obtain ⟨Ai, ci, rfl, i1, i2⟩ := hi.form
 obtain ⟨Au, cu, rfl, u1, u2⟩ := hu.form
 clear hp hi hu hS
 have hb255 := b.toNat_lt
 have d24 : ((b.toNat : Int) == 24) = false := beq_eq_false_iff_ne.2 (by omega)
 have d26 : ((b.toNat : Int) == 26) = false := beq_eq_false_iff_ne.2 (by omega)
 have d27 : ((b.toNat : Int) == 27) = false := beq_eq_false_iff_ne.2 (by omega)
 have m0 : ((p.mode : Int) == 0) = true := beq_iff_eq.2 (by omega)
 have l32 : decide ((b.toNat : Int) < 32) = false := by simp; omega
 have d127 : ((b.toNat : Int) == 127) = true := beq_iff_eq.2 (by omega)
 clear h24 h26 h27 hm h
 go_enter Tryz.func71, Tryz.ntmps71
 go_wp2
 exact bodyPost_ret (v := .tuple #[.agg #[.int .i64 0, .int .u8 0, .slice none 0 0, .slice none 0 0, .slice none 0 0], .slice none 0 0]) (by simp [results, Tryz.results71, go_sem]) rfl ⟨_, _, rfl, prM_pv _ _ 0, AS.nil _ _ _, (two_new w _ _).1⟩
theorem stepr_s1 (vp vi vu : Value) (p : Pr) (b : UInt8) (S : Nat → Prop) (w : World) (hp : SL vI w S vp p.params) (hi : SL vB w S vi p.inter) (hu : SL vB w S vu p.utf) (hS : ∀ x, S x → x < w.heap.size) (h24 : b.toNat ≠ 24) (h26 : b.toNat ≠ 26) (h27 : b.toNat ≠ 27) (hm : p.mode = 7) (h : b.toNat = 7) :
  Calls Tryz.prog 71 #[.agg #[.int .i64 (p.mode : Int), .int .u8 (p.priv : Int), vp, vi, vu], .int .u8 (b.toNat : Int)] w (VtPost S (prM 0, []) w) := by
 have HP := Lib.hid hp
 have HI := Lib.hid hi
 have HU := Lib.hid hu
 have HSS := Lib.hid hS
 obtain ⟨Ap, cp, rfl, p1, p2⟩ := hp.form
 obtain ⟨Ai, ci, rfl, i1, i2⟩ := hi.form
 obtain ⟨Au, cu, rfl, u1, u2⟩ := hu.form
 clear hp hi hu hS
 have hb255 := b.toNat_lt
 have d24 : ((b.toNat : Int) == 24) = false := beq_eq_false_iff_ne.2 (by omega)
 have d26 : ((b.toNat : Int) == 26) = false := beq_eq_false_iff_ne.2 (by omega)
 have d27 : ((b.toNat : Int) == 27) = false := beq_eq_false_iff_ne.2 (by omega)
 have m0 : ((p.mode : Int) == 0) = false := beq_eq_false_iff_ne.2 (by omega)
 have m7 : ((p.mode : Int) == 7) = true := beq_iff_eq.2 (by omega)
 have d7 : ((b.toNat : Int) == 7) = true := beq_iff_eq.2 (by omega)
 clear h24 h26 h27 hm h
 go_enter Tryz.func71, Tryz.ntmps71
 go_wp2
 exact bodyPost_ret (v := .tuple #[.agg #[.int .i64 0, .int .u8 0, .slice none 0 0, .slice none 0 0, .slice none 0 0], .slice none 0 0]) (by simp [results, Tryz.results71, go_sem]) rfl ⟨_, _, rfl, prM_pv _ _ 0, AS.nil _ _ _, (two_new w _ _).1⟩
theorem stepr_s2 (vp vi vu : Value) (p : Pr) (b : UInt8) (S : Nat → Prop) (w : World) (hp : SL vI w S vp p.params) (hi : SL vB w S vi p.inter) (hu : SL vB w S vu p.utf) (hS : ∀ x, S x → x < w.heap.size) (h24 : b.toNat ≠ 24) (h26 : b.toNat ≠ 26) (h27 : b.toNat ≠ 27) (hm : p.mode = 7) (h : b.toNat ≠ 7) :
  Calls Tryz.prog 71 #[.agg #[.int .i64 (p.mode : Int), .int .u8 (p.priv : Int), vp, vi, vu], .int .u8 (b.toNat : Int)] w (VtPost S (p, []) w) := by
 have HP := Lib.hid hp
 have HI := Lib.hid hi
 have HU := Lib.hid hu
 have HSS := Lib.hid hS
 obtain ⟨Ap, cp, rfl, p1, p2⟩ := hp.form
 obtain ⟨Ai, ci, rfl, i1, i2⟩ := hi.form
 obtain ⟨Au, cu, rfl, u1, u2⟩ := hu.form
 clear hp hi hu hS
 have hb255 := b.toNat_lt
 have d24 : ((b.toNat : Int) == 24) = false := beq_eq_false_iff_ne.2 (by omega)
 have d26 : ((b.toNat : Int) == 26) = false := beq_eq_false_iff_ne.2 (by omega)
 have d27 : ((b.toNat : Int) == 27) = false := beq_eq_false_iff_ne.2 (by omega)
 have m0 : ((p.mode : Int) == 0) = false := beq_eq_false_iff_ne.2 (by omega)
 have m7 : ((p.mode : Int) == 7) = true := beq_iff_eq.2 (by omega)
 have d7 : ((b.toNat : Int) == 7) = false := beq_eq_false_iff_ne.2 (by omega)
 clear h24 h26 h27 hm h
 go_enter Tryz.func71, Tryz.ntmps71
 go_wp2
 exact bodyPost_ret (v := .tuple #[.agg (vPq p Ap Ai Au cp ci cu), .slice none 0 0]) (by simp [results, Tryz.results71, go_sem]) rfl ⟨_, _, rfl, ⟨_, _, _, rfl, sl_old (two_new w _ _).1 HSS.out HP.out, sl_old (two_new w _ _).1 HSS.out HI.out, sl_old (two_new w _ _).1 HSS.out HU.out⟩, AS.nil _ _ _, (two_new w _ _).1⟩
theorem stepr_c1 (vp vi vu : Value) (p : Pr) (b : UInt8) (S : Nat → Prop) (w : World) (hp : SL vI w S vp p.params) (hi : SL vB w S vi p.inter) (hu : SL vB w S vu p.utf) (hS : ∀ x, S x → x < w.heap.size) (h24 : b.toNat ≠ 24) (h26 : b.toNat ≠ 26) (h27 : b.toNat ≠ 27) (hm0 : p.mode ≠ 0) (hm7 : p.mode ≠ 7) (h : b.toNat < 32) :
  Calls Tryz.prog 71 #[.agg #[.int .i64 (p.mode : Int), .int .u8 (p.priv : Int), vp, vi, vu], .int .u8 (b.toNat : Int)] w (VtPost S (p, [acC b.toNat]) w) := by
 have HP := Lib.hid hp
 have HI := Lib.hid hi
 have HU := Lib.hid hu
 have HSS := Lib.hid hS
 obtain ⟨Ap, cp, rfl, p1, p2⟩ := hp.form
 obtain ⟨Ai, ci, rfl, i1, i2⟩ := hi.form
 obtain ⟨Au, cu, rfl, u1, u2⟩ := hu.form
 clear hp hi hu hS
 have hb255 := b.toNat_lt
 have d24 : ((b.toNat : Int) == 24) = false := beq_eq_false_iff_ne.2 (by omega)
 have d26 : ((b.toNat : Int) == 26) = false := beq_eq_false_iff_ne.2 (by omega)
 have d27 : ((b.toNat : Int) == 27) = false := beq_eq_false_iff_ne.2 (by omega)
 have m0 : ((p.mode : Int) == 0) = false := beq_eq_false_iff_ne.2 (by omega)
 have m7 : ((p.mode : Int) == 7) = false := beq_eq_false_iff_ne.2 (by omega)
 have l32 : (b.toNat : Int) < 32 := by omega
 clear h24 h26 h27 hm0 hm7
 go_enter Tryz.func71, Tryz.ntmps71
 go_wp2
 exact bodyPost_ret (v := .tuple #[.agg (vPq p Ap Ai Au cp ci cu), .slice (some ⟨w.heap.size + 1 + 1, 0, none⟩) 1 1]) (by simp [results, Tryz.results71, go_sem]) rfl ⟨_, _, rfl, ⟨_, _, _, rfl, sl_old ((two_new w _ _).1.alloc (by simp; omega) _) HSS.out HP.out, sl_old ((two_new w _ _).1.alloc (by simp; omega) _) HSS.out HI.out, sl_old ((two_new w _ _).1.alloc (by simp; omega) _) HSS.out HU.out⟩, act_new0 (two_new w _ _).1 HSS.out (acC b.toNat) _ _ _ _ (by simp) (SL.nil _ _ _) (SL.nil _ _ _) _ rfl, (two_new w _ _).1.alloc (by simp; omega) _⟩
theorem stepr_c2 (vp vi vu : Value) (p : Pr) (b : UInt8) (S : Nat → Prop) (w : World) (hp : SL vI w S vp p.params) (hi : SL vB w S vi p.inter) (hu : SL vB w S vu p.utf) (hS : ∀ x, S x → x < w.heap.size) (h24 : b.toNat ≠ 24) (h26 : b.toNat ≠ 26) (h27 : b.toNat ≠ 27) (hm0 : p.mode ≠ 0) (hm7 : p.mode ≠ 7) (h : b.toNat = 127) :
  Calls Tryz.prog 71 #[.agg #[.int .i64 (p.mode : Int), .int .u8 (p.priv : Int), vp, vi, vu], .int .u8 (b.toNat : Int)] w (VtPost S (p, []) w) := by
 have HP := Lib.hid hp
 have HI := Lib.hid hi
 have HU := Lib.hid hu
 have HSS := Lib.hid hS
 obtain ⟨Ap, cp, rfl, p1, p2⟩ := hp.form
 obtain ⟨Ai, ci, rfl, i1, i2⟩ := hi.form
 obtain ⟨Au, cu, rfl, u1, u2⟩ := hu.form
 clear hp hi hu hS
 have hb255 := b.toNat_lt
 have d24 : ((b.toNat : Int) == 24) = false := beq_eq_false_iff_ne.2 (by omega)
 have d26 : ((b.toNat : Int) == 26) = false := beq_eq_false_iff_ne.2 (by omega)
 have d27 : ((b.toNat : Int) == 27) = false := beq_eq_false_iff_ne.2 (by omega)
 have m0 : ((p.mode : Int) == 0) = false := beq_eq_false_iff_ne.2 (by omega)
 have m7 : ((p.mode : Int) == 7) = false := beq_eq_false_iff_ne.2 (by omega)
 have l32 : decide ((b.toNat : Int) < 32) = false := by simp; omega
 have d127 : ((b.toNat : Int) == 127) = true := beq_iff_eq.2 (by omega)
 clear h24 h26 h27 hm0 hm7 h
 go_enter Tryz.func71, Tryz.ntmps71
 go_wp2
 exact bodyPost_ret (v := .tuple #[.agg (vPq p Ap Ai Au cp ci cu), .slice none 0 0]) (by simp [results, Tryz.results71, go_sem]) rfl ⟨_, _, rfl, ⟨_, _, _, rfl, sl_old (two_new w _ _).1 HSS.out HP.out, sl_old (two_new w _ _).1 HSS.out HI.out, sl_old (two_new w _ _).1 HSS.out HU.out⟩, AS.nil _ _ _, (two_new w _ _).1⟩
theorem stepr_c3 (vp vi vu : Value) (p : Pr) (b : UInt8) (S : Nat → Prop) (w : World) (hp : SL vI w S vp p.params) (hi : SL vB w S vi p.inter) (hu : SL vB w S vu p.utf) (hS : ∀ x, S x → x < w.heap.size) (h24 : b.toNat ≠ 24) (h26 : b.toNat ≠ 26) (h27 : b.toNat ≠ 27) (hm0 : p.mode ≠ 0) (hm7 : p.mode ≠ 7) (h : 128 ≤ b.toNat) :
  Calls Tryz.prog 71 #[.agg #[.int .i64 (p.mode : Int), .int .u8 (p.priv : Int), vp, vi, vu], .int .u8 (b.toNat : Int)] w (VtPost S (prM 0, []) w) := by
 have HP := Lib.hid hp
 have HI := Lib.hid hi
 have HU := Lib.hid hu
 have HSS := Lib.hid hS
 obtain ⟨Ap, cp, rfl, p1, p2⟩ := hp.form
 obtain ⟨Ai, ci, rfl, i1, i2⟩ := hi.form
 obtain ⟨Au, cu, rfl, u1, u2⟩ := hu.form
 clear hp hi hu hS
 have hb255 := b.toNat_lt
 have d24 : ((b.toNat : Int) == 24) = false := beq_eq_false_iff_ne.2 (by omega)
 have d26 : ((b.toNat : Int) == 26) = false := beq_eq_false_iff_ne.2 (by omega)
 have d27 : ((b.toNat : Int) == 27) = false := beq_eq_false_iff_ne.2 (by omega)
 have m0 : ((p.mode : Int) == 0) = false := beq_eq_false_iff_ne.2 (by omega)
 have m7 : ((p.mode : Int) == 7) = false := beq_eq_false_iff_ne.2 (by omega)
 have l32 : decide ((b.toNat : Int) < 32) = false := by simp; omega
 have d127 : ((b.toNat : Int) == 127) = false := beq_eq_false_iff_ne.2 (by omega)
 have g128 : (128 : Int) ≤ (b.toNat : Int) := by omega
 clear h24 h26 h27 hm0 hm7
 go_enter Tryz.func71, Tryz.ntmps71
 go_wp2
 exact bodyPost_ret (v := .tuple #[.agg #[.int .i64 0, .int .u8 0, .slice none 0 0, .slice none 0 0, .slice none 0 0], .slice none 0 0]) (by simp [results, Tryz.results71, go_sem]) rfl ⟨_, _, rfl, prM_pv _ _ 0, AS.nil _ _ _, (two_new w _ _).1⟩
theorem stepr_e1 (vp vi vu : Value) (p : Pr) (b : UInt8) (S : Nat → Prop) (w : World) (hp : SL vI w S vp p.params) (hi : SL vB w S vi p.inter) (hu : SL vB w S vu p.utf) (hS : ∀ x, S x → x < w.heap.size) (h24 : b.toNat ≠ 24) (h26 : b.toNat ≠ 26) (h27 : b.toNat ≠ 27) (hm0 : p.mode ≠ 0) (hm7 : p.mode ≠ 7) (hb0 : 32 ≤ b.toNat) (hb1 : b.toNat < 127) (hm : p.mode = 1) (hB : interB b = true) :
  Calls Tryz.prog 71 #[.agg #[.int .i64 (p.mode : Int), .int .u8 (p.priv : Int), vp, vi, vu], .int .u8 (b.toNat : Int)] w (VtPost S ({ prM 2 with inter := [b] }, []) w) := by
 have HP := Lib.hid hp
 have HI := Lib.hid hi
 have HU := Lib.hid hu
 have HSS := Lib.hid hS
 obtain ⟨Ap, cp, rfl, p1, p2⟩ := hp.form
 obtain ⟨Ai, ci, rfl, i1, i2⟩ := hi.form
 obtain ⟨Au, cu, rfl, u1, u2⟩ := hu.form
 clear hp hi hu hS
 have hb255 := b.toNat_lt
 have d24 : ((b.toNat : Int) == 24) = false := beq_eq_false_iff_ne.2 (by omega)
 have d26 : ((b.toNat : Int) == 26) = false := beq_eq_false_iff_ne.2 (by omega)
 have d27 : ((b.toNat : Int) == 27) = false := beq_eq_false_iff_ne.2 (by omega)
 have m0 : ((p.mode : Int) == 0) = false := beq_eq_false_iff_ne.2 (by omega)
 have m7 : ((p.mode : Int) == 7) = false := beq_eq_false_iff_ne.2 (by omega)
 have l32 : decide ((b.toNat : Int) < 32) = false := by simp; omega
 have d127 : ((b.toNat : Int) == 127) = false := beq_eq_false_iff_ne.2 (by omega)
 have g128 : decide ((128 : Int) ≤ (b.toNat : Int)) = false := by simp; omega
 have m1 : ((p.mode : Int) == 1) = true := beq_iff_eq.2 (by omega)
 have HIB := Lib.hid hB
 clear hB
 clear h24 h26 h27 hm0 hm7 hm
 go_enter Tryz.func71, Tryz.ntmps71
 go_wp2_with (go_at_call 88; refine (interr_any b _).mono ?_; rintro e w' ⟨rfl, rfl⟩; rw [HIB.out])
 exact bodyPost_ret (v := .tuple #[.agg #[.int .i64 2, .int .u8 0, .slice none 0 0, .slice (some ⟨w.heap.size + 1 + 1, 0, none⟩) 1 1, .slice none 0 0], .slice none 0 0]) (by simp [results, Tryz.results71, go_sem]) rfl ⟨_, _, rfl, ⟨_, _, _, rfl, SL.nil _ _ _, byte_new (two_new w _ _).1 b _ _ (by simp), SL.nil _ _ _⟩, AS.nil _ _ _, (two_new w _ _).1.alloc (by simp; omega) _⟩
theorem stepr_e2 (vp vi vu : Value) (p : Pr) (b : UInt8) (S : Nat → Prop) (w : World) (hp : SL vI w S vp p.params) (hi : SL vB w S vi p.inter) (hu : SL vB w S vu p.utf) (hS : ∀ x, S x → x < w.heap.size) (h24 : b.toNat ≠ 24) (h26 : b.toNat ≠ 26) (h27 : b.toNat ≠ 27) (hm0 : p.mode ≠ 0) (hm7 : p.mode ≠ 7) (hb0 : 32 ≤ b.toNat) (hb1 : b.toNat < 127) (hm : p.mode = 1) (hB : interB b = false) (h : b.toNat = 91) :
  Calls Tryz.prog 71 #[.agg #[.int .i64 (p.mode : Int), .int .u8 (p.priv : Int), vp, vi, vu], .int .u8 (b.toNat : Int)] w (VtPost S (prM 4, []) w) := by
 have HP := Lib.hid hp
 have HI := Lib.hid hi
 have HU := Lib.hid hu
 have HSS := Lib.hid hS
 obtain ⟨Ap, cp, rfl, p1, p2⟩ := hp.form
 obtain ⟨Ai, ci, rfl, i1, i2⟩ := hi.form
 obtain ⟨Au, cu, rfl, u1, u2⟩ := hu.form
 clear hp hi hu hS
 have hb255 := b.toNat_lt
 have d24 : ((b.toNat : Int) == 24) = false := beq_eq_false_iff_ne.2 (by omega)
 have d26 : ((b.toNat : Int) == 26) = false := beq_eq_false_iff_ne.2 (by omega)
 have d27 : ((b.toNat : Int) == 27) = false := beq_eq_false_iff_ne.2 (by omega)
 have m0 : ((p.mode : Int) == 0) = false := beq_eq_false_iff_ne.2 (by omega)
 have m7 : ((p.mode : Int) == 7) = false := beq_eq_false_iff_ne.2 (by omega)
 have l32 : decide ((b.toNat : Int) < 32) = false := by simp; omega
 have d127 : ((b.toNat : Int) == 127) = false := beq_eq_false_iff_ne.2 (by omega)
 have g128 : decide ((128 : Int) ≤ (b.toNat : Int)) = false := by simp; omega
 have m1 : ((p.mode : Int) == 1) = true := beq_iff_eq.2 (by omega)
 have HIB := Lib.hid hB
 clear hB
 have d91 : ((b.toNat : Int) == 91) = true := beq_iff_eq.2 (by omega)
 clear h24 h26 h27 hm0 hm7 hm h
 go_enter Tryz.func71, Tryz.ntmps71
 go_wp2_with (go_at_call 88; refine (interr_any b _).mono ?_; rintro e w' ⟨rfl, rfl⟩; rw [HIB.out])
 exact bodyPost_ret (v := .tuple #[.agg #[.int .i64 4, .int .u8 0, .slice none 0 0, .slice none 0 0, .slice none 0 0], .slice none 0 0]) (by simp [results, Tryz.results71, go_sem]) rfl ⟨_, _, rfl, prM_pv _ _ 4, AS.nil _ _ _, (two_new w _ _).1⟩
theorem stepr_e3_93 (vp vi vu : Value) (p : Pr) (b : UInt8) (S : Nat → Prop) (w : World) (hp : SL vI w S vp p.params) (hi : SL vB w S vi p.inter) (hu : SL vB w S vu p.utf) (hS : ∀ x, S x → x < w.heap.size) (h24 : b.toNat ≠ 24) (h26 : b.toNat ≠ 26) (h27 : b.toNat ≠ 27) (hm0 : p.mode ≠ 0) (hm7 : p.mode ≠ 7) (hb0 : 32 ≤ b.toNat) (hb1 : b.toNat < 127) (hm : p.mode = 1) (hB : interB b = false) (h : b.toNat = 93) :
  Calls Tryz.prog 71 #[.agg #[.int .i64 (p.mode : Int), .int .u8 (p.priv : Int), vp, vi, vu], .int .u8 (b.toNat : Int)] w (VtPost S (prM 7, []) w) := by
 have HP := Lib.hid hp
 have HI := Lib.hid hi
 have HU := Lib.hid hu
 have HSS := Lib.hid hS
 obtain ⟨Ap, cp, rfl, p1, p2⟩ := hp.form
 obtain ⟨Ai, ci, rfl, i1, i2⟩ := hi.form
 obtain ⟨Au, cu, rfl, u1, u2⟩ := hu.form
 clear hp hi hu hS
 have hb255 := b.toNat_lt
 have d24 : ((b.toNat : Int) == 24) = false := beq_eq_false_iff_ne.2 (by omega)
 have d26 : ((b.toNat : Int) == 26) = false := beq_eq_false_iff_ne.2 (by omega)
 have d27 : ((b.toNat : Int) == 27) = false := beq_eq_false_iff_ne.2 (by omega)
 have m0 : ((p.mode : Int) == 0) = false := beq_eq_false_iff_ne.2 (by omega)
 have m7 : ((p.mode : Int) == 7) = false := beq_eq_false_iff_ne.2 (by omega)
 have l32 : decide ((b.toNat : Int) < 32) = false := by simp; omega
 have d127 : ((b.toNat : Int) == 127) = false := beq_eq_false_iff_ne.2 (by omega)
 have g128 : decide ((128 : Int) ≤ (b.toNat : Int)) = false := by simp; omega
 have m1 : ((p.mode : Int) == 1) = true := beq_iff_eq.2 (by omega)
 have HIB := Lib.hid hB
 clear hB
 have d91 : ((b.toNat : Int) == 91) = false := beq_eq_false_iff_ne.2 (by omega)
 have d93 : ((b.toNat : Int) == 93) = true := beq_iff_eq.2 (by omega)
 clear h24 h26 h27 hm0 hm7 hm h
 go_enter Tryz.func71, Tryz.ntmps71
 go_wp2_with (go_at_call 88; refine (interr_any b _).mono ?_; rintro e w' ⟨rfl, rfl⟩; rw [HIB.out])
 exact bodyPost_ret (v := .tuple #[.agg #[.int .i64 7, .int .u8 0, .slice none 0 0, .slice none 0 0, .slice none 0 0], .slice none 0 0]) (by simp [results, Tryz.results71, go_sem]) rfl ⟨_, _, rfl, prM_pv _ _ 7, AS.nil _ _ _, (two_new w _ _).1⟩
theorem stepr_e3_80 (vp vi vu : Value) (p : Pr) (b : UInt8) (S : Nat → Prop) (w : World) (hp : SL vI w S vp p.params) (hi : SL vB w S vi p.inter) (hu : SL vB w S vu p.utf) (hS : ∀ x, S x → x < w.heap.size) (h24 : b.toNat ≠ 24) (h26 : b.toNat ≠ 26) (h27 : b.toNat ≠ 27) (hm0 : p.mode ≠ 0) (hm7 : p.mode ≠ 7) (hb0 : 32 ≤ b.toNat) (hb1 : b.toNat < 127) (hm : p.mode = 1) (hB : interB b = false) (h : b.toNat = 80) :
  Calls Tryz.prog 71 #[.agg #[.int .i64 (p.mode : Int), .int .u8 (p.priv : Int), vp, vi, vu], .int .u8 (b.toNat : Int)] w (VtPost S (prM 7, []) w) := by
 have HP := Lib.hid hp
 have HI := Lib.hid hi
 have HU := Lib.hid hu
 have HSS := Lib.hid hS
 obtain ⟨Ap, cp, rfl, p1, p2⟩ := hp.form
 obtain ⟨Ai, ci, rfl, i1, i2⟩ := hi.form
 obtain ⟨Au, cu, rfl, u1, u2⟩ := hu.form
 clear hp hi hu hS
 have hb255 := b.toNat_lt
 have d24 : ((b.toNat : Int) == 24) = false := beq_eq_false_iff_ne.2 (by omega)
 have d26 : ((b.toNat : Int) == 26) = false := beq_eq_false_iff_ne.2 (by omega)
 have d27 : ((b.toNat : Int) == 27) = false := beq_eq_false_iff_ne.2 (by omega)
 have m0 : ((p.mode : Int) == 0) = false := beq_eq_false_iff_ne.2 (by omega)
 have m7 : ((p.mode : Int) == 7) = false := beq_eq_false_iff_ne.2 (by omega)
 have l32 : decide ((b.toNat : Int) < 32) = false := by simp; omega
 have d127 : ((b.toNat : Int) == 127) = false := beq_eq_false_iff_ne.2 (by omega)
 have g128 : decide ((128 : Int) ≤ (b.toNat : Int)) = false := by simp; omega
 have m1 : ((p.mode : Int) == 1) = true := beq_iff_eq.2 (by omega)
 have HIB := Lib.hid hB
 clear hB
 have d91 : ((b.toNat : Int) == 91) = false := beq_eq_false_iff_ne.2 (by omega)
 have d93 : ((b.toNat : Int) == 93) = false := beq_eq_false_iff_ne.2 (by omega)
 have d80 : ((b.toNat : Int) == 80) = true := beq_iff_eq.2 (by omega)
 clear h24 h26 h27 hm0 hm7 hm h
 go_enter Tryz.func71, Tryz.ntmps71
 go_wp2_with (go_at_call 88; refine (interr_any b _).mono ?_; rintro e w' ⟨rfl, rfl⟩; rw [HIB.out])
 exact bodyPost_ret (v := .tuple #[.agg #[.int .i64 7, .int .u8 0, .slice none 0 0, .slice none 0 0, .slice none 0 0], .slice none 0 0]) (by simp [results, Tryz.results71, go_sem]) rfl ⟨_, _, rfl, prM_pv _ _ 7, AS.nil _ _ _, (two_new w _ _).1⟩
theorem stepr_e3_88 (vp vi vu : Value) (p : Pr) (b : UInt8) (S : Nat → Prop) (w : World) (hp : SL vI w S vp p.params) (hi : SL vB w S vi p.inter) (hu : SL vB w S vu p.utf) (hS : ∀ x, S x → x < w.heap.size) (h24 : b.toNat ≠ 24) (h26 : b.toNat ≠ 26) (h27 : b.toNat ≠ 27) (hm0 : p.mode ≠ 0) (hm7 : p.mode ≠ 7) (hb0 : 32 ≤ b.toNat) (hb1 : b.toNat < 127) (hm : p.mode = 1) (hB : interB b = false) (h : b.toNat = 88) :
  Calls Tryz.prog 71 #[.agg #[.int .i64 (p.mode : Int), .int .u8 (p.priv : Int), vp, vi, vu], .int .u8 (b.toNat : Int)] w (VtPost S (prM 7, []) w) := by
 have HP := Lib.hid hp
 have HI := Lib.hid hi
 have HU := Lib.hid hu
 have HSS := Lib.hid hS
 obtain ⟨Ap, cp, rfl, p1, p2⟩ := hp.form
 obtain ⟨Ai, ci, rfl, i1, i2⟩ := hi.form
 obtain ⟨Au, cu, rfl, u1, u2⟩ := hu.form
 clear hp hi hu hS
 have hb255 := b.toNat_lt
 have d24 : ((b.toNat : Int) == 24) = false := beq_eq_false_iff_ne.2 (by omega)
 have d26 : ((b.toNat : Int) == 26) = false := beq_eq_false_iff_ne.2 (by omega)
 have d27 : ((b.toNat : Int) == 27) = false := beq_eq_false_iff_ne.2 (by omega)
 have m0 : ((p.mode : Int) == 0) = false := beq_eq_false_iff_ne.2 (by omega)
 have m7 : ((p.mode : Int) == 7) = false := beq_eq_false_iff_ne.2 (by omega)
 have l32 : decide ((b.toNat : Int) < 32) = false := by simp; omega
 have d127 : ((b.toNat : Int) == 127) = false := beq_eq_false_iff_ne.2 (by omega)
 have g128 : decide ((128 : Int) ≤ (b.toNat : Int)) = false := by simp; omega
 have m1 : ((p.mode : Int) == 1) = true := beq_iff_eq.2 (by omega)
 have HIB := Lib.hid hB
 clear hB
 have d91 : ((b.toNat : Int) == 91) = false := beq_eq_false_iff_ne.2 (by omega)
 have d93 : ((b.toNat : Int) == 93) = false := beq_eq_false_iff_ne.2 (by omega)
 have d80 : ((b.toNat : Int) == 80) = false := beq_eq_false_iff_ne.2 (by omega)
 have d88 : ((b.toNat : Int) == 88) = true := beq_iff_eq.2 (by omega)
 clear h24 h26 h27 hm0 hm7 hm h
 go_enter Tryz.func71, Tryz.ntmps71
 go_wp2_with (go_at_call 88; refine (interr_any b _).mono ?_; rintro e w' ⟨rfl, rfl⟩; rw [HIB.out])
 exact bodyPost_ret (v := .tuple #[.agg #[.int .i64 7, .int .u8 0, .slice none 0 0, .slice none 0 0, .slice none 0 0], .slice none 0 0]) (by simp [results, Tryz.results71, go_sem]) rfl ⟨_, _, rfl, prM_pv _ _ 7, AS.nil _ _ _, (two_new w _ _).1⟩
theorem stepr_e3_94 (vp vi vu : Value) (p : Pr) (b : UInt8) (S : Nat → Prop) (w : World) (hp : SL vI w S vp p.params) (hi : SL vB w S vi p.inter) (hu : SL vB w S vu p.utf) (hS : ∀ x, S x → x < w.heap.size) (h24 : b.toNat ≠ 24) (h26 : b.toNat ≠ 26) (h27 : b.toNat ≠ 27) (hm0 : p.mode ≠ 0) (hm7 : p.mode ≠ 7) (hb0 : 32 ≤ b.toNat) (hb1 : b.toNat < 127) (hm : p.mode = 1) (hB : interB b = false) (h : b.toNat = 94) :
  Calls Tryz.prog 71 #[.agg #[.int .i64 (p.mode : Int), .int .u8 (p.priv : Int), vp, vi, vu], .int .u8 (b.toNat : Int)] w (VtPost S (prM 7, []) w) := by
 have HP := Lib.hid hp
 have HI := Lib.hid hi
 have HU := Lib.hid hu
 have HSS := Lib.hid hS
 obtain ⟨Ap, cp, rfl, p1, p2⟩ := hp.form
 obtain ⟨Ai, ci, rfl, i1, i2⟩ := hi.form
 obtain ⟨Au, cu, rfl, u1, u2⟩ := hu.form
 clear hp hi hu hS
 have hb255 := b.toNat_lt
 have d24 : ((b.toNat : Int) == 24) = false := beq_eq_false_iff_ne.2 (by omega)
 have d26 : ((b.toNat : Int) == 26) = false := beq_eq_false_iff_ne.2 (by omega)
 have d27 : ((b.toNat : Int) == 27) = false := beq_eq_false_iff_ne.2 (by omega)
 have m0 : ((p.mode : Int) == 0) = false := beq_eq_false_iff_ne.2 (by omega)
 have m7 : ((p.mode : Int) == 7) = false := beq_eq_false_iff_ne.2 (by omega)
 have l32 : decide ((b.toNat : Int) < 32) = false := by simp; omega
 have d127 : ((b.toNat : Int) == 127) = false := beq_eq_false_iff_ne.2 (by omega)
 have g128 : decide ((128 : Int) ≤ (b.toNat : Int)) = false := by simp; omega
 have m1 : ((p.mode : Int) == 1) = true := beq_iff_eq.2 (by omega)
 have HIB := Lib.hid hB
 clear hB
 have d91 : ((b.toNat : Int) == 91) = false := beq_eq_false_iff_ne.2 (by omega)
 have d93 : ((b.toNat : Int) == 93) = false := beq_eq_false_iff_ne.2 (by omega)
 have d80 : ((b.toNat : Int) == 80) = false := beq_eq_false_iff_ne.2 (by omega)
 have d88 : ((b.toNat : Int) == 88) = false := beq_eq_false_iff_ne.2 (by omega)
 have d94 : ((b.toNat : Int) == 94) = true := beq_iff_eq.2 (by omega)
 clear h24 h26 h27 hm0 hm7 hm h
 go_enter Tryz.func71, Tryz.ntmps71
 go_wp2_with (go_at_call 88; refine (interr_any b _).mono ?_; rintro e w' ⟨rfl, rfl⟩; rw [HIB.out])
 exact bodyPost_ret (v := .tuple #[.agg #[.int .i64 7, .int .u8 0, .slice none 0 0, .slice none 0 0, .slice none 0 0], .slice none 0 0]) (by simp [results, Tryz.results71, go_sem]) rfl ⟨_, _, rfl, prM_pv _ _ 7, AS.nil _ _ _, (two_new w _ _).1⟩
theorem stepr_e3_95 (vp vi vu : Value) (p : Pr) (b : UInt8) (S : Nat → Prop) (w : World) (hp : SL vI w S vp p.params) (hi : SL vB w S vi p.inter) (hu : SL vB w S vu p.utf) (hS : ∀ x, S x → x < w.heap.size) (h24 : b.toNat ≠ 24) (h26 : b.toNat ≠ 26) (h27 : b.toNat ≠ 27) (hm0 : p.mode ≠ 0) (hm7 : p.mode ≠ 7) (hb0 : 32 ≤ b.toNat) (hb1 : b.toNat < 127) (hm : p.mode = 1) (hB : interB b = false) (h : b.toNat = 95) :
  Calls Tryz.prog 71 #[.agg #[.int .i64 (p.mode : Int), .int .u8 (p.priv : Int), vp, vi, vu], .int .u8 (b.toNat : Int)] w (VtPost S (prM 7, []) w) := by
 have HP := Lib.hid hp
 have HI := Lib.hid hi
 have HU := Lib.hid hu
 have HSS := Lib.hid hS
 obtain ⟨Ap, cp, rfl, p1, p2⟩ := hp.form
 obtain ⟨Ai, ci, rfl, i1, i2⟩ := hi.form
 obtain ⟨Au, cu, rfl, u1, u2⟩ := hu.form
 clear hp hi hu hS
 have hb255 := b.toNat_lt
 have d24 : ((b.toNat : Int) == 24) = false := beq_eq_false_iff_ne.2 (by omega)
 have d26 : ((b.toNat : Int) == 26) = false := beq_eq_false_iff_ne.2 (by omega)
 have d27 : ((b.toNat : Int) == 27) = false := beq_eq_false_iff_ne.2 (by omega)
 have m0 : ((p.mode : Int) == 0) = false := beq_eq_false_iff_ne.2 (by omega)
 have m7 : ((p.mode : Int) == 7) = false := beq_eq_false_iff_ne.2 (by omega)
 have l32 : decide ((b.toNat : Int) < 32) = false := by simp; omega
 have d127 : ((b.toNat : Int) == 127) = false := beq_eq_false_iff_ne.2 (by omega)
 have g128 : decide ((128 : Int) ≤ (b.toNat : Int)) = false := by simp; omega
 have m1 : ((p.mode : Int) == 1) = true := beq_iff_eq.2 (by omega)
 have HIB := Lib.hid hB
 clear hB
 have d91 : ((b.toNat : Int) == 91) = false := beq_eq_false_iff_ne.2 (by omega)
 have d93 : ((b.toNat : Int) == 93) = false := beq_eq_false_iff_ne.2 (by omega)
 have d80 : ((b.toNat : Int) == 80) = false := beq_eq_false_iff_ne.2 (by omega)
 have d88 : ((b.toNat : Int) == 88) = false := beq_eq_false_iff_ne.2 (by omega)
 have d94 : ((b.toNat : Int) == 94) = false := beq_eq_false_iff_ne.2 (by omega)
 have d95 : ((b.toNat : Int) == 95) = true := beq_iff_eq.2 (by omega)
 clear h24 h26 h27 hm0 hm7 hm h
 go_enter Tryz.func71, Tryz.ntmps71
 go_wp2_with (go_at_call 88; refine (interr_any b _).mono ?_; rintro e w' ⟨rfl, rfl⟩; rw [HIB.out])
 exact bodyPost_ret (v := .tuple #[.agg #[.int .i64 7, .int .u8 0, .slice none 0 0, .slice none 0 0, .slice none 0 0], .slice none 0 0]) (by simp [results, Tryz.results71, go_sem]) rfl ⟨_, _, rfl, prM_pv _ _ 7, AS.nil _ _ _, (two_new w _ _).1⟩
theorem stepr_e4 (vp vi vu : Value) (p : Pr) (b : UInt8) (S : Nat → Prop) (w : World) (hp : SL vI w S vp p.params) (hi : SL vB w S vi p.inter) (hu : SL vB w S vu p.utf) (hS : ∀ x, S x → x < w.heap.size) (h24 : b.toNat ≠ 24) (h26 : b.toNat ≠ 26) (h27 : b.toNat ≠ 27) (hm0 : p.mode ≠ 0) (hm7 : p.mode ≠ 7) (hb0 : 32 ≤ b.toNat) (hb1 : b.toNat < 127) (hm : p.mode = 1) (hB : interB b = false) (h91 : b.toNat ≠ 91) (h93 : b.toNat ≠ 93) (h80 : b.toNat ≠ 80) (h88 : b.toNat ≠ 88) (h94 : b.toNat ≠ 94) (h95 : b.toNat ≠ 95) :
  Calls Tryz.prog 71 #[.agg #[.int .i64 (p.mode : Int), .int .u8 (p.priv : Int), vp, vi, vu], .int .u8 (b.toNat : Int)] w (VtPost S (prM 0, [acE b.toNat []]) w) := by
 have HP := Lib.hid hp
 have HI := Lib.hid hi
 have HU := Lib.hid hu
 have HSS := Lib.hid hS
 obtain ⟨Ap, cp, rfl, p1, p2⟩ := hp.form
 obtain ⟨Ai, ci, rfl, i1, i2⟩ := hi.form
 obtain ⟨Au, cu, rfl, u1, u2⟩ := hu.form
 clear hp hi hu hS
 have hb255 := b.toNat_lt
 have d24 : ((b.toNat : Int) == 24) = false := beq_eq_false_iff_ne.2 (by omega)
 have d26 : ((b.toNat : Int) == 26) = false := beq_eq_false_iff_ne.2 (by omega)
 have d27 : ((b.toNat : Int) == 27) = false := beq_eq_false_iff_ne.2 (by omega)
 have m0 : ((p.mode : Int) == 0) = false := beq_eq_false_iff_ne.2 (by omega)
 have m7 : ((p.mode : Int) == 7) = false := beq_eq_false_iff_ne.2 (by omega)
 have l32 : decide ((b.toNat : Int) < 32) = false := by simp; omega
 have d127 : ((b.toNat : Int) == 127) = false := beq_eq_false_iff_ne.2 (by omega)
 have g128 : decide ((128 : Int) ≤ (b.toNat : Int)) = false := by simp; omega
 have m1 : ((p.mode : Int) == 1) = true := beq_iff_eq.2 (by omega)
 have HIB := Lib.hid hB
 clear hB
 have d91 : ((b.toNat : Int) == 91) = false := beq_eq_false_iff_ne.2 (by omega)
 have d93 : ((b.toNat : Int) == 93) = false := beq_eq_false_iff_ne.2 (by omega)
 have d80 : ((b.toNat : Int) == 80) = false := beq_eq_false_iff_ne.2 (by omega)
 have d88 : ((b.toNat : Int) == 88) = false := beq_eq_false_iff_ne.2 (by omega)
 have d94 : ((b.toNat : Int) == 94) = false := beq_eq_false_iff_ne.2 (by omega)
 have d95 : ((b.toNat : Int) == 95) = false := beq_eq_false_iff_ne.2 (by omega)
 clear h24 h26 h27 hm0 hm7 hm h91 h93 h80 h88 h94 h95
 go_enter Tryz.func71, Tryz.ntmps71
 go_wp2_with (go_at_call 88; refine (interr_any b _).mono ?_; rintro e w' ⟨rfl, rfl⟩; rw [HIB.out])
 exact bodyPost_ret (v := .tuple #[.agg #[.int .i64 0, .int .u8 0, .slice none 0 0, .slice none 0 0, .slice none 0 0], .slice (some ⟨w.heap.size + 1 + 1, 0, none⟩) 1 1]) (by simp [results, Tryz.results71, go_sem]) rfl ⟨_, _, rfl, prM_pv _ _ 0, act_new0 (two_new w _ _).1 HSS.out (acE b.toNat []) _ _ _ _ (by simp) (SL.nil _ _ _) (SL.nil _ _ _) _ rfl, (two_new w _ _).1.alloc (by simp; omega) _⟩
theorem stepr_x1 (vp vi vu : Value) (p : Pr) (b : UInt8) (S : Nat → Prop) (w : World) (hp : SL vI w S vp p.params) (hi : SL vB w S vi p.inter) (hu : SL vB w S vu p.utf) (hS : ∀ x, S x → x < w.heap.size) (h24 : b.toNat ≠ 24) (h26 : b.toNat ≠ 26) (h27 : b.toNat ≠ 27) (hm0 : p.mode ≠ 0) (hm7 : p.mode ≠ 7) (hb0 : 32 ≤ b.toNat) (hb1 : b.toNat < 127) (hm : p.mode = 3) (h : 48 ≤ b.toNat) :
  Calls Tryz.prog 71 #[.agg #[.int .i64 (p.mode : Int), .int .u8 (p.priv : Int), vp, vi, vu], .int .u8 (b.toNat : Int)] w (VtPost S (prM 0, []) w) := by
 have HP := Lib.hid hp
 have HI := Lib.hid hi
 have HU := Lib.hid hu
 have HSS := Lib.hid hS
 obtain ⟨Ap, cp, rfl, p1, p2⟩ := hp.form
 obtain ⟨Ai, ci, rfl, i1, i2⟩ := hi.form
 obtain ⟨Au, cu, rfl, u1, u2⟩ := hu.form
 clear hp hi hu hS
 have hb255 := b.toNat_lt
 have d24 : ((b.toNat : Int) == 24) = false := beq_eq_false_iff_ne.2 (by omega)
 have d26 : ((b.toNat : Int) == 26) = false := beq_eq_false_iff_ne.2 (by omega)
 have d27 : ((b.toNat : Int) == 27) = false := beq_eq_false_iff_ne.2 (by omega)
 have m0 : ((p.mode : Int) == 0) = false := beq_eq_false_iff_ne.2 (by omega)
 have m7 : ((p.mode : Int) == 7) = false := beq_eq_false_iff_ne.2 (by omega)
 have l32 : decide ((b.toNat : Int) < 32) = false := by simp; omega
 have d127 : ((b.toNat : Int) == 127) = false := beq_eq_false_iff_ne.2 (by omega)
 have g128 : decide ((128 : Int) ≤ (b.toNat : Int)) = false := by simp; omega
 have m1 : ((p.mode : Int) == 1) = false := beq_eq_false_iff_ne.2 (by omega)
 have m2 : ((p.mode : Int) == 2) = false := beq_eq_false_iff_ne.2 (by omega)
 have m3 : ((p.mode : Int) == 3) = true := beq_iff_eq.2 (by omega)
 have g48 : (48 : Int) ≤ (b.toNat : Int) := by omega
 clear h24 h26 h27 hm0 hm7 hm
 go_enter Tryz.func71, Tryz.ntmps71
 go_wp2
 exact bodyPost_ret (v := .tuple #[.agg #[.int .i64 0, .int .u8 0, .slice none 0 0, .slice none 0 0, .slice none 0 0], .slice none 0 0]) (by simp [results, Tryz.results71, go_sem]) rfl ⟨_, _, rfl, prM_pv _ _ 0, AS.nil _ _ _, (two_new w _ _).1⟩
theorem stepr_x2 (vp vi vu : Value) (p : Pr) (b : UInt8) (S : Nat → Prop) (w : World) (hp : SL vI w S vp p.params) (hi : SL vB w S vi p.inter) (hu : SL vB w S vu p.utf) (hS : ∀ x, S x → x < w.heap.size) (h24 : b.toNat ≠ 24) (h26 : b.toNat ≠ 26) (h27 : b.toNat ≠ 27) (hm0 : p.mode ≠ 0) (hm7 : p.mode ≠ 7) (hb0 : 32 ≤ b.toNat) (hb1 : b.toNat < 127) (hm : p.mode = 3) (h : ¬ 48 ≤ b.toNat) :
  Calls Tryz.prog 71 #[.agg #[.int .i64 (p.mode : Int), .int .u8 (p.priv : Int), vp, vi, vu], .int .u8 (b.toNat : Int)] w (VtPost S (p, []) w) := by
 have HP := Lib.hid hp
 have HI := Lib.hid hi
 have HU := Lib.hid hu
 have HSS := Lib.hid hS
 obtain ⟨Ap, cp, rfl, p1, p2⟩ := hp.form
 obtain ⟨Ai, ci, rfl, i1, i2⟩ := hi.form
 obtain ⟨Au, cu, rfl, u1, u2⟩ := hu.form
 clear hp hi hu hS
 have hb255 := b.toNat_lt
 have d24 : ((b.toNat : Int) == 24) = false := beq_eq_false_iff_ne.2 (by omega)
 have d26 : ((b.toNat : Int) == 26) = false := beq_eq_false_iff_ne.2 (by omega)
 have d27 : ((b.toNat : Int) == 27) = false := beq_eq_false_iff_ne.2 (by omega)
 have m0 : ((p.mode : Int) == 0) = false := beq_eq_false_iff_ne.2 (by omega)
 have m7 : ((p.mode : Int) == 7) = false := beq_eq_false_iff_ne.2 (by omega)
 have l32 : decide ((b.toNat : Int) < 32) = false := by simp; omega
 have d127 : ((b.toNat : Int) == 127) = false := beq_eq_false_iff_ne.2 (by omega)
 have g128 : decide ((128 : Int) ≤ (b.toNat : Int)) = false := by simp; omega
 have m1 : ((p.mode : Int) == 1) = false := beq_eq_false_iff_ne.2 (by omega)
 have m2 : ((p.mode : Int) == 2) = false := beq_eq_false_iff_ne.2 (by omega)
 have m3 : ((p.mode : Int) == 3) = true := beq_iff_eq.2 (by omega)
 have g48 : decide ((48 : Int) ≤ (b.toNat : Int)) = false := by simp; omega
 clear h24 h26 h27 hm0 hm7 hm
 go_enter Tryz.func71, Tryz.ntmps71
 go_wp2
 exact bodyPost_ret (v := .tuple #[.agg (vPq p Ap Ai Au cp ci cu), .slice none 0 0]) (by simp [results, Tryz.results71, go_sem]) rfl ⟨_, _, rfl, ⟨_, _, _, rfl, sl_old (two_new w _ _).1 HSS.out HP.out, sl_old (two_new w _ _).1 HSS.out HI.out, sl_old (two_new w _ _).1 HSS.out HU.out⟩, AS.nil _ _ _, (two_new w _ _).1⟩
theorem stepr_y1 (vp vi vu : Value) (p : Pr) (b : UInt8) (S : Nat → Prop) (w : World) (hp : SL vI w S vp p.params) (hi : SL vB w S vi p.inter) (hu : SL vB w S vu p.utf) (hS : ∀ x, S x → x < w.heap.size) (h24 : b.toNat ≠ 24) (h26 : b.toNat ≠ 26) (h27 : b.toNat ≠ 27) (hm0 : p.mode ≠ 0) (hm7 : p.mode ≠ 7) (hb0 : 32 ≤ b.toNat) (hb1 : b.toNat < 127) (hm : p.mode = 6) (h : 64 ≤ b.toNat) :
  Calls Tryz.prog 71 #[.agg #[.int .i64 (p.mode : Int), .int .u8 (p.priv : Int), vp, vi, vu], .int .u8 (b.toNat : Int)] w (VtPost S (prM 0, []) w) := by
 have HP := Lib.hid hp
 have HI := Lib.hid hi
 have HU := Lib.hid hu
 have HSS := Lib.hid hS
 obtain ⟨Ap, cp, rfl, p1, p2⟩ := hp.form
 obtain ⟨Ai, ci, rfl, i1, i2⟩ := hi.form
 obtain ⟨Au, cu, rfl, u1, u2⟩ := hu.form
 clear hp hi hu hS
 have hb255 := b.toNat_lt
 have d24 : ((b.toNat : Int) == 24) = false := beq_eq_false_iff_ne.2 (by omega)
 have d26 : ((b.toNat : Int) == 26) = false := beq_eq_false_iff_ne.2 (by omega)
 have d27 : ((b.toNat : Int) == 27) = false := beq_eq_false_iff_ne.2 (by omega)
 have m0 : ((p.mode : Int) == 0) = false := beq_eq_false_iff_ne.2 (by omega)
 have m7 : ((p.mode : Int) == 7) = false := beq_eq_false_iff_ne.2 (by omega)
 have l32 : decide ((b.toNat : Int) < 32) = false := by simp; omega
 have d127 : ((b.toNat : Int) == 127) = false := beq_eq_false_iff_ne.2 (by omega)
 have g128 : decide ((128 : Int) ≤ (b.toNat : Int)) = false := by simp; omega
 have m1 : ((p.mode : Int) == 1) = false := beq_eq_false_iff_ne.2 (by omega)
 have m2 : ((p.mode : Int) == 2) = false := beq_eq_false_iff_ne.2 (by omega)
 have m3 : ((p.mode : Int) == 3) = false := beq_eq_false_iff_ne.2 (by omega)
 have m6 : ((p.mode : Int) == 6) = true := beq_iff_eq.2 (by omega)
 have g64 : (64 : Int) ≤ (b.toNat : Int) := by omega
 clear h24 h26 h27 hm0 hm7 hm
 go_enter Tryz.func71, Tryz.ntmps71
 go_wp2
 exact bodyPost_ret (v := .tuple #[.agg #[.int .i64 0, .int .u8 0, .slice none 0 0, .slice none 0 0, .slice none 0 0], .slice none 0 0]) (by simp [results, Tryz.results71, go_sem]) rfl ⟨_, _, rfl, prM_pv _ _ 0, AS.nil _ _ _, (two_new w _ _).1⟩
theorem stepr_y2 (vp vi vu : Value) (p : Pr) (b : UInt8) (S : Nat → Prop) (w : World) (hp : SL vI w S vp p.params) (hi : SL vB w S vi p.inter) (hu : SL vB w S vu p.utf) (hS : ∀ x, S x → x < w.heap.size) (h24 : b.toNat ≠ 24) (h26 : b.toNat ≠ 26) (h27 : b.toNat ≠ 27) (hm0 : p.mode ≠ 0) (hm7 : p.mode ≠ 7) (hb0 : 32 ≤ b.toNat) (hb1 : b.toNat < 127) (hm : p.mode = 6) (h : ¬ 64 ≤ b.toNat) :
  Calls Tryz.prog 71 #[.agg #[.int .i64 (p.mode : Int), .int .u8 (p.priv : Int), vp, vi, vu], .int .u8 (b.toNat : Int)] w (VtPost S (p, []) w) := by
 have HP := Lib.hid hp
 have HI := Lib.hid hi
 have HU := Lib.hid hu
 have HSS := Lib.hid hS
 obtain ⟨Ap, cp, rfl, p1, p2⟩ := hp.form
 obtain ⟨Ai, ci, rfl, i1, i2⟩ := hi.form
 obtain ⟨Au, cu, rfl, u1, u2⟩ := hu.form
 clear hp hi hu hS
 have hb255 := b.toNat_lt
 have d24 : ((b.toNat : Int) == 24) = false := beq_eq_false_iff_ne.2 (by omega)
 have d26 : ((b.toNat : Int) == 26) = false := beq_eq_false_iff_ne.2 (by omega)
 have d27 : ((b.toNat : Int) == 27) = false := beq_eq_false_iff_ne.2 (by omega)
 have m0 : ((p.mode : Int) == 0) = false := beq_eq_false_iff_ne.2 (by omega)
 have m7 : ((p.mode : Int) == 7) = false := beq_eq_false_iff_ne.2 (by omega)
 have l32 : decide ((b.toNat : Int) < 32) = false := by simp; omega
 have d127 : ((b.toNat : Int) == 127) = false := beq_eq_false_iff_ne.2 (by omega)
 have g128 : decide ((128 : Int) ≤ (b.toNat : Int)) = false := by simp; omega
 have m1 : ((p.mode : Int) == 1) = false := beq_eq_false_iff_ne.2 (by omega)
 have m2 : ((p.mode : Int) == 2) = false := beq_eq_false_iff_ne.2 (by omega)
 have m3 : ((p.mode : Int) == 3) = false := beq_eq_false_iff_ne.2 (by omega)
 have m6 : ((p.mode : Int) == 6) = true := beq_iff_eq.2 (by omega)
 have g64 : decide ((64 : Int) ≤ (b.toNat : Int)) = false := by simp; omega
 clear h24 h26 h27 hm0 hm7 hm
 go_enter Tryz.func71, Tryz.ntmps71
 go_wp2
 exact bodyPost_ret (v := .tuple #[.agg (vPq p Ap Ai Au cp ci cu), .slice none 0 0]) (by simp [results, Tryz.results71, go_sem]) rfl ⟨_, _, rfl, ⟨_, _, _, rfl, sl_old (two_new w _ _).1 HSS.out HP.out, sl_old (two_new w _ _).1 HSS.out HI.out, sl_old (two_new w _ _).1 HSS.out HU.out⟩, AS.nil _ _ _, (two_new w _ _).1⟩
theorem stepr_i2 (vp vi vu : Value) (p : Pr) (b : UInt8) (S : Nat → Prop) (w : World) (hp : SL vI w S vp p.params) (hi : SL vB w S vi p.inter) (hu : SL vB w S vu p.utf) (hS : ∀ x, S x → x < w.heap.size) (h24 : b.toNat ≠ 24) (h26 : b.toNat ≠ 26) (h27 : b.toNat ≠ 27) (hm0 : p.mode ≠ 0) (hm7 : p.mode ≠ 7) (hb0 : 32 ≤ b.toNat) (hb1 : b.toNat < 127) (hm : p.mode = 2) (hB : interB b = true) (hl : 2 ≤ p.inter.length) :
  Calls Tryz.prog 71 #[.agg #[.int .i64 (p.mode : Int), .int .u8 (p.priv : Int), vp, vi, vu], .int .u8 (b.toNat : Int)] w (VtPost S (prM 3, []) w) := by
 have HP := Lib.hid hp
 have HI := Lib.hid hi
 have HU := Lib.hid hu
 have HSS := Lib.hid hS
 obtain ⟨Ap, cp, rfl, p1, p2⟩ := hp.form
 obtain ⟨Ai, ci, rfl, i1, i2⟩ := hi.form
 obtain ⟨Au, cu, rfl, u1, u2⟩ := hu.form
 clear hp hi hu hS
 have hb255 := b.toNat_lt
 have d24 : ((b.toNat : Int) == 24) = false := beq_eq_false_iff_ne.2 (by omega)
 have d26 : ((b.toNat : Int) == 26) = false := beq_eq_false_iff_ne.2 (by omega)
 have d27 : ((b.toNat : Int) == 27) = false := beq_eq_false_iff_ne.2 (by omega)
 have m0 : ((p.mode : Int) == 0) = false := beq_eq_false_iff_ne.2 (by omega)
 have m7 : ((p.mode : Int) == 7) = false := beq_eq_false_iff_ne.2 (by omega)
 have l32 : decide ((b.toNat : Int) < 32) = false := by simp; omega
 have d127 : ((b.toNat : Int) == 127) = false := beq_eq_false_iff_ne.2 (by omega)
 have g128 : decide ((128 : Int) ≤ (b.toNat : Int)) = false := by simp; omega
 have m1 : ((p.mode : Int) == 1) = false := beq_eq_false_iff_ne.2 (by omega)
 have m2 : ((p.mode : Int) == 2) = true := beq_iff_eq.2 (by omega)
 have HIB := Lib.hid hB
 clear hB
 have hl2 : (2 : Int) ≤ (p.inter.length : Int) := by omega
 clear h24 h26 h27 hm0 hm7 hm
 go_enter Tryz.func71, Tryz.ntmps71
 go_wp2_with (go_at_call 88; refine (interr_any b _).mono ?_; rintro e w' ⟨rfl, rfl⟩; rw [HIB.out])
 exact bodyPost_ret (v := .tuple #[.agg #[.int .i64 3, .int .u8 0, .slice none 0 0, .slice none 0 0, .slice none 0 0], .slice none 0 0]) (by simp [results, Tryz.results71, go_sem]) rfl ⟨_, _, rfl, prM_pv _ _ 3, AS.nil _ _ _, (two_new w _ _).1⟩
theorem two_keptB {w w4 : World} {x y : Obj} (hb : Below (w.heap.size + 1 + 1) ((w.alloc x).alloc y) w4) : w4.heap[w.heap.size]? = some x ∧ w4.heap[w.heap.size + 1]? = some y := by
 refine ⟨(hb.block _ (by omega)).trans ?_, (hb.block _ (by omega)).trans ?_⟩
 ·show ((w.heap.push x).push y)[w.heap.size]? = some x
  rw [Array.getElem?_push, if_neg (by simp), Array.getElem?_push, if_pos rfl]
 ·show ((w.heap.push x).push y)[w.heap.size + 1]? = some y
  rw [Array.getElem?_push, if_pos (by simp)]
def wset (w w5 : World) (y0 y1 y2 y3 y4 : Value) : World := ((((w5.setCell ⟨w.heap.size + 1, 0, none⟩ y0).setCell ⟨w.heap.size + 1, 1, none⟩ y1).setCell ⟨w.heap.size + 1, 2, none⟩ y2).setCell ⟨w.heap.size + 1, 3, none⟩ y3).setCell ⟨w.heap.size + 1, 4, none⟩ y4
theorem wset_size (w w5 : World) (y0 y1 y2 y3 y4 : Value) : (wset w w5 y0 y1 y2 y3 y4).heap.size = w5.heap.size := by simp [wset]
theorem wset_below {w w5 : World} {y0 y1 y2 y3 y4 : Value} (h : Below w.heap.size w w5) : Below w.heap.size w (wset w w5 y0 y1 y2 y3 y4) :=
 ((((h.setCell (Nat.le_succ _) _).setCell (Nat.le_succ _) _).setCell (Nat.le_succ _) _).setCell (Nat.le_succ _) _).setCell (Nat.le_succ _) _
theorem wset_cell {w w5 : World} {y0 y1 y2 y3 y4 : Value} {S : Nat → Prop} (hne : ∀ x, S x → x ≠ w.heap.size + 1) : ∀ q : Addr, S q.block → (wset w w5 y0 y1 y2 y3 y4).cell? q = w5.cell? q := by
 intro q hq
 have hn := hne _ hq
 unfold wset
 have h1 (W : World) (i : Nat) (y : Value) : (W.setCell ⟨w.heap.size + 1, i, none⟩ y).cell? q = W.cell? q := World.cell?_of_block (Below.heap_setCell _ _ _ _ hn)
 rw [h1, h1, h1, h1, h1]
theorem utf_post {w w4 w5 : World} {S : Nat → Prop} {qv av : Value} {u : List UInt8} {l : List Ac} (hb : Below w.heap.size w w5) (hq : BN w4 (w.heap.size + 1 + 1) qv u) (hb5 : Below w4.heap.size w4 w5) (ho : OA w5 w4.heap.size (fun _ => False) av l) (hz4 : w.heap.size + 1 + 1 ≤ w4.heap.size) :
  VtPost S ({ prM 0 with utf := u }, l) w (.returned (.tuple #[.agg #[.int .i64 0, .int .u8 0, .slice none 0 0, .slice none 0 0, qv], av])) (wset w w5 (.int .i64 0) (.int .u8 0) (.slice none 0 0) (.slice none 0 0) qv) := by
 have hsz := wset_size w w5 (.int .i64 0) (.int .u8 0) (.slice none 0 0) (.slice none 0 0) qv
 have h1 : SL vB w5 (NewB w4 (w.heap.size + 1 + 1)) qv u := hq.sl.keep (fun q h => hb5.cell h.2)
 have h2 := h1.keep (wset_cell (w := w) (w5 := w5) (y0 := .int .i64 0) (y1 := .int .u8 0) (y2 := .slice none 0 0) (y3 := .slice none 0 0) (y4 := qv) (fun x hx => by have := hx.1; omega))
 have h3 := ho.as.keep (wset_cell (w := w) (w5 := w5) (y0 := .int .i64 0) (y1 := .int .u8 0) (y2 := .slice none 0 0) (y3 := .slice none 0 0) (y4 := qv) (fun x hx => by have := hx.1; omega)) (fun _ h => h.elim)
 have hz5 := hb5.size
 exact ⟨_, _, rfl, ⟨_, _, _, rfl, SL.nil _ _ _, SL.nil _ _ _, h2.mono (fun x hx => .inr ⟨by have := hx.1; omega, by rw [hsz]; have := hx.2; omega⟩)⟩, h3.mono (fun x hx => ⟨by have := hx.1; omega, by rw [hsz]; exact hx.2⟩) (fun _ h => h.elim), wset_below hb⟩
theorem stepr_g3 (vp vi vu : Value) (p : Pr) (b : UInt8) (S : Nat → Prop) (w : World) (hp : SL vI w S vp p.params) (hi : SL vB w S vi p.inter) (hu : SL vB w S vu p.utf) (hS : ∀ x, S x → x < w.heap.size) (hm : p.mode = 0) (h24 : b.toNat ≠ 27) (hb0 : 32 ≤ b.toNat) (hb1 : b.toNat ≠ 127) :
  Calls Tryz.prog 71 #[.agg #[.int .i64 (p.mode : Int), .int .u8 (p.priv : Int), vp, vi, vu], .int .u8 (b.toNat : Int)] w (VtPost S ({ prM 0 with utf := (stepL [] b).1 }, printsL (stepL [] b).2) w) := by
 obtain ⟨Ap, cp, rfl, p1, p2⟩ := hp.form
 obtain ⟨Ai, ci, rfl, i1, i2⟩ := hi.form
 obtain ⟨Au, cu, rfl, u1, u2⟩ := hu.form
 clear hp hi hu hS
 have d24 : ((b.toNat : Int) == 24) = false := beq_eq_false_iff_ne.2 (by omega)
 have d26 : ((b.toNat : Int) == 26) = false := beq_eq_false_iff_ne.2 (by omega)
 have d27 : ((b.toNat : Int) == 27) = false := beq_eq_false_iff_ne.2 (by omega)
 have d127 : ((b.toNat : Int) == 127) = false := beq_eq_false_iff_ne.2 (by omega)
 have m0 : ((p.mode : Int) == 0) = true := beq_iff_eq.2 (by omega)
 have l32 : decide ((b.toNat : Int) < 32) = false := by simp; omega
 have hsl := stepL_len [] b
 clear hm h24 hb1
 go_enter Tryz.func71, Tryz.ntmps71
 go_wp2_with (first
  | (go_at_call 68; refine (stepr_any (.slice none 0 0) [] b _ (BS.nil _ _)).mono ?_; rintro e w4 ⟨v1, v2, rfl, hq, hr, hb4⟩; rw [(two_new w _ _).2] at hq hb4; obtain ⟨Aq, cq, rfl, _, _, -⟩ := hq.1.at_; have HQ := Lib.hid hq; have HB4 := Lib.hid hb4; clear hq hb4)
  | (go_at_call 70; refine (printsr_any _ (stepL [] b).2 _ hr (by omega)).mono ?_; rintro e w5 ⟨v3, rfl, ho, hb5⟩; have hb45 := HB4.out.trans (hb5.mono (by have := HB4.out.size; rw [(two_new w _ _).2] at this; exact this)); obtain ⟨k0, k1⟩ := two_keptB hb45; obtain ⟨e0, e1, e2, e3, e4, ef⟩ := five_cells k1; have HB5 := Lib.hid hb5; have HB45 := Lib.hid hb45; have HO := Lib.hid ho; clear hb5 hb45 ho k0 k1 hr))
 have h2 := two_new w (.cells (vPq p Ap Ai Au cp ci cu) 28) (.cells #[Value.int .i64 0, Value.int .u8 0, Value.slice none 0 0, Value.slice none 0 0, Value.slice none 0 0] 28)
 have hz4 := HB4.out.size
 rw [h2.2] at hz4
 exact bodyPost_ret (v := .tuple #[.agg #[.int .i64 0, .int .u8 0, .slice none 0 0, .slice none 0 0, Value.slice Aq (stepL [] b).1.length cq], v3]) (by simp [results, Tryz.results71, go_sem, e0, e1, e2, e3, e4]) rfl (utf_post (h2.1.trans (HB45.out.mono (by omega))) HQ.out HB5.out HO.out hz4)
theorem stepr_i1 (vp vi vu : Value) (p : Pr) (b : UInt8) (S : Nat → Prop) (w : World) (hp : SL vI w S vp p.params) (hi : SL vB w S vi p.inter) (hu : SL vB w S vu p.utf) (hS : ∀ x, S x → x < w.heap.size) (h27 : b.toNat ≠ 27) (hb0 : 32 ≤ b.toNat) (hb1 : b.toNat < 127) (hm : p.mode = 2) (hB : interB b = false) :
  Calls Tryz.prog 71 #[.agg #[.int .i64 (p.mode : Int), .int .u8 (p.priv : Int), vp, vi, vu], .int .u8 (b.toNat : Int)] w (VtPost S (prM 0, [acE b.toNat p.inter]) w) := by
 have HP := Lib.hid hp
 have HI := Lib.hid hi
 have HU := Lib.hid hu
 have HSS := Lib.hid hS
 obtain ⟨Ap, cp, rfl, p1, p2⟩ := hp.form
 obtain ⟨Ai, ci, rfl, i1, i2⟩ := hi.form
 obtain ⟨Au, cu, rfl, u1, u2⟩ := hu.form
 clear hp hi hu hS
 have d24 : ((b.toNat : Int) == 24) = false := beq_eq_false_iff_ne.2 (by omega)
 have d26 : ((b.toNat : Int) == 26) = false := beq_eq_false_iff_ne.2 (by omega)
 have d27 : ((b.toNat : Int) == 27) = false := beq_eq_false_iff_ne.2 (by omega)
 have d127 : ((b.toNat : Int) == 127) = false := beq_eq_false_iff_ne.2 (by omega)
 have l32 : decide ((b.toNat : Int) < 32) = false := by simp; omega
 have g128 : decide ((128 : Int) ≤ (b.toNat : Int)) = false := by simp; omega
 have HIB := Lib.hid hB
 clear hB
 have m0 : ((p.mode : Int) == 0) = false := beq_eq_false_iff_ne.2 (by omega)
 have m7 : ((p.mode : Int) == 7) = false := beq_eq_false_iff_ne.2 (by omega)
 have m1 : ((p.mode : Int) == 1) = false := beq_eq_false_iff_ne.2 (by omega)
 have m2 : ((p.mode : Int) == 2) = true := beq_iff_eq.2 (by omega)
 clear hm h27
 go_enter Tryz.func71, Tryz.ntmps71
 go_wp2_with (go_at_call 88; refine (interr_any b _).mono ?_; rintro e w' ⟨rfl, rfl⟩; rw [HIB.out])
 go_region
 all_goals
  go_wp2
  exact bodyPost_ret (v := .tuple #[.agg #[.int .i64 0, .int .u8 0, .slice none 0 0, .slice none 0 0, .slice none 0 0], .slice (some ⟨w.heap.size + 1 + 1, 0, none⟩) 1 1]) (by simp [results, Tryz.results71, go_sem]) rfl ⟨_, _, rfl, prM_pv _ _ 0, act_new (two_new w _ _).1 HSS.out (acE b.toNat p.inter) _ _ _ _ (by simp) (SL.nil _ _ _) HI.out _ rfl, ((two_new w _ _).1.alloc (by simp; omega) _).drew⟩
theorem stepr_i3 (vp vi vu : Value) (p : Pr) (b : UInt8) (S : Nat → Prop) (w : World) (hp : SL vI w S vp p.params) (hi : SL vB w S vi p.inter) (hu : SL vB w S vu p.utf) (hS : ∀ x, S x → x < w.heap.size) (h27 : b.toNat ≠ 27) (hb0 : 32 ≤ b.toNat) (hb1 : b.toNat < 127) (hm : p.mode = 2) (hB : interB b = true) (hl : p.inter.length < 2) :
  Calls Tryz.prog 71 #[.agg #[.int .i64 (p.mode : Int), .int .u8 (p.priv : Int), vp, vi, vu], .int .u8 (b.toNat : Int)] w (VtPost S ({ prM 2 with inter := p.inter ++ [b] }, []) w) := by
 have HP := Lib.hid hp
 have HI := Lib.hid hi
 have HU := Lib.hid hu
 have HSS := Lib.hid hS
 obtain ⟨Ap, cp, rfl, p1, p2⟩ := hp.form
 obtain ⟨Ai, ci, rfl, i1, i2⟩ := hi.form
 obtain ⟨Au, cu, rfl, u1, u2⟩ := hu.form
 clear hp hi hu hS
 have d24 : ((b.toNat : Int) == 24) = false := beq_eq_false_iff_ne.2 (by omega)
 have d26 : ((b.toNat : Int) == 26) = false := beq_eq_false_iff_ne.2 (by omega)
 have d27 : ((b.toNat : Int) == 27) = false := beq_eq_false_iff_ne.2 (by omega)
 have d127 : ((b.toNat : Int) == 127) = false := beq_eq_false_iff_ne.2 (by omega)
 have l32 : decide ((b.toNat : Int) < 32) = false := by simp; omega
 have g128 : decide ((128 : Int) ≤ (b.toNat : Int)) = false := by simp; omega
 have HIB := Lib.hid hB
 clear hB
 have m0 : ((p.mode : Int) == 0) = false := beq_eq_false_iff_ne.2 (by omega)
 have m7 : ((p.mode : Int) == 7) = false := beq_eq_false_iff_ne.2 (by omega)
 have m1 : ((p.mode : Int) == 1) = false := beq_eq_false_iff_ne.2 (by omega)
 have m2 : ((p.mode : Int) == 2) = true := beq_iff_eq.2 (by omega)
 have dl : decide ((2 : Int) ≤ (p.inter.length : Int)) = false := by simp; omega
 clear hm h27
 go_enter Tryz.func71, Tryz.ntmps71
 go_wp2_with (first
  | (go_at_call 88; refine (interr_any b _).mono ?_; rintro e w' ⟨rfl, rfl⟩; rw [HIB.out])
  | (go_at_call 95; refine (withr_any _ p.inter b _ (((HI.out.bs HSS.out).below (two_new w _ _).1).more (two_new w _ _).1.size) (by omega)).mono ?_; rintro e w4 ⟨u, rfl, ho, hb4⟩; rw [(two_new w _ _).2] at ho hb4; obtain ⟨k0, k1⟩ := two_keptB hb4; obtain ⟨e0, e1, e2, e3, e4, ef⟩ := five_cells k1; obtain ⟨Av, cv, rfl, _, _, -⟩ := ho.bs.at_; have HO := Lib.hid ho; have HB4 := Lib.hid hb4; clear ho hb4 k0 k1))
 have h2 := two_new w (.cells (vPq p Ap Ai Au cp ci cu) 28) (.cells #[Value.int .i64 0, Value.int .u8 0, Value.slice none 0 0, Value.slice none 0 0, Value.slice none 0 0] 28)
 have hb5 := h2.1.trans (HB4.out.mono (by omega))
 have ho := HO.out.sl
 rw [List.length_append] at ho
 have ho2 := ho.keep (wset_cell (w := w) (w5 := w4) (y0 := .int .i64 2) (y1 := .int .u8 0) (y2 := .slice none 0 0) (y3 := .slice Av (p.inter.length + 1) cv) (y4 := .slice none 0 0) (fun x hx => by have := hx.1; omega))
 have hsz := wset_size w w4 (.int .i64 2) (.int .u8 0) (.slice none 0 0) (.slice Av (p.inter.length + 1) cv) (.slice none 0 0)
 have hpost : VtPost S ({ prM 2 with inter := p.inter ++ [b] }, []) w (.returned (.tuple #[.agg #[.int .i64 2, .int .u8 0, .slice none 0 0, .slice Av (p.inter.length + 1) cv, .slice none 0 0], .slice none 0 0])) (wset w w4 (.int .i64 2) (.int .u8 0) (.slice none 0 0) (.slice Av (p.inter.length + 1) cv) (.slice none 0 0)) :=
  ⟨_, _, rfl, ⟨_, _, _, rfl, SL.nil _ _ _, ho2.mono (fun x hx => .inr ⟨by have := hx.1; omega, by rw [hsz]; exact hx.2⟩), SL.nil _ _ _⟩, AS.nil _ _ _, wset_below hb5⟩
 exact bodyPost_ret (v := .tuple #[.agg #[.int .i64 2, .int .u8 0, .slice none 0 0, .slice Av (p.inter.length + 1) cv, .slice none 0 0], .slice none 0 0]) (by simp [results, Tryz.results71, go_sem, e0, e1, e2, e3, e4]) rfl hpost
theorem hand_post {w w4 : World} {S : Nat → Prop} {m pr : Int} {vp vi vu av : Value} {r : Pr × List Ac} (hb : Below w.heap.size w w4) (hS : ∀ x, S x → x < w.heap.size) (hz : w.heap.size + 1 + 1 ≤ w4.heap.size)
  (hq : PV w4 (fun x => S x ∨ NewB w4 (w.heap.size + 1 + 1) x) (.agg #[.int .i64 m, .int .u8 pr, vp, vi, vu]) r.1) (ha : AS w4 (NewB w4 (w.heap.size + 1 + 1)) (fun x => S x ∨ NewB w4 (w.heap.size + 1 + 1) x) av r.2) :
  VtPost S r w (.returned (.tuple #[.agg #[.int .i64 m, .int .u8 pr, vp, vi, vu], av])) (wset w w4 (.int .i64 m) (.int .u8 pr) vp vi vu) := by
 have hsz := wset_size w w4 (.int .i64 m) (.int .u8 pr) vp vi vu
 have hk := wset_cell (w := w) (w5 := w4) (y0 := .int .i64 m) (y1 := .int .u8 pr) (y2 := vp) (y3 := vi) (y4 := vu) (S := fun x => S x ∨ NewB w4 (w.heap.size + 1 + 1) x) (fun x hx => by
  rcases hx with h | h
  ·have := hS x h; omega
  ·have := h.1; omega)
 have hk2 := wset_cell (w := w) (w5 := w4) (y0 := .int .i64 m) (y1 := .int .u8 pr) (y2 := vp) (y3 := vi) (y4 := vu) (S := NewB w4 (w.heap.size + 1 + 1)) (fun x hx => by have := hx.1; omega)
 have hmono : ∀ x, (S x ∨ NewB w4 (w.heap.size + 1 + 1) x) → (S x ∨ NewB (wset w w4 (.int .i64 m) (.int .u8 pr) vp vi vu) w.heap.size x) := fun x hx => hx.imp id (fun h => ⟨by have := h.1; omega, by rw [hsz]; exact h.2⟩)
 exact ⟨_, _, rfl, (hq.keep hk).mono hmono, (ha.keep hk2 hk).mono (fun x h => ⟨by have := h.1; omega, by rw [hsz]; exact h.2⟩) hmono, wset_below hb⟩
theorem stepr_z (vp vi vu : Value) (p : Pr) (b : UInt8) (S : Nat → Prop) (w : World) (hp : SL vI w S vp p.params) (hi : SL vB w S vi p.inter) (hu : SL vB w S vu p.utf) (hS : ∀ x, S x → x < w.heap.size) (h27 : b.toNat ≠ 27) (hb0 : 32 ≤ b.toNat) (hb1 : b.toNat < 127) (hm : p.mode = 4 ∨ p.mode = 5) (hok : PrOk p) :
  Calls Tryz.prog 71 #[.agg #[.int .i64 (p.mode : Int), .int .u8 (p.priv : Int), vp, vi, vu], .int .u8 (b.toNat : Int)] w (VtPost S (csiL p b) w) := by
 have HP := Lib.hid hp
 have HI := Lib.hid hi
 have HU := Lib.hid hu
 have HSS := Lib.hid hS
 obtain ⟨Ap, cp, rfl, p1, p2⟩ := hp.form
 obtain ⟨Ai, ci, rfl, i1, i2⟩ := hi.form
 obtain ⟨Au, cu, rfl, u1, u2⟩ := hu.form
 clear hp hi hu hS
 have d24 : ((b.toNat : Int) == 24) = false := beq_eq_false_iff_ne.2 (by omega)
 have d26 : ((b.toNat : Int) == 26) = false := beq_eq_false_iff_ne.2 (by omega)
 have d27 : ((b.toNat : Int) == 27) = false := beq_eq_false_iff_ne.2 (by omega)
 have d127 : ((b.toNat : Int) == 127) = false := beq_eq_false_iff_ne.2 (by omega)
 have l32 : decide ((b.toNat : Int) < 32) = false := by simp; omega
 have g128 : decide ((128 : Int) ≤ (b.toNat : Int)) = false := by simp; omega
 have m0 : ((p.mode : Int) == 0) = false := beq_eq_false_iff_ne.2 (by omega)
 have m7 : ((p.mode : Int) == 7) = false := beq_eq_false_iff_ne.2 (by omega)
 have m1 : ((p.mode : Int) == 1) = false := beq_eq_false_iff_ne.2 (by omega)
 have m2 : ((p.mode : Int) == 2) = false := beq_eq_false_iff_ne.2 (by omega)
 have m3 : ((p.mode : Int) == 3) = false := beq_eq_false_iff_ne.2 (by omega)
 have m6 : ((p.mode : Int) == 6) = false := beq_eq_false_iff_ne.2 (by omega)
 have HOK := Lib.hid hok
 clear hm h27 hok
 go_enter Tryz.func71, Tryz.ntmps71
 go_wp2_with (go_at_call 96; refine (csir_any _ _ _ p b S _ (HP.out.keep (fun q hq => (two_new w _ _).1.cell (HSS.out _ hq))) (HI.out.keep (fun q hq => (two_new w _ _).1.cell (HSS.out _ hq))) (HU.out.keep (fun q hq => (two_new w _ _).1.cell (HSS.out _ hq))) (fun x hx => Nat.lt_of_lt_of_le (HSS.out x hx) (two_new w _ _).1.size) HOK.out hb0).mono ?_; rintro e w4 ⟨qv, av, rfl, hq, ha, hb4⟩; rw [(two_new w _ _).2] at hq ha hb4; obtain ⟨k0, k1⟩ := two_keptB hb4; obtain ⟨e0, e1, e2, e3, e4, ef⟩ := five_cells k1; have HQ := Lib.hid hq; have HA := Lib.hid ha; have HB4 := Lib.hid hb4; obtain ⟨v1, v2, v3, rfl, s1, s2, s3⟩ := hq; obtain ⟨Aa, ca, rfl, _, _⟩ := s1.form; obtain ⟨Ab, cb, rfl, _, _⟩ := s2.form; obtain ⟨Ac, cc, rfl, _, _⟩ := s3.form; clear s1 s2 s3 ha hb4 k0 k1)
 have h2 := two_new w (.cells (vPq p Ap Ai Au cp ci cu) 28) (.cells #[Value.int .i64 0, Value.int .u8 0, Value.slice none 0 0, Value.slice none 0 0, Value.slice none 0 0] 28)
 have hz4 := HB4.out.size
 rw [h2.2] at hz4
 exact bodyPost_ret (v := .tuple #[.agg #[.int .i64 ((csiL p b).1.mode : Int), .int .u8 ((csiL p b).1.priv : Int), Value.slice Aa (csiL p b).1.params.length ca, Value.slice Ab (csiL p b).1.inter.length cb, Value.slice Ac (csiL p b).1.utf.length cc], av]) (by simp [results, Tryz.results71, go_sem, e0, e1, e2, e3, e4]) rfl (hand_post (h2.1.trans (HB4.out.mono (by omega))) HSS.out hz4 HQ.out HA.out)
theorem vtNr_any (vp vi vu : Value) (p : Pr) (b : UInt8) (S : Nat → Prop) (w : World) (hp : SL vI w S vp p.params) (hi : SL vB w S vi p.inter) (hu : SL vB w S vu p.utf) (hS : ∀ x, S x → x < w.heap.size) (hok : PrOk p) :
  Calls Tryz.prog 71 #[.agg #[.int .i64 (p.mode : Int), .int .u8 (p.priv : Int), vp, vi, vu], .int .u8 (b.toNat : Int)] w (VtPost S (vtN p b) w) := by
 have hmode := hok.mode
 unfold vtN
 by_cases h24 : b.toNat = 24
 ·rw [if_pos (.inl h24)]
  exact stepr_24 vp vi vu p b S w hp hi hu hS h24
 by_cases h26 : b.toNat = 26
 ·rw [if_pos (.inr h26)]
  exact stepr_26 vp vi vu p b S w hp hi hu hS h26
 rw [if_neg (by omega)]
 by_cases h27 : b.toNat = 27
 ·rw [if_pos h27]
  exact stepr_27 vp vi vu p b S w hp hi hu hS h27
 rw [if_neg h27]
 by_cases hm0 : p.mode = 0
 ·rw [if_pos hm0]
  by_cases h32 : b.toNat < 32
  ·rw [if_pos h32]
   exact stepr_g1 vp vi vu p b S w hp hi hu hS h24 h26 h27 hm0 h32
  rw [if_neg h32]
  by_cases h127 : b.toNat = 127
  ·rw [if_pos h127]
   exact stepr_g2 vp vi vu p b S w hp hi hu hS h24 h26 h27 hm0 h127
  rw [if_neg h127]
  exact stepr_g3 vp vi vu p b S w hp hi hu hS hm0 h27 (by omega) h127
 rw [if_neg hm0]
 by_cases hm7 : p.mode = 7
 ·rw [if_pos hm7]
  by_cases h7 : b.toNat = 7
  ·rw [if_pos h7]
   exact stepr_s1 vp vi vu p b S w hp hi hu hS h24 h26 h27 hm7 h7
  ·rw [if_neg h7]
   exact stepr_s2 vp vi vu p b S w hp hi hu hS h24 h26 h27 hm7 h7
 rw [if_neg hm7]
 by_cases h32 : b.toNat < 32
 ·rw [if_pos h32]
  exact stepr_c1 vp vi vu p b S w hp hi hu hS h24 h26 h27 hm0 hm7 h32
 rw [if_neg h32]
 by_cases h127 : b.toNat = 127
 ·rw [if_pos h127]
  exact stepr_c2 vp vi vu p b S w hp hi hu hS h24 h26 h27 hm0 hm7 h127
 rw [if_neg h127]
 by_cases h128 : 128 ≤ b.toNat
 ·rw [if_pos h128]
  exact stepr_c3 vp vi vu p b S w hp hi hu hS h24 h26 h27 hm0 hm7 h128
 rw [if_neg h128]
 have hb0 : 32 ≤ b.toNat := by omega
 have hb1 : b.toNat < 127 := by omega
 unfold vtM
 by_cases hm1 : p.mode = 1
 ·rw [if_pos hm1]
  cases hB : interB b
  ·rw [if_neg (by simp)]
   by_cases h91 : b.toNat = 91
   ·rw [if_pos h91]
    exact stepr_e2 vp vi vu p b S w hp hi hu hS h24 h26 h27 hm0 hm7 hb0 hb1 hm1 hB h91
   rw [if_neg h91]
   by_cases h93 : b.toNat = 93
   ·rw [if_pos (.inl h93)]
    exact stepr_e3_93 vp vi vu p b S w hp hi hu hS h24 h26 h27 hm0 hm7 hb0 hb1 hm1 hB h93
   by_cases h80 : b.toNat = 80
   ·rw [if_pos (by omega)]
    exact stepr_e3_80 vp vi vu p b S w hp hi hu hS h24 h26 h27 hm0 hm7 hb0 hb1 hm1 hB h80
   by_cases h88 : b.toNat = 88
   ·rw [if_pos (by omega)]
    exact stepr_e3_88 vp vi vu p b S w hp hi hu hS h24 h26 h27 hm0 hm7 hb0 hb1 hm1 hB h88
   by_cases h94 : b.toNat = 94
   ·rw [if_pos (by omega)]
    exact stepr_e3_94 vp vi vu p b S w hp hi hu hS h24 h26 h27 hm0 hm7 hb0 hb1 hm1 hB h94
   by_cases h95 : b.toNat = 95
   ·rw [if_pos (by omega)]
    exact stepr_e3_95 vp vi vu p b S w hp hi hu hS h24 h26 h27 hm0 hm7 hb0 hb1 hm1 hB h95
   ·rw [if_neg (by omega)]
    exact stepr_e4 vp vi vu p b S w hp hi hu hS h24 h26 h27 hm0 hm7 hb0 hb1 hm1 hB h91 h93 h80 h88 h94 h95
  ·rw [if_pos rfl]
   exact stepr_e1 vp vi vu p b S w hp hi hu hS h24 h26 h27 hm0 hm7 hb0 hb1 hm1 hB
 rw [if_neg hm1]
 by_cases hm2 : p.mode = 2
 ·rw [if_pos hm2]
  cases hB : interB b
  ·rw [if_pos rfl]
   exact stepr_i1 vp vi vu p b S w hp hi hu hS h27 hb0 hb1 hm2 hB
  ·rw [if_neg (by simp)]
   by_cases hl : 2 ≤ p.inter.length
   ·rw [if_pos hl]
    exact stepr_i2 vp vi vu p b S w hp hi hu hS h24 h26 h27 hm0 hm7 hb0 hb1 hm2 hB hl
   ·rw [if_neg hl]
    exact stepr_i3 vp vi vu p b S w hp hi hu hS h27 hb0 hb1 hm2 hB (by omega)
 rw [if_neg hm2]
 by_cases hm3 : p.mode = 3
 ·rw [if_pos hm3]
  by_cases h : 48 ≤ b.toNat
  ·rw [if_pos h]
   exact stepr_x1 vp vi vu p b S w hp hi hu hS h24 h26 h27 hm0 hm7 hb0 hb1 hm3 h
  ·rw [if_neg h]
   exact stepr_x2 vp vi vu p b S w hp hi hu hS h24 h26 h27 hm0 hm7 hb0 hb1 hm3 h
 rw [if_neg hm3]
 by_cases hm6 : p.mode = 6
 ·rw [if_pos hm6]
  by_cases h : 64 ≤ b.toNat
  ·rw [if_pos h]
   exact stepr_y1 vp vi vu p b S w hp hi hu hS h24 h26 h27 hm0 hm7 hb0 hb1 hm6 h
  ·rw [if_neg h]
   exact stepr_y2 vp vi vu p b S w hp hi hu hS h24 h26 h27 hm0 hm7 hb0 hb1 hm6 h
 rw [if_neg hm6]
 exact stepr_z vp vi vu p b S w hp hi hu hS h27 hb0 hb1 (by omega) hok
end Go.Proofs.YthncoigjfhmldaaGreat
