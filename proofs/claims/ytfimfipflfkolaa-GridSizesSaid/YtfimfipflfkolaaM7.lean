/- What is proved here: contracts of the document's function that takes a byte with nothing pending, part by part: in new memory, or in its argument's. -/
import Derived.Test.YtfimfipflfkolaaM6
namespace Go.Proofs.Ytfimfipflfkolaa
open Go.RowKit
set_option linter.unusedVariables false

/-- Two blocks behind w. -/
theorem two_new (w : World) (x y : Obj) : Below w.heap.size w ((w.alloc x).alloc y) ∧ ((w.alloc x).alloc y).heap.size = w.heap.size + 1 + 1 :=
  ⟨((Below.refl w.heap.size w).alloc (Nat.le_refl _) x).alloc (by simp) y, by simp⟩
/-- One act that has just been laid, behind w, in no drawn statement. -/
theorem act_new0 {w W : World} {S : Nat → Prop} (hb : Below w.heap.size w W) (hS : ∀ x, S x → x < w.heap.size) (a : Ac) (vp vi : Value) (t : TypeId) (g : Nat) (hg : g = W.heap.size) (hp : SL vI w S vp a.params) (hi : SL vB w S vi a.inter) (cs : Array Value) (hcs : cs = #[.int .i64 (a.kind : Int), .int .i32 a.r, .int .u8 (a.b : Int), .int .u8 (a.priv : Int), vp, vi]) :
    AS (W.alloc (.cells cs t)) (NewB (W.alloc (.cells cs t)) w.heap.size) (fun x => S x ∨ NewB (W.alloc (.cells cs t)) w.heap.size x) (.slice (some ⟨g, 0, none⟩) 1 1) [a] := act_new hb hS a vp vi t g hg hp hi cs hcs
/-- One byte that has just been laid, behind w. -/
theorem byte_new {w W : World} {S : Nat → Prop} (hb : Below w.heap.size w W) (b : UInt8) (t : TypeId) (g : Nat) (hg : g = W.heap.size) : SL vB (W.alloc (.cells #[.int .u8 (b.toNat : Int)] t)) (fun x => S x ∨ NewB (W.alloc (.cells #[.int .u8 (b.toNat : Int)] t)) w.heap.size x) (.slice (some ⟨g, 0, none⟩) 1 1) [b] := by
  subst hg
  obtain ⟨A, c, hv, h1, h2, h3⟩ := BS.one W b t
  refine ⟨A, c, hv, h1, h2, fun hl => ?_⟩
  obtain ⟨ad, hA, hbk, hc⟩ := h3 hl
  subst hA
  simp only [Value.slice.injEq, Option.some.injEq] at hv
  refine ⟨ad, rfl, .inr ⟨?_, by simpa using hbk⟩, hc⟩
  rw [← hv.1]
  exact hb.size

set_option maxHeartbeats 1000000 in
set_option maxRecDepth 100000 in
theorem stepr_24 (vp vi vu : Value) (p : Pr) (b : UInt8) (S : Nat → Prop) (w : World) (hp : SL vI w S vp p.params) (hi : SL vB w S vi p.inter) (hu : SL vB w S vu p.utf) (hS : ∀ x, S x → x < w.heap.size) (h : b.toNat = 24) :
    Calls Try.prog 49 #[.agg #[.int .i64 (p.mode : Int), .int .u8 (p.priv : Int), vp, vi, vu], .int .u8 (b.toNat : Int)] w (VtPost S (prM 0, []) w) := by
  have HP := Lib.hid hp
  have HI := Lib.hid hi
  have HU := Lib.hid hu
  have HSS := Lib.hid hS
  obtain ⟨Ap, cp, rfl, p1, p2⟩ := hp.form
  obtain ⟨Ai, ci, rfl, i1, i2⟩ := hi.form
  obtain ⟨Au, cu, rfl, u1, u2⟩ := hu.form
  clear hp hi hu hS
  have hb255 := b.toNat_lt
  have d24 : ((b.toNat : Int) == 24) = true := beq_iff_eq.2 (by omega)
  clear h
  go_enter Try.func49, Try.ntmps49
  go_wp2
  exact bodyPost_ret (v := .tuple #[.agg #[.int .i64 0, .int .u8 0, .slice none 0 0, .slice none 0 0, .slice none 0 0], .slice none 0 0]) (by simp [results, Try.results49, go_sem]) rfl ⟨_, _, rfl, prM_pv _ _ 0, AS.nil _ _ _, (two_new w _ _).1⟩
set_option maxHeartbeats 1000000 in
set_option maxRecDepth 100000 in
theorem stepr_26 (vp vi vu : Value) (p : Pr) (b : UInt8) (S : Nat → Prop) (w : World) (hp : SL vI w S vp p.params) (hi : SL vB w S vi p.inter) (hu : SL vB w S vu p.utf) (hS : ∀ x, S x → x < w.heap.size) (h : b.toNat = 26) :
    Calls Try.prog 49 #[.agg #[.int .i64 (p.mode : Int), .int .u8 (p.priv : Int), vp, vi, vu], .int .u8 (b.toNat : Int)] w (VtPost S (prM 0, []) w) := by
  have HP := Lib.hid hp
  have HI := Lib.hid hi
  have HU := Lib.hid hu
  have HSS := Lib.hid hS
  obtain ⟨Ap, cp, rfl, p1, p2⟩ := hp.form
  obtain ⟨Ai, ci, rfl, i1, i2⟩ := hi.form
  obtain ⟨Au, cu, rfl, u1, u2⟩ := hu.form
  clear hp hi hu hS
  have hb255 := b.toNat_lt
  have d24 : ((b.toNat : Int) == 24) = false := beq_eq_false_iff_ne.2 (by omega)
  have d26 : ((b.toNat : Int) == 26) = true := beq_iff_eq.2 (by omega)
  clear h
  go_enter Try.func49, Try.ntmps49
  go_wp2
  exact bodyPost_ret (v := .tuple #[.agg #[.int .i64 0, .int .u8 0, .slice none 0 0, .slice none 0 0, .slice none 0 0], .slice none 0 0]) (by simp [results, Try.results49, go_sem]) rfl ⟨_, _, rfl, prM_pv _ _ 0, AS.nil _ _ _, (two_new w _ _).1⟩
set_option maxHeartbeats 1000000 in
set_option maxRecDepth 100000 in
theorem stepr_27 (vp vi vu : Value) (p : Pr) (b : UInt8) (S : Nat → Prop) (w : World) (hp : SL vI w S vp p.params) (hi : SL vB w S vi p.inter) (hu : SL vB w S vu p.utf) (hS : ∀ x, S x → x < w.heap.size) (h : b.toNat = 27) :
    Calls Try.prog 49 #[.agg #[.int .i64 (p.mode : Int), .int .u8 (p.priv : Int), vp, vi, vu], .int .u8 (b.toNat : Int)] w (VtPost S (prM 1, []) w) := by
  have HP := Lib.hid hp
  have HI := Lib.hid hi
  have HU := Lib.hid hu
  have HSS := Lib.hid hS
  obtain ⟨Ap, cp, rfl, p1, p2⟩ := hp.form
  obtain ⟨Ai, ci, rfl, i1, i2⟩ := hi.form
  obtain ⟨Au, cu, rfl, u1, u2⟩ := hu.form
  clear hp hi hu hS
  have hb255 := b.toNat_lt
  have d24 : ((b.toNat : Int) == 24) = false := beq_eq_false_iff_ne.2 (by omega)
  have d26 : ((b.toNat : Int) == 26) = false := beq_eq_false_iff_ne.2 (by omega)
  have d27 : ((b.toNat : Int) == 27) = true := beq_iff_eq.2 (by omega)
  clear h
  go_enter Try.func49, Try.ntmps49
  go_wp2
  exact bodyPost_ret (v := .tuple #[.agg #[.int .i64 1, .int .u8 0, .slice none 0 0, .slice none 0 0, .slice none 0 0], .slice none 0 0]) (by simp [results, Try.results49, go_sem]) rfl ⟨_, _, rfl, prM_pv _ _ 1, AS.nil _ _ _, (two_new w _ _).1⟩
set_option maxHeartbeats 1000000 in
set_option maxRecDepth 100000 in
theorem stepr_g1 (vp vi vu : Value) (p : Pr) (b : UInt8) (S : Nat → Prop) (w : World) (hp : SL vI w S vp p.params) (hi : SL vB w S vi p.inter) (hu : SL vB w S vu p.utf) (hS : ∀ x, S x → x < w.heap.size) (h24 : b.toNat ≠ 24) (h26 : b.toNat ≠ 26) (h27 : b.toNat ≠ 27) (hm : p.mode = 0) (h : b.toNat < 32) :
    Calls Try.prog 49 #[.agg #[.int .i64 (p.mode : Int), .int .u8 (p.priv : Int), vp, vi, vu], .int .u8 (b.toNat : Int)] w (VtPost S (prM 0, [acC b.toNat]) w) := by
  have HP := Lib.hid hp
  have HI := Lib.hid hi
  have HU := Lib.hid hu
  have HSS := Lib.hid hS
  obtain ⟨Ap, cp, rfl, p1, p2⟩ := hp.form
  obtain ⟨Ai, ci, rfl, i1, i2⟩ := hi.form
  obtain ⟨Au, cu, rfl, u1, u2⟩ := hu.form
  clear hp hi hu hS
  have hb255 := b.toNat_lt
  have d24 : ((b.toNat : Int) == 24) = false := beq_eq_false_iff_ne.2 (by omega)
  have d26 : ((b.toNat : Int) == 26) = false := beq_eq_false_iff_ne.2 (by omega)
  have d27 : ((b.toNat : Int) == 27) = false := beq_eq_false_iff_ne.2 (by omega)
  have m0 : ((p.mode : Int) == 0) = true := beq_iff_eq.2 (by omega)
  have l32 : (b.toNat : Int) < 32 := by omega
  clear h24 h26 h27 hm
  go_enter Try.func49, Try.ntmps49
  go_wp2
  exact bodyPost_ret (v := .tuple #[.agg #[.int .i64 0, .int .u8 0, .slice none 0 0, .slice none 0 0, .slice none 0 0], .slice (some ⟨w.heap.size + 1 + 1, 0, none⟩) 1 1]) (by simp [results, Try.results49, go_sem]) rfl ⟨_, _, rfl, prM_pv _ _ 0, act_new0 (two_new w _ _).1 HSS.out (acC b.toNat) _ _ _ _ (by simp) (SL.nil _ _ _) (SL.nil _ _ _) _ rfl, (two_new w _ _).1.alloc (by simp; omega) _⟩
set_option maxHeartbeats 1000000 in
set_option maxRecDepth 100000 in
theorem stepr_g2 (vp vi vu : Value) (p : Pr) (b : UInt8) (S : Nat → Prop) (w : World) (hp : SL vI w S vp p.params) (hi : SL vB w S vi p.inter) (hu : SL vB w S vu p.utf) (hS : ∀ x, S x → x < w.heap.size) (h24 : b.toNat ≠ 24) (h26 : b.toNat ≠ 26) (h27 : b.toNat ≠ 27) (hm : p.mode = 0) (h : b.toNat = 127) :
    Calls Try.prog 49 #[.agg #[.int .i64 (p.mode : Int), .int .u8 (p.priv : Int), vp, vi, vu], .int .u8 (b.toNat : Int)] w (VtPost S (prM 0, []) w) := by
  have HP := Lib.hid hp
  have HI := Lib.hid hi
  have HU := Lib.hid hu
  have HSS := Lib.hid hS
  obtain ⟨Ap, cp, rfl, p1, p2⟩ := hp.form
  obtain ⟨Ai, ci, rfl, i1, i2⟩ := hi.form
  obtain ⟨Au, cu, rfl, u1, u2⟩ := hu.form
  clear hp hi hu hS
  have hb255 := b.toNat_lt
  have d24 : ((b.toNat : Int) == 24) = false := beq_eq_false_iff_ne.2 (by omega)
  have d26 : ((b.toNat : Int) == 26) = false := beq_eq_false_iff_ne.2 (by omega)
  have d27 : ((b.toNat : Int) == 27) = false := beq_eq_false_iff_ne.2 (by omega)
  have m0 : ((p.mode : Int) == 0) = true := beq_iff_eq.2 (by omega)
  have l32 : decide ((b.toNat : Int) < 32) = false := by simp; omega
  have d127 : ((b.toNat : Int) == 127) = true := beq_iff_eq.2 (by omega)
  clear h24 h26 h27 hm h
  go_enter Try.func49, Try.ntmps49
  go_wp2
  exact bodyPost_ret (v := .tuple #[.agg #[.int .i64 0, .int .u8 0, .slice none 0 0, .slice none 0 0, .slice none 0 0], .slice none 0 0]) (by simp [results, Try.results49, go_sem]) rfl ⟨_, _, rfl, prM_pv _ _ 0, AS.nil _ _ _, (two_new w _ _).1⟩
set_option maxHeartbeats 1000000 in
set_option maxRecDepth 100000 in
theorem stepr_s1 (vp vi vu : Value) (p : Pr) (b : UInt8) (S : Nat → Prop) (w : World) (hp : SL vI w S vp p.params) (hi : SL vB w S vi p.inter) (hu : SL vB w S vu p.utf) (hS : ∀ x, S x → x < w.heap.size) (h24 : b.toNat ≠ 24) (h26 : b.toNat ≠ 26) (h27 : b.toNat ≠ 27) (hm : p.mode = 7) (h : b.toNat = 7) :
    Calls Try.prog 49 #[.agg #[.int .i64 (p.mode : Int), .int .u8 (p.priv : Int), vp, vi, vu], .int .u8 (b.toNat : Int)] w (VtPost S (prM 0, []) w) := by
  have HP := Lib.hid hp
  have HI := Lib.hid hi
  have HU := Lib.hid hu
  have HSS := Lib.hid hS
  obtain ⟨Ap, cp, rfl, p1, p2⟩ := hp.form
  obtain ⟨Ai, ci, rfl, i1, i2⟩ := hi.form
  obtain ⟨Au, cu, rfl, u1, u2⟩ := hu.form
  clear hp hi hu hS
  have hb255 := b.toNat_lt
  have d24 : ((b.toNat : Int) == 24) = false := beq_eq_false_iff_ne.2 (by omega)
  have d26 : ((b.toNat : Int) == 26) = false := beq_eq_false_iff_ne.2 (by omega)
  have d27 : ((b.toNat : Int) == 27) = false := beq_eq_false_iff_ne.2 (by omega)
  have m0 : ((p.mode : Int) == 0) = false := beq_eq_false_iff_ne.2 (by omega)
  have m7 : ((p.mode : Int) == 7) = true := beq_iff_eq.2 (by omega)
  have d7 : ((b.toNat : Int) == 7) = true := beq_iff_eq.2 (by omega)
  clear h24 h26 h27 hm h
  go_enter Try.func49, Try.ntmps49
  go_wp2
  exact bodyPost_ret (v := .tuple #[.agg #[.int .i64 0, .int .u8 0, .slice none 0 0, .slice none 0 0, .slice none 0 0], .slice none 0 0]) (by simp [results, Try.results49, go_sem]) rfl ⟨_, _, rfl, prM_pv _ _ 0, AS.nil _ _ _, (two_new w _ _).1⟩
set_option maxHeartbeats 1000000 in
set_option maxRecDepth 100000 in
theorem stepr_s2 (vp vi vu : Value) (p : Pr) (b : UInt8) (S : Nat → Prop) (w : World) (hp : SL vI w S vp p.params) (hi : SL vB w S vi p.inter) (hu : SL vB w S vu p.utf) (hS : ∀ x, S x → x < w.heap.size) (h24 : b.toNat ≠ 24) (h26 : b.toNat ≠ 26) (h27 : b.toNat ≠ 27) (hm : p.mode = 7) (h : b.toNat ≠ 7) :
    Calls Try.prog 49 #[.agg #[.int .i64 (p.mode : Int), .int .u8 (p.priv : Int), vp, vi, vu], .int .u8 (b.toNat : Int)] w (VtPost S (p, []) w) := by
  have HP := Lib.hid hp
  have HI := Lib.hid hi
  have HU := Lib.hid hu
  have HSS := Lib.hid hS
  obtain ⟨Ap, cp, rfl, p1, p2⟩ := hp.form
  obtain ⟨Ai, ci, rfl, i1, i2⟩ := hi.form
  obtain ⟨Au, cu, rfl, u1, u2⟩ := hu.form
  clear hp hi hu hS
  have hb255 := b.toNat_lt
  have d24 : ((b.toNat : Int) == 24) = false := beq_eq_false_iff_ne.2 (by omega)
  have d26 : ((b.toNat : Int) == 26) = false := beq_eq_false_iff_ne.2 (by omega)
  have d27 : ((b.toNat : Int) == 27) = false := beq_eq_false_iff_ne.2 (by omega)
  have m0 : ((p.mode : Int) == 0) = false := beq_eq_false_iff_ne.2 (by omega)
  have m7 : ((p.mode : Int) == 7) = true := beq_iff_eq.2 (by omega)
  have d7 : ((b.toNat : Int) == 7) = false := beq_eq_false_iff_ne.2 (by omega)
  clear h24 h26 h27 hm h
  go_enter Try.func49, Try.ntmps49
  go_wp2
  exact bodyPost_ret (v := .tuple #[.agg #[.int .i64 (p.mode : Int), .int .u8 (p.priv : Int), Value.slice Ap p.params.length cp, Value.slice Ai p.inter.length ci, Value.slice Au p.utf.length cu], .slice none 0 0]) (by simp [results, Try.results49, go_sem]) rfl ⟨_, _, rfl, ⟨_, _, _, rfl, sl_old (two_new w _ _).1 HSS.out HP.out, sl_old (two_new w _ _).1 HSS.out HI.out, sl_old (two_new w _ _).1 HSS.out HU.out⟩, AS.nil _ _ _, (two_new w _ _).1⟩
set_option maxHeartbeats 1000000 in
set_option maxRecDepth 100000 in
theorem stepr_c1 (vp vi vu : Value) (p : Pr) (b : UInt8) (S : Nat → Prop) (w : World) (hp : SL vI w S vp p.params) (hi : SL vB w S vi p.inter) (hu : SL vB w S vu p.utf) (hS : ∀ x, S x → x < w.heap.size) (h24 : b.toNat ≠ 24) (h26 : b.toNat ≠ 26) (h27 : b.toNat ≠ 27) (hm0 : p.mode ≠ 0) (hm7 : p.mode ≠ 7) (h : b.toNat < 32) :
    Calls Try.prog 49 #[.agg #[.int .i64 (p.mode : Int), .int .u8 (p.priv : Int), vp, vi, vu], .int .u8 (b.toNat : Int)] w (VtPost S (p, [acC b.toNat]) w) := by
  have HP := Lib.hid hp
  have HI := Lib.hid hi
  have HU := Lib.hid hu
  have HSS := Lib.hid hS
  obtain ⟨Ap, cp, rfl, p1, p2⟩ := hp.form
  obtain ⟨Ai, ci, rfl, i1, i2⟩ := hi.form
  obtain ⟨Au, cu, rfl, u1, u2⟩ := hu.form
  clear hp hi hu hS
  have hb255 := b.toNat_lt
  have d24 : ((b.toNat : Int) == 24) = false := beq_eq_false_iff_ne.2 (by omega)
  have d26 : ((b.toNat : Int) == 26) = false := beq_eq_false_iff_ne.2 (by omega)
  have d27 : ((b.toNat : Int) == 27) = false := beq_eq_false_iff_ne.2 (by omega)
  have m0 : ((p.mode : Int) == 0) = false := beq_eq_false_iff_ne.2 (by omega)
  have m7 : ((p.mode : Int) == 7) = false := beq_eq_false_iff_ne.2 (by omega)
  have l32 : (b.toNat : Int) < 32 := by omega
  clear h24 h26 h27 hm0 hm7
  go_enter Try.func49, Try.ntmps49
  go_wp2
  exact bodyPost_ret (v := .tuple #[.agg #[.int .i64 (p.mode : Int), .int .u8 (p.priv : Int), Value.slice Ap p.params.length cp, Value.slice Ai p.inter.length ci, Value.slice Au p.utf.length cu], .slice (some ⟨w.heap.size + 1 + 1, 0, none⟩) 1 1]) (by simp [results, Try.results49, go_sem]) rfl ⟨_, _, rfl, ⟨_, _, _, rfl, sl_old ((two_new w _ _).1.alloc (by simp; omega) _) HSS.out HP.out, sl_old ((two_new w _ _).1.alloc (by simp; omega) _) HSS.out HI.out, sl_old ((two_new w _ _).1.alloc (by simp; omega) _) HSS.out HU.out⟩, act_new0 (two_new w _ _).1 HSS.out (acC b.toNat) _ _ _ _ (by simp) (SL.nil _ _ _) (SL.nil _ _ _) _ rfl, (two_new w _ _).1.alloc (by simp; omega) _⟩
set_option maxHeartbeats 1000000 in
set_option maxRecDepth 100000 in
theorem stepr_c2 (vp vi vu : Value) (p : Pr) (b : UInt8) (S : Nat → Prop) (w : World) (hp : SL vI w S vp p.params) (hi : SL vB w S vi p.inter) (hu : SL vB w S vu p.utf) (hS : ∀ x, S x → x < w.heap.size) (h24 : b.toNat ≠ 24) (h26 : b.toNat ≠ 26) (h27 : b.toNat ≠ 27) (hm0 : p.mode ≠ 0) (hm7 : p.mode ≠ 7) (h : b.toNat = 127) :
    Calls Try.prog 49 #[.agg #[.int .i64 (p.mode : Int), .int .u8 (p.priv : Int), vp, vi, vu], .int .u8 (b.toNat : Int)] w (VtPost S (p, []) w) := by
  have HP := Lib.hid hp
  have HI := Lib.hid hi
  have HU := Lib.hid hu
  have HSS := Lib.hid hS
  obtain ⟨Ap, cp, rfl, p1, p2⟩ := hp.form
  obtain ⟨Ai, ci, rfl, i1, i2⟩ := hi.form
  obtain ⟨Au, cu, rfl, u1, u2⟩ := hu.form
  clear hp hi hu hS
  have hb255 := b.toNat_lt
  have d24 : ((b.toNat : Int) == 24) = false := beq_eq_false_iff_ne.2 (by omega)
  have d26 : ((b.toNat : Int) == 26) = false := beq_eq_false_iff_ne.2 (by omega)
  have d27 : ((b.toNat : Int) == 27) = false := beq_eq_false_iff_ne.2 (by omega)
  have m0 : ((p.mode : Int) == 0) = false := beq_eq_false_iff_ne.2 (by omega)
  have m7 : ((p.mode : Int) == 7) = false := beq_eq_false_iff_ne.2 (by omega)
  have l32 : decide ((b.toNat : Int) < 32) = false := by simp; omega
  have d127 : ((b.toNat : Int) == 127) = true := beq_iff_eq.2 (by omega)
  clear h24 h26 h27 hm0 hm7 h
  go_enter Try.func49, Try.ntmps49
  go_wp2
  exact bodyPost_ret (v := .tuple #[.agg #[.int .i64 (p.mode : Int), .int .u8 (p.priv : Int), Value.slice Ap p.params.length cp, Value.slice Ai p.inter.length ci, Value.slice Au p.utf.length cu], .slice none 0 0]) (by simp [results, Try.results49, go_sem]) rfl ⟨_, _, rfl, ⟨_, _, _, rfl, sl_old (two_new w _ _).1 HSS.out HP.out, sl_old (two_new w _ _).1 HSS.out HI.out, sl_old (two_new w _ _).1 HSS.out HU.out⟩, AS.nil _ _ _, (two_new w _ _).1⟩
set_option maxHeartbeats 1000000 in
set_option maxRecDepth 100000 in
theorem stepr_c3 (vp vi vu : Value) (p : Pr) (b : UInt8) (S : Nat → Prop) (w : World) (hp : SL vI w S vp p.params) (hi : SL vB w S vi p.inter) (hu : SL vB w S vu p.utf) (hS : ∀ x, S x → x < w.heap.size) (h24 : b.toNat ≠ 24) (h26 : b.toNat ≠ 26) (h27 : b.toNat ≠ 27) (hm0 : p.mode ≠ 0) (hm7 : p.mode ≠ 7) (h : 128 ≤ b.toNat) :
    Calls Try.prog 49 #[.agg #[.int .i64 (p.mode : Int), .int .u8 (p.priv : Int), vp, vi, vu], .int .u8 (b.toNat : Int)] w (VtPost S (prM 0, []) w) := by
  have HP := Lib.hid hp
  have HI := Lib.hid hi
  have HU := Lib.hid hu
  have HSS := Lib.hid hS
  obtain ⟨Ap, cp, rfl, p1, p2⟩ := hp.form
  obtain ⟨Ai, ci, rfl, i1, i2⟩ := hi.form
  obtain ⟨Au, cu, rfl, u1, u2⟩ := hu.form
  clear hp hi hu hS
  have hb255 := b.toNat_lt
  have d24 : ((b.toNat : Int) == 24) = false := beq_eq_false_iff_ne.2 (by omega)
  have d26 : ((b.toNat : Int) == 26) = false := beq_eq_false_iff_ne.2 (by omega)
  have d27 : ((b.toNat : Int) == 27) = false := beq_eq_false_iff_ne.2 (by omega)
  have m0 : ((p.mode : Int) == 0) = false := beq_eq_false_iff_ne.2 (by omega)
  have m7 : ((p.mode : Int) == 7) = false := beq_eq_false_iff_ne.2 (by omega)
  have l32 : decide ((b.toNat : Int) < 32) = false := by simp; omega
  have d127 : ((b.toNat : Int) == 127) = false := beq_eq_false_iff_ne.2 (by omega)
  have g128 : (128 : Int) ≤ (b.toNat : Int) := by omega
  clear h24 h26 h27 hm0 hm7
  go_enter Try.func49, Try.ntmps49
  go_wp2
  exact bodyPost_ret (v := .tuple #[.agg #[.int .i64 0, .int .u8 0, .slice none 0 0, .slice none 0 0, .slice none 0 0], .slice none 0 0]) (by simp [results, Try.results49, go_sem]) rfl ⟨_, _, rfl, prM_pv _ _ 0, AS.nil _ _ _, (two_new w _ _).1⟩
set_option maxHeartbeats 1000000 in
set_option maxRecDepth 100000 in
theorem stepr_e1 (vp vi vu : Value) (p : Pr) (b : UInt8) (S : Nat → Prop) (w : World) (hp : SL vI w S vp p.params) (hi : SL vB w S vi p.inter) (hu : SL vB w S vu p.utf) (hS : ∀ x, S x → x < w.heap.size) (h24 : b.toNat ≠ 24) (h26 : b.toNat ≠ 26) (h27 : b.toNat ≠ 27) (hm0 : p.mode ≠ 0) (hm7 : p.mode ≠ 7) (hb0 : 32 ≤ b.toNat) (hb1 : b.toNat < 127) (hm : p.mode = 1) (hB : interB b = true) :
    Calls Try.prog 49 #[.agg #[.int .i64 (p.mode : Int), .int .u8 (p.priv : Int), vp, vi, vu], .int .u8 (b.toNat : Int)] w (VtPost S ({ prM 2 with inter := [b] }, []) w) := by
  have HP := Lib.hid hp
  have HI := Lib.hid hi
  have HU := Lib.hid hu
  have HSS := Lib.hid hS
  obtain ⟨Ap, cp, rfl, p1, p2⟩ := hp.form
  obtain ⟨Ai, ci, rfl, i1, i2⟩ := hi.form
  obtain ⟨Au, cu, rfl, u1, u2⟩ := hu.form
  clear hp hi hu hS
  have hb255 := b.toNat_lt
  have d24 : ((b.toNat : Int) == 24) = false := beq_eq_false_iff_ne.2 (by omega)
  have d26 : ((b.toNat : Int) == 26) = false := beq_eq_false_iff_ne.2 (by omega)
  have d27 : ((b.toNat : Int) == 27) = false := beq_eq_false_iff_ne.2 (by omega)
  have m0 : ((p.mode : Int) == 0) = false := beq_eq_false_iff_ne.2 (by omega)
  have m7 : ((p.mode : Int) == 7) = false := beq_eq_false_iff_ne.2 (by omega)
  have l32 : decide ((b.toNat : Int) < 32) = false := by simp; omega
  have d127 : ((b.toNat : Int) == 127) = false := beq_eq_false_iff_ne.2 (by omega)
  have g128 : decide ((128 : Int) ≤ (b.toNat : Int)) = false := by simp; omega
  have m1 : ((p.mode : Int) == 1) = true := beq_iff_eq.2 (by omega)
  have HIB := Lib.hid hB
  clear hB
  clear h24 h26 h27 hm0 hm7 hm
  go_enter Try.func49, Try.ntmps49
  go_wp2_with (go_at_call 57; refine (interr_any b _).mono ?_; rintro e w' ⟨rfl, rfl⟩; rw [HIB.out])
  exact bodyPost_ret (v := .tuple #[.agg #[.int .i64 2, .int .u8 0, .slice none 0 0, .slice (some ⟨w.heap.size + 1 + 1, 0, none⟩) 1 1, .slice none 0 0], .slice none 0 0]) (by simp [results, Try.results49, go_sem]) rfl ⟨_, _, rfl, ⟨_, _, _, rfl, SL.nil _ _ _, byte_new (two_new w _ _).1 b _ _ (by simp), SL.nil _ _ _⟩, AS.nil _ _ _, (two_new w _ _).1.alloc (by simp; omega) _⟩
set_option maxHeartbeats 1000000 in
set_option maxRecDepth 100000 in
theorem stepr_e2 (vp vi vu : Value) (p : Pr) (b : UInt8) (S : Nat → Prop) (w : World) (hp : SL vI w S vp p.params) (hi : SL vB w S vi p.inter) (hu : SL vB w S vu p.utf) (hS : ∀ x, S x → x < w.heap.size) (h24 : b.toNat ≠ 24) (h26 : b.toNat ≠ 26) (h27 : b.toNat ≠ 27) (hm0 : p.mode ≠ 0) (hm7 : p.mode ≠ 7) (hb0 : 32 ≤ b.toNat) (hb1 : b.toNat < 127) (hm : p.mode = 1) (hB : interB b = false) (h : b.toNat = 91) :
    Calls Try.prog 49 #[.agg #[.int .i64 (p.mode : Int), .int .u8 (p.priv : Int), vp, vi, vu], .int .u8 (b.toNat : Int)] w (VtPost S (prM 4, []) w) := by
  have HP := Lib.hid hp
  have HI := Lib.hid hi
  have HU := Lib.hid hu
  have HSS := Lib.hid hS
  obtain ⟨Ap, cp, rfl, p1, p2⟩ := hp.form
  obtain ⟨Ai, ci, rfl, i1, i2⟩ := hi.form
  obtain ⟨Au, cu, rfl, u1, u2⟩ := hu.form
  clear hp hi hu hS
  have hb255 := b.toNat_lt
  have d24 : ((b.toNat : Int) == 24) = false := beq_eq_false_iff_ne.2 (by omega)
  have d26 : ((b.toNat : Int) == 26) = false := beq_eq_false_iff_ne.2 (by omega)
  have d27 : ((b.toNat : Int) == 27) = false := beq_eq_false_iff_ne.2 (by omega)
  have m0 : ((p.mode : Int) == 0) = false := beq_eq_false_iff_ne.2 (by omega)
  have m7 : ((p.mode : Int) == 7) = false := beq_eq_false_iff_ne.2 (by omega)
  have l32 : decide ((b.toNat : Int) < 32) = false := by simp; omega
  have d127 : ((b.toNat : Int) == 127) = false := beq_eq_false_iff_ne.2 (by omega)
  have g128 : decide ((128 : Int) ≤ (b.toNat : Int)) = false := by simp; omega
  have m1 : ((p.mode : Int) == 1) = true := beq_iff_eq.2 (by omega)
  have HIB := Lib.hid hB
  clear hB
  have d91 : ((b.toNat : Int) == 91) = true := beq_iff_eq.2 (by omega)
  clear h24 h26 h27 hm0 hm7 hm h
  go_enter Try.func49, Try.ntmps49
  go_wp2_with (go_at_call 57; refine (interr_any b _).mono ?_; rintro e w' ⟨rfl, rfl⟩; rw [HIB.out])
  exact bodyPost_ret (v := .tuple #[.agg #[.int .i64 4, .int .u8 0, .slice none 0 0, .slice none 0 0, .slice none 0 0], .slice none 0 0]) (by simp [results, Try.results49, go_sem]) rfl ⟨_, _, rfl, prM_pv _ _ 4, AS.nil _ _ _, (two_new w _ _).1⟩
set_option maxHeartbeats 1000000 in
set_option maxRecDepth 100000 in
theorem stepr_e3_93 (vp vi vu : Value) (p : Pr) (b : UInt8) (S : Nat → Prop) (w : World) (hp : SL vI w S vp p.params) (hi : SL vB w S vi p.inter) (hu : SL vB w S vu p.utf) (hS : ∀ x, S x → x < w.heap.size) (h24 : b.toNat ≠ 24) (h26 : b.toNat ≠ 26) (h27 : b.toNat ≠ 27) (hm0 : p.mode ≠ 0) (hm7 : p.mode ≠ 7) (hb0 : 32 ≤ b.toNat) (hb1 : b.toNat < 127) (hm : p.mode = 1) (hB : interB b = false) (h : b.toNat = 93) :
    Calls Try.prog 49 #[.agg #[.int .i64 (p.mode : Int), .int .u8 (p.priv : Int), vp, vi, vu], .int .u8 (b.toNat : Int)] w (VtPost S (prM 7, []) w) := by
  have HP := Lib.hid hp
  have HI := Lib.hid hi
  have HU := Lib.hid hu
  have HSS := Lib.hid hS
  obtain ⟨Ap, cp, rfl, p1, p2⟩ := hp.form
  obtain ⟨Ai, ci, rfl, i1, i2⟩ := hi.form
  obtain ⟨Au, cu, rfl, u1, u2⟩ := hu.form
  clear hp hi hu hS
  have hb255 := b.toNat_lt
  have d24 : ((b.toNat : Int) == 24) = false := beq_eq_false_iff_ne.2 (by omega)
  have d26 : ((b.toNat : Int) == 26) = false := beq_eq_false_iff_ne.2 (by omega)
  have d27 : ((b.toNat : Int) == 27) = false := beq_eq_false_iff_ne.2 (by omega)
  have m0 : ((p.mode : Int) == 0) = false := beq_eq_false_iff_ne.2 (by omega)
  have m7 : ((p.mode : Int) == 7) = false := beq_eq_false_iff_ne.2 (by omega)
  have l32 : decide ((b.toNat : Int) < 32) = false := by simp; omega
  have d127 : ((b.toNat : Int) == 127) = false := beq_eq_false_iff_ne.2 (by omega)
  have g128 : decide ((128 : Int) ≤ (b.toNat : Int)) = false := by simp; omega
  have m1 : ((p.mode : Int) == 1) = true := beq_iff_eq.2 (by omega)
  have HIB := Lib.hid hB
  clear hB
  have d91 : ((b.toNat : Int) == 91) = false := beq_eq_false_iff_ne.2 (by omega)
  have d93 : ((b.toNat : Int) == 93) = true := beq_iff_eq.2 (by omega)
  clear h24 h26 h27 hm0 hm7 hm h
  go_enter Try.func49, Try.ntmps49
  go_wp2_with (go_at_call 57; refine (interr_any b _).mono ?_; rintro e w' ⟨rfl, rfl⟩; rw [HIB.out])
  exact bodyPost_ret (v := .tuple #[.agg #[.int .i64 7, .int .u8 0, .slice none 0 0, .slice none 0 0, .slice none 0 0], .slice none 0 0]) (by simp [results, Try.results49, go_sem]) rfl ⟨_, _, rfl, prM_pv _ _ 7, AS.nil _ _ _, (two_new w _ _).1⟩
set_option maxHeartbeats 1000000 in
set_option maxRecDepth 100000 in
theorem stepr_e3_80 (vp vi vu : Value) (p : Pr) (b : UInt8) (S : Nat → Prop) (w : World) (hp : SL vI w S vp p.params) (hi : SL vB w S vi p.inter) (hu : SL vB w S vu p.utf) (hS : ∀ x, S x → x < w.heap.size) (h24 : b.toNat ≠ 24) (h26 : b.toNat ≠ 26) (h27 : b.toNat ≠ 27) (hm0 : p.mode ≠ 0) (hm7 : p.mode ≠ 7) (hb0 : 32 ≤ b.toNat) (hb1 : b.toNat < 127) (hm : p.mode = 1) (hB : interB b = false) (h : b.toNat = 80) :
    Calls Try.prog 49 #[.agg #[.int .i64 (p.mode : Int), .int .u8 (p.priv : Int), vp, vi, vu], .int .u8 (b.toNat : Int)] w (VtPost S (prM 7, []) w) := by
  have HP := Lib.hid hp
  have HI := Lib.hid hi
  have HU := Lib.hid hu
  have HSS := Lib.hid hS
  obtain ⟨Ap, cp, rfl, p1, p2⟩ := hp.form
  obtain ⟨Ai, ci, rfl, i1, i2⟩ := hi.form
  obtain ⟨Au, cu, rfl, u1, u2⟩ := hu.form
  clear hp hi hu hS
  have hb255 := b.toNat_lt
  have d24 : ((b.toNat : Int) == 24) = false := beq_eq_false_iff_ne.2 (by omega)
  have d26 : ((b.toNat : Int) == 26) = false := beq_eq_false_iff_ne.2 (by omega)
  have d27 : ((b.toNat : Int) == 27) = false := beq_eq_false_iff_ne.2 (by omega)
  have m0 : ((p.mode : Int) == 0) = false := beq_eq_false_iff_ne.2 (by omega)
  have m7 : ((p.mode : Int) == 7) = false := beq_eq_false_iff_ne.2 (by omega)
  have l32 : decide ((b.toNat : Int) < 32) = false := by simp; omega
  have d127 : ((b.toNat : Int) == 127) = false := beq_eq_false_iff_ne.2 (by omega)
  have g128 : decide ((128 : Int) ≤ (b.toNat : Int)) = false := by simp; omega
  have m1 : ((p.mode : Int) == 1) = true := beq_iff_eq.2 (by omega)
  have HIB := Lib.hid hB
  clear hB
  have d91 : ((b.toNat : Int) == 91) = false := beq_eq_false_iff_ne.2 (by omega)
  have d93 : ((b.toNat : Int) == 93) = false := beq_eq_false_iff_ne.2 (by omega)
  have d80 : ((b.toNat : Int) == 80) = true := beq_iff_eq.2 (by omega)
  clear h24 h26 h27 hm0 hm7 hm h
  go_enter Try.func49, Try.ntmps49
  go_wp2_with (go_at_call 57; refine (interr_any b _).mono ?_; rintro e w' ⟨rfl, rfl⟩; rw [HIB.out])
  exact bodyPost_ret (v := .tuple #[.agg #[.int .i64 7, .int .u8 0, .slice none 0 0, .slice none 0 0, .slice none 0 0], .slice none 0 0]) (by simp [results, Try.results49, go_sem]) rfl ⟨_, _, rfl, prM_pv _ _ 7, AS.nil _ _ _, (two_new w _ _).1⟩
set_option maxHeartbeats 1000000 in
set_option maxRecDepth 100000 in
theorem stepr_e3_88 (vp vi vu : Value) (p : Pr) (b : UInt8) (S : Nat → Prop) (w : World) (hp : SL vI w S vp p.params) (hi : SL vB w S vi p.inter) (hu : SL vB w S vu p.utf) (hS : ∀ x, S x → x < w.heap.size) (h24 : b.toNat ≠ 24) (h26 : b.toNat ≠ 26) (h27 : b.toNat ≠ 27) (hm0 : p.mode ≠ 0) (hm7 : p.mode ≠ 7) (hb0 : 32 ≤ b.toNat) (hb1 : b.toNat < 127) (hm : p.mode = 1) (hB : interB b = false) (h : b.toNat = 88) :
    Calls Try.prog 49 #[.agg #[.int .i64 (p.mode : Int), .int .u8 (p.priv : Int), vp, vi, vu], .int .u8 (b.toNat : Int)] w (VtPost S (prM 7, []) w) := by
  have HP := Lib.hid hp
  have HI := Lib.hid hi
  have HU := Lib.hid hu
  have HSS := Lib.hid hS
  obtain ⟨Ap, cp, rfl, p1, p2⟩ := hp.form
  obtain ⟨Ai, ci, rfl, i1, i2⟩ := hi.form
  obtain ⟨Au, cu, rfl, u1, u2⟩ := hu.form
  clear hp hi hu hS
  have hb255 := b.toNat_lt
  have d24 : ((b.toNat : Int) == 24) = false := beq_eq_false_iff_ne.2 (by omega)
  have d26 : ((b.toNat : Int) == 26) = false := beq_eq_false_iff_ne.2 (by omega)
  have d27 : ((b.toNat : Int) == 27) = false := beq_eq_false_iff_ne.2 (by omega)
  have m0 : ((p.mode : Int) == 0) = false := beq_eq_false_iff_ne.2 (by omega)
  have m7 : ((p.mode : Int) == 7) = false := beq_eq_false_iff_ne.2 (by omega)
  have l32 : decide ((b.toNat : Int) < 32) = false := by simp; omega
  have d127 : ((b.toNat : Int) == 127) = false := beq_eq_false_iff_ne.2 (by omega)
  have g128 : decide ((128 : Int) ≤ (b.toNat : Int)) = false := by simp; omega
  have m1 : ((p.mode : Int) == 1) = true := beq_iff_eq.2 (by omega)
  have HIB := Lib.hid hB
  clear hB
  have d91 : ((b.toNat : Int) == 91) = false := beq_eq_false_iff_ne.2 (by omega)
  have d93 : ((b.toNat : Int) == 93) = false := beq_eq_false_iff_ne.2 (by omega)
  have d80 : ((b.toNat : Int) == 80) = false := beq_eq_false_iff_ne.2 (by omega)
  have d88 : ((b.toNat : Int) == 88) = true := beq_iff_eq.2 (by omega)
  clear h24 h26 h27 hm0 hm7 hm h
  go_enter Try.func49, Try.ntmps49
  go_wp2_with (go_at_call 57; refine (interr_any b _).mono ?_; rintro e w' ⟨rfl, rfl⟩; rw [HIB.out])
  exact bodyPost_ret (v := .tuple #[.agg #[.int .i64 7, .int .u8 0, .slice none 0 0, .slice none 0 0, .slice none 0 0], .slice none 0 0]) (by simp [results, Try.results49, go_sem]) rfl ⟨_, _, rfl, prM_pv _ _ 7, AS.nil _ _ _, (two_new w _ _).1⟩
set_option maxHeartbeats 1000000 in
set_option maxRecDepth 100000 in
theorem stepr_e3_94 (vp vi vu : Value) (p : Pr) (b : UInt8) (S : Nat → Prop) (w : World) (hp : SL vI w S vp p.params) (hi : SL vB w S vi p.inter) (hu : SL vB w S vu p.utf) (hS : ∀ x, S x → x < w.heap.size) (h24 : b.toNat ≠ 24) (h26 : b.toNat ≠ 26) (h27 : b.toNat ≠ 27) (hm0 : p.mode ≠ 0) (hm7 : p.mode ≠ 7) (hb0 : 32 ≤ b.toNat) (hb1 : b.toNat < 127) (hm : p.mode = 1) (hB : interB b = false) (h : b.toNat = 94) :
    Calls Try.prog 49 #[.agg #[.int .i64 (p.mode : Int), .int .u8 (p.priv : Int), vp, vi, vu], .int .u8 (b.toNat : Int)] w (VtPost S (prM 7, []) w) := by
  have HP := Lib.hid hp
  have HI := Lib.hid hi
  have HU := Lib.hid hu
  have HSS := Lib.hid hS
  obtain ⟨Ap, cp, rfl, p1, p2⟩ := hp.form
  obtain ⟨Ai, ci, rfl, i1, i2⟩ := hi.form
  obtain ⟨Au, cu, rfl, u1, u2⟩ := hu.form
  clear hp hi hu hS
  have hb255 := b.toNat_lt
  have d24 : ((b.toNat : Int) == 24) = false := beq_eq_false_iff_ne.2 (by omega)
  have d26 : ((b.toNat : Int) == 26) = false := beq_eq_false_iff_ne.2 (by omega)
  have d27 : ((b.toNat : Int) == 27) = false := beq_eq_false_iff_ne.2 (by omega)
  have m0 : ((p.mode : Int) == 0) = false := beq_eq_false_iff_ne.2 (by omega)
  have m7 : ((p.mode : Int) == 7) = false := beq_eq_false_iff_ne.2 (by omega)
  have l32 : decide ((b.toNat : Int) < 32) = false := by simp; omega
  have d127 : ((b.toNat : Int) == 127) = false := beq_eq_false_iff_ne.2 (by omega)
  have g128 : decide ((128 : Int) ≤ (b.toNat : Int)) = false := by simp; omega
  have m1 : ((p.mode : Int) == 1) = true := beq_iff_eq.2 (by omega)
  have HIB := Lib.hid hB
  clear hB
  have d91 : ((b.toNat : Int) == 91) = false := beq_eq_false_iff_ne.2 (by omega)
  have d93 : ((b.toNat : Int) == 93) = false := beq_eq_false_iff_ne.2 (by omega)
  have d80 : ((b.toNat : Int) == 80) = false := beq_eq_false_iff_ne.2 (by omega)
  have d88 : ((b.toNat : Int) == 88) = false := beq_eq_false_iff_ne.2 (by omega)
  have d94 : ((b.toNat : Int) == 94) = true := beq_iff_eq.2 (by omega)
  clear h24 h26 h27 hm0 hm7 hm h
  go_enter Try.func49, Try.ntmps49
  go_wp2_with (go_at_call 57; refine (interr_any b _).mono ?_; rintro e w' ⟨rfl, rfl⟩; rw [HIB.out])
  exact bodyPost_ret (v := .tuple #[.agg #[.int .i64 7, .int .u8 0, .slice none 0 0, .slice none 0 0, .slice none 0 0], .slice none 0 0]) (by simp [results, Try.results49, go_sem]) rfl ⟨_, _, rfl, prM_pv _ _ 7, AS.nil _ _ _, (two_new w _ _).1⟩
set_option maxHeartbeats 1000000 in
set_option maxRecDepth 100000 in
theorem stepr_e3_95 (vp vi vu : Value) (p : Pr) (b : UInt8) (S : Nat → Prop) (w : World) (hp : SL vI w S vp p.params) (hi : SL vB w S vi p.inter) (hu : SL vB w S vu p.utf) (hS : ∀ x, S x → x < w.heap.size) (h24 : b.toNat ≠ 24) (h26 : b.toNat ≠ 26) (h27 : b.toNat ≠ 27) (hm0 : p.mode ≠ 0) (hm7 : p.mode ≠ 7) (hb0 : 32 ≤ b.toNat) (hb1 : b.toNat < 127) (hm : p.mode = 1) (hB : interB b = false) (h : b.toNat = 95) :
    Calls Try.prog 49 #[.agg #[.int .i64 (p.mode : Int), .int .u8 (p.priv : Int), vp, vi, vu], .int .u8 (b.toNat : Int)] w (VtPost S (prM 7, []) w) := by
  have HP := Lib.hid hp
  have HI := Lib.hid hi
  have HU := Lib.hid hu
  have HSS := Lib.hid hS
  obtain ⟨Ap, cp, rfl, p1, p2⟩ := hp.form
  obtain ⟨Ai, ci, rfl, i1, i2⟩ := hi.form
  obtain ⟨Au, cu, rfl, u1, u2⟩ := hu.form
  clear hp hi hu hS
  have hb255 := b.toNat_lt
  have d24 : ((b.toNat : Int) == 24) = false := beq_eq_false_iff_ne.2 (by omega)
  have d26 : ((b.toNat : Int) == 26) = false := beq_eq_false_iff_ne.2 (by omega)
  have d27 : ((b.toNat : Int) == 27) = false := beq_eq_false_iff_ne.2 (by omega)
  have m0 : ((p.mode : Int) == 0) = false := beq_eq_false_iff_ne.2 (by omega)
  have m7 : ((p.mode : Int) == 7) = false := beq_eq_false_iff_ne.2 (by omega)
  have l32 : decide ((b.toNat : Int) < 32) = false := by simp; omega
  have d127 : ((b.toNat : Int) == 127) = false := beq_eq_false_iff_ne.2 (by omega)
  have g128 : decide ((128 : Int) ≤ (b.toNat : Int)) = false := by simp; omega
  have m1 : ((p.mode : Int) == 1) = true := beq_iff_eq.2 (by omega)
  have HIB := Lib.hid hB
  clear hB
  have d91 : ((b.toNat : Int) == 91) = false := beq_eq_false_iff_ne.2 (by omega)
  have d93 : ((b.toNat : Int) == 93) = false := beq_eq_false_iff_ne.2 (by omega)
  have d80 : ((b.toNat : Int) == 80) = false := beq_eq_false_iff_ne.2 (by omega)
  have d88 : ((b.toNat : Int) == 88) = false := beq_eq_false_iff_ne.2 (by omega)
  have d94 : ((b.toNat : Int) == 94) = false := beq_eq_false_iff_ne.2 (by omega)
  have d95 : ((b.toNat : Int) == 95) = true := beq_iff_eq.2 (by omega)
  clear h24 h26 h27 hm0 hm7 hm h
  go_enter Try.func49, Try.ntmps49
  go_wp2_with (go_at_call 57; refine (interr_any b _).mono ?_; rintro e w' ⟨rfl, rfl⟩; rw [HIB.out])
  exact bodyPost_ret (v := .tuple #[.agg #[.int .i64 7, .int .u8 0, .slice none 0 0, .slice none 0 0, .slice none 0 0], .slice none 0 0]) (by simp [results, Try.results49, go_sem]) rfl ⟨_, _, rfl, prM_pv _ _ 7, AS.nil _ _ _, (two_new w _ _).1⟩
set_option maxHeartbeats 1000000 in
set_option maxRecDepth 100000 in
theorem stepr_e4 (vp vi vu : Value) (p : Pr) (b : UInt8) (S : Nat → Prop) (w : World) (hp : SL vI w S vp p.params) (hi : SL vB w S vi p.inter) (hu : SL vB w S vu p.utf) (hS : ∀ x, S x → x < w.heap.size) (h24 : b.toNat ≠ 24) (h26 : b.toNat ≠ 26) (h27 : b.toNat ≠ 27) (hm0 : p.mode ≠ 0) (hm7 : p.mode ≠ 7) (hb0 : 32 ≤ b.toNat) (hb1 : b.toNat < 127) (hm : p.mode = 1) (hB : interB b = false) (h91 : b.toNat ≠ 91) (h93 : b.toNat ≠ 93) (h80 : b.toNat ≠ 80) (h88 : b.toNat ≠ 88) (h94 : b.toNat ≠ 94) (h95 : b.toNat ≠ 95) :
    Calls Try.prog 49 #[.agg #[.int .i64 (p.mode : Int), .int .u8 (p.priv : Int), vp, vi, vu], .int .u8 (b.toNat : Int)] w (VtPost S (prM 0, [acE b.toNat []]) w) := by
  have HP := Lib.hid hp
  have HI := Lib.hid hi
  have HU := Lib.hid hu
  have HSS := Lib.hid hS
  obtain ⟨Ap, cp, rfl, p1, p2⟩ := hp.form
  obtain ⟨Ai, ci, rfl, i1, i2⟩ := hi.form
  obtain ⟨Au, cu, rfl, u1, u2⟩ := hu.form
  clear hp hi hu hS
  have hb255 := b.toNat_lt
  have d24 : ((b.toNat : Int) == 24) = false := beq_eq_false_iff_ne.2 (by omega)
  have d26 : ((b.toNat : Int) == 26) = false := beq_eq_false_iff_ne.2 (by omega)
  have d27 : ((b.toNat : Int) == 27) = false := beq_eq_false_iff_ne.2 (by omega)
  have m0 : ((p.mode : Int) == 0) = false := beq_eq_false_iff_ne.2 (by omega)
  have m7 : ((p.mode : Int) == 7) = false := beq_eq_false_iff_ne.2 (by omega)
  have l32 : decide ((b.toNat : Int) < 32) = false := by simp; omega
  have d127 : ((b.toNat : Int) == 127) = false := beq_eq_false_iff_ne.2 (by omega)
  have g128 : decide ((128 : Int) ≤ (b.toNat : Int)) = false := by simp; omega
  have m1 : ((p.mode : Int) == 1) = true := beq_iff_eq.2 (by omega)
  have HIB := Lib.hid hB
  clear hB
  have d91 : ((b.toNat : Int) == 91) = false := beq_eq_false_iff_ne.2 (by omega)
  have d93 : ((b.toNat : Int) == 93) = false := beq_eq_false_iff_ne.2 (by omega)
  have d80 : ((b.toNat : Int) == 80) = false := beq_eq_false_iff_ne.2 (by omega)
  have d88 : ((b.toNat : Int) == 88) = false := beq_eq_false_iff_ne.2 (by omega)
  have d94 : ((b.toNat : Int) == 94) = false := beq_eq_false_iff_ne.2 (by omega)
  have d95 : ((b.toNat : Int) == 95) = false := beq_eq_false_iff_ne.2 (by omega)
  clear h24 h26 h27 hm0 hm7 hm h91 h93 h80 h88 h94 h95
  go_enter Try.func49, Try.ntmps49
  go_wp2_with (go_at_call 57; refine (interr_any b _).mono ?_; rintro e w' ⟨rfl, rfl⟩; rw [HIB.out])
  exact bodyPost_ret (v := .tuple #[.agg #[.int .i64 0, .int .u8 0, .slice none 0 0, .slice none 0 0, .slice none 0 0], .slice (some ⟨w.heap.size + 1 + 1, 0, none⟩) 1 1]) (by simp [results, Try.results49, go_sem]) rfl ⟨_, _, rfl, prM_pv _ _ 0, act_new0 (two_new w _ _).1 HSS.out (acE b.toNat []) _ _ _ _ (by simp) (SL.nil _ _ _) (SL.nil _ _ _) _ rfl, (two_new w _ _).1.alloc (by simp; omega) _⟩
set_option maxHeartbeats 1000000 in
set_option maxRecDepth 100000 in
theorem stepr_x1 (vp vi vu : Value) (p : Pr) (b : UInt8) (S : Nat → Prop) (w : World) (hp : SL vI w S vp p.params) (hi : SL vB w S vi p.inter) (hu : SL vB w S vu p.utf) (hS : ∀ x, S x → x < w.heap.size) (h24 : b.toNat ≠ 24) (h26 : b.toNat ≠ 26) (h27 : b.toNat ≠ 27) (hm0 : p.mode ≠ 0) (hm7 : p.mode ≠ 7) (hb0 : 32 ≤ b.toNat) (hb1 : b.toNat < 127) (hm : p.mode = 3) (h : 48 ≤ b.toNat) :
    Calls Try.prog 49 #[.agg #[.int .i64 (p.mode : Int), .int .u8 (p.priv : Int), vp, vi, vu], .int .u8 (b.toNat : Int)] w (VtPost S (prM 0, []) w) := by
  have HP := Lib.hid hp
  have HI := Lib.hid hi
  have HU := Lib.hid hu
  have HSS := Lib.hid hS
  obtain ⟨Ap, cp, rfl, p1, p2⟩ := hp.form
  obtain ⟨Ai, ci, rfl, i1, i2⟩ := hi.form
  obtain ⟨Au, cu, rfl, u1, u2⟩ := hu.form
  clear hp hi hu hS
  have hb255 := b.toNat_lt
  have d24 : ((b.toNat : Int) == 24) = false := beq_eq_false_iff_ne.2 (by omega)
  have d26 : ((b.toNat : Int) == 26) = false := beq_eq_false_iff_ne.2 (by omega)
  have d27 : ((b.toNat : Int) == 27) = false := beq_eq_false_iff_ne.2 (by omega)
  have m0 : ((p.mode : Int) == 0) = false := beq_eq_false_iff_ne.2 (by omega)
  have m7 : ((p.mode : Int) == 7) = false := beq_eq_false_iff_ne.2 (by omega)
  have l32 : decide ((b.toNat : Int) < 32) = false := by simp; omega
  have d127 : ((b.toNat : Int) == 127) = false := beq_eq_false_iff_ne.2 (by omega)
  have g128 : decide ((128 : Int) ≤ (b.toNat : Int)) = false := by simp; omega
  have m1 : ((p.mode : Int) == 1) = false := beq_eq_false_iff_ne.2 (by omega)
  have m2 : ((p.mode : Int) == 2) = false := beq_eq_false_iff_ne.2 (by omega)
  have m3 : ((p.mode : Int) == 3) = true := beq_iff_eq.2 (by omega)
  have g48 : (48 : Int) ≤ (b.toNat : Int) := by omega
  clear h24 h26 h27 hm0 hm7 hm
  go_enter Try.func49, Try.ntmps49
  go_wp2
  exact bodyPost_ret (v := .tuple #[.agg #[.int .i64 0, .int .u8 0, .slice none 0 0, .slice none 0 0, .slice none 0 0], .slice none 0 0]) (by simp [results, Try.results49, go_sem]) rfl ⟨_, _, rfl, prM_pv _ _ 0, AS.nil _ _ _, (two_new w _ _).1⟩
set_option maxHeartbeats 1000000 in
set_option maxRecDepth 100000 in
theorem stepr_x2 (vp vi vu : Value) (p : Pr) (b : UInt8) (S : Nat → Prop) (w : World) (hp : SL vI w S vp p.params) (hi : SL vB w S vi p.inter) (hu : SL vB w S vu p.utf) (hS : ∀ x, S x → x < w.heap.size) (h24 : b.toNat ≠ 24) (h26 : b.toNat ≠ 26) (h27 : b.toNat ≠ 27) (hm0 : p.mode ≠ 0) (hm7 : p.mode ≠ 7) (hb0 : 32 ≤ b.toNat) (hb1 : b.toNat < 127) (hm : p.mode = 3) (h : ¬ 48 ≤ b.toNat) :
    Calls Try.prog 49 #[.agg #[.int .i64 (p.mode : Int), .int .u8 (p.priv : Int), vp, vi, vu], .int .u8 (b.toNat : Int)] w (VtPost S (p, []) w) := by
  have HP := Lib.hid hp
  have HI := Lib.hid hi
  have HU := Lib.hid hu
  have HSS := Lib.hid hS
  obtain ⟨Ap, cp, rfl, p1, p2⟩ := hp.form
  obtain ⟨Ai, ci, rfl, i1, i2⟩ := hi.form
  obtain ⟨Au, cu, rfl, u1, u2⟩ := hu.form
  clear hp hi hu hS
  have hb255 := b.toNat_lt
  have d24 : ((b.toNat : Int) == 24) = false := beq_eq_false_iff_ne.2 (by omega)
  have d26 : ((b.toNat : Int) == 26) = false := beq_eq_false_iff_ne.2 (by omega)
  have d27 : ((b.toNat : Int) == 27) = false := beq_eq_false_iff_ne.2 (by omega)
  have m0 : ((p.mode : Int) == 0) = false := beq_eq_false_iff_ne.2 (by omega)
  have m7 : ((p.mode : Int) == 7) = false := beq_eq_false_iff_ne.2 (by omega)
  have l32 : decide ((b.toNat : Int) < 32) = false := by simp; omega
  have d127 : ((b.toNat : Int) == 127) = false := beq_eq_false_iff_ne.2 (by omega)
  have g128 : decide ((128 : Int) ≤ (b.toNat : Int)) = false := by simp; omega
  have m1 : ((p.mode : Int) == 1) = false := beq_eq_false_iff_ne.2 (by omega)
  have m2 : ((p.mode : Int) == 2) = false := beq_eq_false_iff_ne.2 (by omega)
  have m3 : ((p.mode : Int) == 3) = true := beq_iff_eq.2 (by omega)
  have g48 : decide ((48 : Int) ≤ (b.toNat : Int)) = false := by simp; omega
  clear h24 h26 h27 hm0 hm7 hm
  go_enter Try.func49, Try.ntmps49
  go_wp2
  exact bodyPost_ret (v := .tuple #[.agg #[.int .i64 (p.mode : Int), .int .u8 (p.priv : Int), Value.slice Ap p.params.length cp, Value.slice Ai p.inter.length ci, Value.slice Au p.utf.length cu], .slice none 0 0]) (by simp [results, Try.results49, go_sem]) rfl ⟨_, _, rfl, ⟨_, _, _, rfl, sl_old (two_new w _ _).1 HSS.out HP.out, sl_old (two_new w _ _).1 HSS.out HI.out, sl_old (two_new w _ _).1 HSS.out HU.out⟩, AS.nil _ _ _, (two_new w _ _).1⟩
set_option maxHeartbeats 1000000 in
set_option maxRecDepth 100000 in
theorem stepr_y1 (vp vi vu : Value) (p : Pr) (b : UInt8) (S : Nat → Prop) (w : World) (hp : SL vI w S vp p.params) (hi : SL vB w S vi p.inter) (hu : SL vB w S vu p.utf) (hS : ∀ x, S x → x < w.heap.size) (h24 : b.toNat ≠ 24) (h26 : b.toNat ≠ 26) (h27 : b.toNat ≠ 27) (hm0 : p.mode ≠ 0) (hm7 : p.mode ≠ 7) (hb0 : 32 ≤ b.toNat) (hb1 : b.toNat < 127) (hm : p.mode = 6) (h : 64 ≤ b.toNat) :
    Calls Try.prog 49 #[.agg #[.int .i64 (p.mode : Int), .int .u8 (p.priv : Int), vp, vi, vu], .int .u8 (b.toNat : Int)] w (VtPost S (prM 0, []) w) := by
  have HP := Lib.hid hp
  have HI := Lib.hid hi
  have HU := Lib.hid hu
  have HSS := Lib.hid hS
  obtain ⟨Ap, cp, rfl, p1, p2⟩ := hp.form
  obtain ⟨Ai, ci, rfl, i1, i2⟩ := hi.form
  obtain ⟨Au, cu, rfl, u1, u2⟩ := hu.form
  clear hp hi hu hS
  have hb255 := b.toNat_lt
  have d24 : ((b.toNat : Int) == 24) = false := beq_eq_false_iff_ne.2 (by omega)
  have d26 : ((b.toNat : Int) == 26) = false := beq_eq_false_iff_ne.2 (by omega)
  have d27 : ((b.toNat : Int) == 27) = false := beq_eq_false_iff_ne.2 (by omega)
  have m0 : ((p.mode : Int) == 0) = false := beq_eq_false_iff_ne.2 (by omega)
  have m7 : ((p.mode : Int) == 7) = false := beq_eq_false_iff_ne.2 (by omega)
  have l32 : decide ((b.toNat : Int) < 32) = false := by simp; omega
  have d127 : ((b.toNat : Int) == 127) = false := beq_eq_false_iff_ne.2 (by omega)
  have g128 : decide ((128 : Int) ≤ (b.toNat : Int)) = false := by simp; omega
  have m1 : ((p.mode : Int) == 1) = false := beq_eq_false_iff_ne.2 (by omega)
  have m2 : ((p.mode : Int) == 2) = false := beq_eq_false_iff_ne.2 (by omega)
  have m3 : ((p.mode : Int) == 3) = false := beq_eq_false_iff_ne.2 (by omega)
  have m6 : ((p.mode : Int) == 6) = true := beq_iff_eq.2 (by omega)
  have g64 : (64 : Int) ≤ (b.toNat : Int) := by omega
  clear h24 h26 h27 hm0 hm7 hm
  go_enter Try.func49, Try.ntmps49
  go_wp2
  exact bodyPost_ret (v := .tuple #[.agg #[.int .i64 0, .int .u8 0, .slice none 0 0, .slice none 0 0, .slice none 0 0], .slice none 0 0]) (by simp [results, Try.results49, go_sem]) rfl ⟨_, _, rfl, prM_pv _ _ 0, AS.nil _ _ _, (two_new w _ _).1⟩
set_option maxHeartbeats 1000000 in
set_option maxRecDepth 100000 in
theorem stepr_y2 (vp vi vu : Value) (p : Pr) (b : UInt8) (S : Nat → Prop) (w : World) (hp : SL vI w S vp p.params) (hi : SL vB w S vi p.inter) (hu : SL vB w S vu p.utf) (hS : ∀ x, S x → x < w.heap.size) (h24 : b.toNat ≠ 24) (h26 : b.toNat ≠ 26) (h27 : b.toNat ≠ 27) (hm0 : p.mode ≠ 0) (hm7 : p.mode ≠ 7) (hb0 : 32 ≤ b.toNat) (hb1 : b.toNat < 127) (hm : p.mode = 6) (h : ¬ 64 ≤ b.toNat) :
    Calls Try.prog 49 #[.agg #[.int .i64 (p.mode : Int), .int .u8 (p.priv : Int), vp, vi, vu], .int .u8 (b.toNat : Int)] w (VtPost S (p, []) w) := by
  have HP := Lib.hid hp
  have HI := Lib.hid hi
  have HU := Lib.hid hu
  have HSS := Lib.hid hS
  obtain ⟨Ap, cp, rfl, p1, p2⟩ := hp.form
  obtain ⟨Ai, ci, rfl, i1, i2⟩ := hi.form
  obtain ⟨Au, cu, rfl, u1, u2⟩ := hu.form
  clear hp hi hu hS
  have hb255 := b.toNat_lt
  have d24 : ((b.toNat : Int) == 24) = false := beq_eq_false_iff_ne.2 (by omega)
  have d26 : ((b.toNat : Int) == 26) = false := beq_eq_false_iff_ne.2 (by omega)
  have d27 : ((b.toNat : Int) == 27) = false := beq_eq_false_iff_ne.2 (by omega)
  have m0 : ((p.mode : Int) == 0) = false := beq_eq_false_iff_ne.2 (by omega)
  have m7 : ((p.mode : Int) == 7) = false := beq_eq_false_iff_ne.2 (by omega)
  have l32 : decide ((b.toNat : Int) < 32) = false := by simp; omega
  have d127 : ((b.toNat : Int) == 127) = false := beq_eq_false_iff_ne.2 (by omega)
  have g128 : decide ((128 : Int) ≤ (b.toNat : Int)) = false := by simp; omega
  have m1 : ((p.mode : Int) == 1) = false := beq_eq_false_iff_ne.2 (by omega)
  have m2 : ((p.mode : Int) == 2) = false := beq_eq_false_iff_ne.2 (by omega)
  have m3 : ((p.mode : Int) == 3) = false := beq_eq_false_iff_ne.2 (by omega)
  have m6 : ((p.mode : Int) == 6) = true := beq_iff_eq.2 (by omega)
  have g64 : decide ((64 : Int) ≤ (b.toNat : Int)) = false := by simp; omega
  clear h24 h26 h27 hm0 hm7 hm
  go_enter Try.func49, Try.ntmps49
  go_wp2
  exact bodyPost_ret (v := .tuple #[.agg #[.int .i64 (p.mode : Int), .int .u8 (p.priv : Int), Value.slice Ap p.params.length cp, Value.slice Ai p.inter.length ci, Value.slice Au p.utf.length cu], .slice none 0 0]) (by simp [results, Try.results49, go_sem]) rfl ⟨_, _, rfl, ⟨_, _, _, rfl, sl_old (two_new w _ _).1 HSS.out HP.out, sl_old (two_new w _ _).1 HSS.out HI.out, sl_old (two_new w _ _).1 HSS.out HU.out⟩, AS.nil _ _ _, (two_new w _ _).1⟩
set_option maxHeartbeats 1000000 in
set_option maxRecDepth 100000 in
theorem stepr_i2 (vp vi vu : Value) (p : Pr) (b : UInt8) (S : Nat → Prop) (w : World) (hp : SL vI w S vp p.params) (hi : SL vB w S vi p.inter) (hu : SL vB w S vu p.utf) (hS : ∀ x, S x → x < w.heap.size) (h24 : b.toNat ≠ 24) (h26 : b.toNat ≠ 26) (h27 : b.toNat ≠ 27) (hm0 : p.mode ≠ 0) (hm7 : p.mode ≠ 7) (hb0 : 32 ≤ b.toNat) (hb1 : b.toNat < 127) (hm : p.mode = 2) (hB : interB b = true) (hl : 2 ≤ p.inter.length) :
    Calls Try.prog 49 #[.agg #[.int .i64 (p.mode : Int), .int .u8 (p.priv : Int), vp, vi, vu], .int .u8 (b.toNat : Int)] w (VtPost S (prM 3, []) w) := by
  have HP := Lib.hid hp
  have HI := Lib.hid hi
  have HU := Lib.hid hu
  have HSS := Lib.hid hS
  obtain ⟨Ap, cp, rfl, p1, p2⟩ := hp.form
  obtain ⟨Ai, ci, rfl, i1, i2⟩ := hi.form
  obtain ⟨Au, cu, rfl, u1, u2⟩ := hu.form
  clear hp hi hu hS
  have hb255 := b.toNat_lt
  have d24 : ((b.toNat : Int) == 24) = false := beq_eq_false_iff_ne.2 (by omega)
  have d26 : ((b.toNat : Int) == 26) = false := beq_eq_false_iff_ne.2 (by omega)
  have d27 : ((b.toNat : Int) == 27) = false := beq_eq_false_iff_ne.2 (by omega)
  have m0 : ((p.mode : Int) == 0) = false := beq_eq_false_iff_ne.2 (by omega)
  have m7 : ((p.mode : Int) == 7) = false := beq_eq_false_iff_ne.2 (by omega)
  have l32 : decide ((b.toNat : Int) < 32) = false := by simp; omega
  have d127 : ((b.toNat : Int) == 127) = false := beq_eq_false_iff_ne.2 (by omega)
  have g128 : decide ((128 : Int) ≤ (b.toNat : Int)) = false := by simp; omega
  have m1 : ((p.mode : Int) == 1) = false := beq_eq_false_iff_ne.2 (by omega)
  have m2 : ((p.mode : Int) == 2) = true := beq_iff_eq.2 (by omega)
  have HIB := Lib.hid hB
  clear hB
  have hl2 : (2 : Int) ≤ (p.inter.length : Int) := by omega
  clear h24 h26 h27 hm0 hm7 hm
  go_enter Try.func49, Try.ntmps49
  go_wp2_with (go_at_call 57; refine (interr_any b _).mono ?_; rintro e w' ⟨rfl, rfl⟩; rw [HIB.out])
  exact bodyPost_ret (v := .tuple #[.agg #[.int .i64 3, .int .u8 0, .slice none 0 0, .slice none 0 0, .slice none 0 0], .slice none 0 0]) (by simp [results, Try.results49, go_sem]) rfl ⟨_, _, rfl, prM_pv _ _ 3, AS.nil _ _ _, (two_new w _ _).1⟩
end Go.Proofs.Ytfimfipflfkolaa
