/- What is proved here: parts of the proofs of the laws of layer 10. -/
import Derived.Test.YthncoigjfhmldaaGreatS6
import Derived.Deep.RegionLaw
import Derived.OneCell
namespace Go.Proofs.YthncoigjfhmldaaGreat
open Go.RowKit
set_option linter.unusedVariables false
set_option linter.unusedSimpArgs false
set_option maxHeartbeats 1000000
set_option maxRecDepth 100000
theorem step_appA {ops : Array Oper} {o : Oper} {a : Act} {w : World} {K : Act → World → Prop} {Q : Exit → Act → World → Prop} {E : Prop} (hgd : o.guard = none) (s x : Operand)
  (ho : o.op = .call { callee := .builtin .append, args := #[s, x], argTypes := #[80, 80] })
  (base : Nat) (S R T : Nat → Prop) (v u : Value) (l m : List Ac) (hs : a.eval s = v) (hx : a.eval x = u) (hown : OA w base S v l) (hr : AS w R T u m) (hS : ∀ x, S x → x < w.heap.size) (hT : ∀ x, T x → x < w.heap.size) (hTg : ∀ g, v.ownBlock = some g → ¬ T g) (hlen : l.length + m.length ≤ 1099511627776) (hbase : base ≤ w.heap.size)
  (h : ∀ v' w', OA w' base (fun x => S x ∨ T x) v' (l ++ m) → w.grownBy w' v.ownBlock → Below base w w' → K (a.put o.dst v') w') :
  if Region.wanted o (yielded ops a.tmps) = true then Oper.wp Tryz.prog o a w K Q else E := by
 have hw : Region.wanted o (yielded ops a.tmps) = true := by simp [Region.wanted, hgd]
 rw [if_pos hw]
 obtain ⟨v', w', hrun, h2, h3, h4, h5⟩ := run_appA w o.type hown hr hS hT hTg hlen hbase
 unfold Oper.wp execOp
 simp only [ho, resolve, invoke, builtin, Sem.run_bind, Sem.run_pure, Result.andThen_ok, List.map_toArray, List.map_cons, List.map_nil, hs, hx, hrun]
 exact h v' w' h2 h3 h4
theorem csiL_len (p : Pr) (b : UInt8) : (csiL p b).2.length ≤ 1 := by
 unfold csiL
 repeat' split
 all_goals simp
theorem vtM_len (p : Pr) (b : UInt8) : (vtM p b).2.length ≤ 1 := by
 have h := csiL_len p b
 unfold vtM
 repeat' split
 all_goals (first | exact h | simp)
theorem vtN_len (p : Pr) (b : UInt8) : (vtN p b).2.length ≤ 2 := by
 have h1 := stepL_len [] b
 have h2 := vtM_len p b
 have h3 : (printsL (stepL [] b).2).length ≤ 2 := by simp [printsL]; omega
 unfold vtN
 repeat' split
 all_goals (first | exact h3 | (simp; done) | omega)
theorem row_kept {w4 w6 : World} {g : Nat} {o x : Obj} (h : w4.heap[g]? = some o) (hg : g < w4.heap.size) (hb : Below (w4.heap.size + 1) (w4.alloc x).drew w6) : w6.heap[g]? = some o := by
 refine (hb.block g (by omega)).trans ?_
 show (w4.heap.push x)[g]? = some o
 rw [Array.getElem?_push, if_neg (by omega)]
 exact h
theorem row_last {w4 w6 : World} {x : Obj} (hb : Below (w4.heap.size + 1) (w4.alloc x).drew w6) : w6.heap[w4.heap.size]? = some x := by
 refine (hb.block _ (by omega)).trans ?_
 show (w4.heap.push x)[w4.heap.size]? = some x
 rw [Array.getElem?_push, if_pos rfl]
theorem fin_post {w w4 w6 : World} {x : Obj} {S T : Nat → Prop} {m pr : Int} {vp vi vu av : Value} {q : Pr} {l : List Ac} (hb : Below w.heap.size w w4) (hS : ∀ x, S x → x < w.heap.size) (hz : w.heap.size + 1 + 1 ≤ w4.heap.size)
  (hq : PV w4 (fun x => S x ∨ NewB w4 (w.heap.size + 1 + 1) x) (.agg #[.int .i64 m, .int .u8 pr, vp, vi, vu]) q) (hb6 : Below (w4.heap.size + 1) (w4.alloc x).drew w6) (ho : OA w6 (w4.heap.size + 1) T av l) (hT : ∀ y, T y → S y ∨ NewB w4 (w.heap.size + 1 + 1) y) :
  VtPost S (q, l) w (.returned (.tuple #[.agg #[.int .i64 m, .int .u8 pr, vp, vi, vu], av])) (wset w w6 (.int .i64 m) (.int .u8 pr) vp vi vu) := by
 have hz6 : w4.heap.size + 1 ≤ w6.heap.size := by
  have := hb6.size
  have e : (w4.alloc x).drew.heap.size = w4.heap.size + 1 := by simp
  omega
 have hmono : ∀ y, (S y ∨ NewB w4 (w.heap.size + 1 + 1) y) → (S y ∨ NewB w6 (w.heap.size + 1 + 1) y) := fun y hy => hy.imp id (fun h => ⟨h.1, by have := h.2; omega⟩)
 have hk : ∀ a : Addr, (S a.block ∨ NewB w4 (w.heap.size + 1 + 1) a.block) → w6.cell? a = w4.cell? a := fun a ha => by
  have hlt : a.block < w4.heap.size := by
   rcases ha with h | h
   ·have := hS _ h; omega
   ·exact h.2
  exact (hb6.cell (p := a) (by omega)).trans (World.cell?_alloc_lt w4 x a hlt)
 have hbb : Below w.heap.size w w6 := hb.trans ((((Below.refl w4.heap.size w4).alloc (Nat.le_refl _) x).drew.trans (hb6.mono (by omega))).mono (by omega))
 exact hand_post (r := (q, l)) hbb hS (by omega) ((hq.keep hk).mono hmono) (ho.as.mono (fun y hy => ⟨by have := hy.1; omega, hy.2⟩) (fun y hy => hmono y (hT y hy)))
theorem vtr_none (vp vi vu : Value) (p : Pr) (b : UInt8) (S : Nat → Prop) (w : World) (hp : SL vI w S vp p.params) (hi : SL vB w S vi p.inter) (hu : SL vB w S vu p.utf) (hS : ∀ x, S x → x < w.heap.size) (hok : PrOk p) (hno : ¬ (p.mode = 0 ∧ 0 < p.utf.length)) :
  Calls Tryz.prog 41 #[.agg #[.int .i64 (p.mode : Int), .int .u8 (p.priv : Int), vp, vi, vu], .int .u8 (b.toNat : Int)] w (VtPost S (vtN p b) w) := by
 have HP := Lib.hid hp
 have HI := Lib.hid hi
 have HU := Lib.hid hu
 have HSS := Lib.hid hS
 obtain ⟨Ap, cp, rfl, p1, p2⟩ := hp.form
 obtain ⟨Ai, ci, rfl, i1, i2⟩ := hi.form
 obtain ⟨Au, cu, rfl, u1, u2⟩ := hu.form
 clear hp hi hu hS
 have HOK := Lib.hid hok
 have hlen := vtN_len p b
 clear hok
 by_cases hm : p.mode = 0
 ·have m0 : ((p.mode : Int) == 0) = true := beq_iff_eq.2 (by omega)
  have du : decide (0 < p.utf.length) = false := decide_eq_false (by omega)
  clear hm hno
  go_enter Tryz.func41, Tryz.ntmps41
  go_wp2_with (go_at_call 71; refine (vtNr_any _ _ _ p b S _ (HP.out.keep (fun q hq => (two_new w _ _).1.cell (HSS.out _ hq))) (HI.out.keep (fun q hq => (two_new w _ _).1.cell (HSS.out _ hq))) (HU.out.keep (fun q hq => (two_new w _ _).1.cell (HSS.out _ hq))) (fun x hx => Nat.lt_of_lt_of_le (HSS.out x hx) (two_new w _ _).1.size) HOK.out).mono ?_; rintro e w4 ⟨qv, av, rfl, hq, ha, hb4⟩; rw [(two_new w _ _).2] at hq ha hb4; obtain ⟨k0, k1⟩ := two_keptB hb4; obtain ⟨e0, e1, e2, e3, e4, ef⟩ := five_cells k1; have HQ := Lib.hid hq; have HA := Lib.hid ha; have HB4 := Lib.hid hb4; obtain ⟨v1, v2, v3, rfl, s1, s2, s3⟩ := hq; obtain ⟨Aa, ca, rfl, _, _⟩ := s1.form; obtain ⟨Ab, cb, rfl, _, _⟩ := s2.form; obtain ⟨Ac, cc, rfl, _, _⟩ := s3.form; have hz4 := hb4.size; rw [(two_new w _ _).2] at hz4; have K1 := Lib.hid k1; clear s1 s2 s3 ha hb4 k0 k1)
  have HS4 : Hid (∀ x, (S x ∨ NewB w4 (w.heap.size + 1 + 1) x) → x < w4.heap.size) := fun x hx => by
   rcases hx with h | h
   ·have := HSS.out x h; omega
   ·exact h.2
  have hka : ∀ (o : Obj) (q : Addr), q.block < w4.heap.size → (w4.alloc o).drew.cell? q = w4.cell? q := fun o q hq => World.cell?_alloc_lt w4 o q hq
  have HKA := Lib.hid hka
  clear hka
  go_region_law (refine step_appA rfl (.tmp 72) (.tmp 73) rfl (w4.heap.size + 1) (fun _ => False) (NewB w4 (w.heap.size + 1 + 1)) (fun x => S x ∨ NewB w4 (w.heap.size + 1 + 1) x) (.slice none 0 0) av [] (vtN p b).2 ?_ ?_ (OA.nil _ _ _) (HA.out.keep (fun q hq => HKA.out _ q hq.2) (fun q hq => HKA.out _ q (HS4.out _ hq))) (fun _ h => h.elim) (fun x hx => by have := HS4.out x hx; simp; omega) (fun g hg => by cases hg) (by simp; omega) (by simp) ?_; go_simp; go_simp; intro v6 w6 ho6 hg6 hb6; clear hg6; obtain ⟨f0, f1, f2, f3, f4, ff⟩ := five_cells (row_kept K1.out (by omega) hb6); obtain ⟨r0, r1, r2, r3, r4, rf⟩ := five_cells (row_last hb6))
  all_goals
   go_wp2
   have h2 := two_new w (.cells (vPq p Ap Ai Au cp ci cu) 28) (.cells #[Value.int .i64 0, Value.int .u8 0, Value.slice none 0 0, Value.slice none 0 0, Value.slice none 0 0] 28)
   exact bodyPost_ret (v := .tuple #[.agg #[.int .i64 ((vtN p b).1.mode : Int), .int .u8 ((vtN p b).1.priv : Int), Value.slice Aa (vtN p b).1.params.length ca, Value.slice Ab (vtN p b).1.inter.length cb, Value.slice Ac (vtN p b).1.utf.length cc], v6]) (by simp [results, Tryz.results41, go_sem, f0, f1, f2, f3, f4]) rfl (fin_post (h2.1.trans (HB4.out.mono (by omega))) HSS.out hz4 HQ.out hb6 ho6 (fun y hy => hy.elim False.elim id))
 ·have m0 : ((p.mode : Int) == 0) = false := beq_eq_false_iff_ne.2 (by omega)
  clear hm hno
  go_enter Tryz.func41, Tryz.ntmps41
  go_wp2_with (go_at_call 71; refine (vtNr_any _ _ _ p b S _ (HP.out.keep (fun q hq => (two_new w _ _).1.cell (HSS.out _ hq))) (HI.out.keep (fun q hq => (two_new w _ _).1.cell (HSS.out _ hq))) (HU.out.keep (fun q hq => (two_new w _ _).1.cell (HSS.out _ hq))) (fun x hx => Nat.lt_of_lt_of_le (HSS.out x hx) (two_new w _ _).1.size) HOK.out).mono ?_; rintro e w4 ⟨qv, av, rfl, hq, ha, hb4⟩; rw [(two_new w _ _).2] at hq ha hb4; obtain ⟨k0, k1⟩ := two_keptB hb4; obtain ⟨e0, e1, e2, e3, e4, ef⟩ := five_cells k1; have HQ := Lib.hid hq; have HA := Lib.hid ha; have HB4 := Lib.hid hb4; obtain ⟨v1, v2, v3, rfl, s1, s2, s3⟩ := hq; obtain ⟨Aa, ca, rfl, _, _⟩ := s1.form; obtain ⟨Ab, cb, rfl, _, _⟩ := s2.form; obtain ⟨Ac, cc, rfl, _, _⟩ := s3.form; have hz4 := hb4.size; rw [(two_new w _ _).2] at hz4; have K1 := Lib.hid k1; clear s1 s2 s3 ha hb4 k0 k1)
  have HS4 : Hid (∀ x, (S x ∨ NewB w4 (w.heap.size + 1 + 1) x) → x < w4.heap.size) := fun x hx => by
   rcases hx with h | h
   ·have := HSS.out x h; omega
   ·exact h.2
  have hka : ∀ (o : Obj) (q : Addr), q.block < w4.heap.size → (w4.alloc o).drew.cell? q = w4.cell? q := fun o q hq => World.cell?_alloc_lt w4 o q hq
  have HKA := Lib.hid hka
  clear hka
  go_region_law (refine step_appA rfl (.tmp 72) (.tmp 73) rfl (w4.heap.size + 1) (fun _ => False) (NewB w4 (w.heap.size + 1 + 1)) (fun x => S x ∨ NewB w4 (w.heap.size + 1 + 1) x) (.slice none 0 0) av [] (vtN p b).2 ?_ ?_ (OA.nil _ _ _) (HA.out.keep (fun q hq => HKA.out _ q hq.2) (fun q hq => HKA.out _ q (HS4.out _ hq))) (fun _ h => h.elim) (fun x hx => by have := HS4.out x hx; simp; omega) (fun g hg => by cases hg) (by simp; omega) (by simp) ?_; go_simp; go_simp; intro v6 w6 ho6 hg6 hb6; clear hg6; obtain ⟨f0, f1, f2, f3, f4, ff⟩ := five_cells (row_kept K1.out (by omega) hb6); obtain ⟨r0, r1, r2, r3, r4, rf⟩ := five_cells (row_last hb6))
  all_goals
   go_wp2
   have h2 := two_new w (.cells (vPq p Ap Ai Au cp ci cu) 28) (.cells #[Value.int .i64 0, Value.int .u8 0, Value.slice none 0 0, Value.slice none 0 0, Value.slice none 0 0] 28)
   exact bodyPost_ret (v := .tuple #[.agg #[.int .i64 ((vtN p b).1.mode : Int), .int .u8 ((vtN p b).1.priv : Int), Value.slice Aa (vtN p b).1.params.length ca, Value.slice Ab (vtN p b).1.inter.length cb, Value.slice Ac (vtN p b).1.utf.length cc], v6]) (by simp [results, Tryz.results41, go_sem, f0, f1, f2, f3, f4]) rfl (fin_post (h2.1.trans (HB4.out.mono (by omega))) HSS.out hz4 HQ.out hb6 ho6 (fun y hy => hy.elim False.elim id))
theorem utfr_in (w : World) (x y : Obj) {S : Nat → Prop} (hS : ∀ x, S x → x < w.heap.size) {v : Value} {u : List UInt8} (hu : SL vB w S v u) (b : UInt8) (Q : List UInt8) (R : List Nat) (h : stepL u b = (Q, R)) (nQ nR : Nat) (hnQ : Q.length = nQ) (hnR : R.length = nR) :
  Calls Tryz.prog 68 #[v, .int .u8 (b.toNat : Int)] ((w.alloc x).alloc y) fun e w' => ∃ Aq cq Ar cr, e = .returned (.tuple #[.slice Aq nQ cq, .slice Ar nR cr]) ∧ BN w' (w.heap.size + 1 + 1) (.slice Aq nQ cq) Q ∧ RS w' w'.heap.size (.slice Ar nR cr) (ints R) ∧ Below (w.heap.size + 1 + 1) ((w.alloc x).alloc y) w' := by
 subst hnQ hnR
 have h2 := two_new w x y
 refine (stepr_any v u b _ (((hu.bs hS).below h2.1).more h2.1.size)).mono ?_
 rintro e w' ⟨v1, v2, rfl, hq, hr, hb⟩
 rw [h] at hq hr
 rw [h2.2] at hq hb
 obtain ⟨Aq, cq, rfl, _, _, -⟩ := hq.1.at_
 obtain ⟨Ar, cr, rfl, _, _, -⟩ := hr.at_
 have hl : (ints R).length = R.length := by simp [ints]
 rw [hl] at hr ⊢
 exact ⟨Aq, cq, Ar, cr, rfl, hq, hr, hb⟩
theorem rune_first {w : World} {B n c : Nat} {A : Option Addr} {r : Nat} {R : List Nat} (h : RS w B (.slice A n c) (ints (r :: R))) : ∃ ad, A = some ad ∧ w.cell? ad = some (.int .i32 (r : Int)) := by
 obtain ⟨A', c', hv, _, _, h3⟩ := h
 simp only [Value.slice.injEq] at hv
 obtain ⟨ad, hA, _, hc⟩ := h3 (by simp [ints])
 have := hc 0 (Int.ofNat r) (by simp [ints])
 rw [show ad.add 0 = ad from by simp [Addr.add]] at this
 exact ⟨ad, hv.1.trans hA, this⟩
theorem vtr_go1 (vp vi vu : Value) (p : Pr) (b : UInt8) (S : Nat → Prop) (w : World) (hp : SL vI w S vp p.params) (hi : SL vB w S vi p.inter) (hu : SL vB w S vu p.utf) (hS : ∀ x, S x → x < w.heap.size) (hm : p.mode = 0) (hpl : 0 < p.utf.length) (h128 : 128 ≤ b.toNat) (Q : List UInt8) (R : List Nat) (hst : stepL p.utf b = (Q, R)) (hR : R.length = 0) :
  Calls Tryz.prog 41 #[.agg #[.int .i64 (p.mode : Int), .int .u8 (p.priv : Int), vp, vi, vu], .int .u8 (b.toNat : Int)] w (VtPost S ({ prM 0 with utf := Q }, printsL R) w) := by
 have HU := Lib.hid hu
 have HSS := Lib.hid hS
 have HST := Lib.hid hst
 have hlen := stepL_len p.utf b
 rw [hst] at hlen
 obtain ⟨hl1, hl2⟩ := hlen
 obtain ⟨nQ, hnQ⟩ : ∃ n, Q.length = n := ⟨_, rfl⟩
 obtain ⟨nR, hnR⟩ : ∃ n, R.length = n := ⟨_, rfl⟩
 have hl1' : nQ ≤ 3 := by rw [← hnQ]; exact hl1
 have hl2' : nR ≤ 2 := by rw [← hnR]; exact hl2
 have HNQ := Lib.hid hnQ
 have HNR := Lib.hid hnR
 obtain ⟨Ap, cp, rfl, p1, p2⟩ := hp.form
 obtain ⟨Ai, ci, rfl, i1, i2⟩ := hi.form
 obtain ⟨Au, cu, rfl, u1, u2⟩ := hu.form
 clear hp hi hu hS hst hl1 hl2
 have m0 : ((p.mode : Int) == 0) = true := beq_iff_eq.2 (by omega)
 have g128 : (128 : Int) ≤ (b.toNat : Int) := by omega
 clear hm
 have r0 : ((nR : Int) == 0) = true := beq_iff_eq.2 (by omega)
 clear hR
 clear hnQ hnR
 go_enter Tryz.func41, Tryz.ntmps41
 go_wp2_with (first
  | (go_at_call 68; (with_reducible refine (utfr_in w _ _ HSS.out HU.out b Q R HST.out nQ nR HNQ.out HNR.out).mono ?_); rintro e w4 ⟨Aq, cq, Ar, cr, rfl, hq, hr, hb4⟩; obtain ⟨k0, k1⟩ := two_keptB hb4; obtain ⟨c0, c1, c2, c3, c4, cf⟩ := five_cells k0; have HQ := Lib.hid hq; have HB4 := Lib.hid hb4; have HR := Lib.hid hr; clear hq hb4 hr k0 k1)
  | (go_at_call 70; (with_reducible refine (printsr_any _ R _ HR.out (by rw [HNR.out]; omega)).mono ?_); rintro e w5 ⟨v3, rfl, ho, hb5⟩; have hb45 := HB4.out.trans (hb5.mono (by have := HB4.out.size; rw [(two_new w _ _).2] at this; exact this)); obtain ⟨k0, k1⟩ := two_keptB hb45; obtain ⟨e0, e1, e2, e3, e4, ef⟩ := five_cells k1; have HB5 := Lib.hid hb5; have HB45 := Lib.hid hb45; have HO := Lib.hid ho; clear hb5 hb45 ho k0 k1))
 have h2 := two_new w (.cells (vPq p Ap Ai Au cp ci cu) 28) (.cells #[Value.int .i64 0, Value.int .u8 0, Value.slice none 0 0, Value.slice none 0 0, Value.slice none 0 0] 28)
 have hz4 := HB4.out.size
 rw [h2.2] at hz4
 exact bodyPost_ret (v := .tuple #[.agg #[.int .i64 0, .int .u8 0, .slice none 0 0, .slice none 0 0, Value.slice Aq nQ cq], v3]) (by simp [results, Tryz.results41, go_sem, e0, e1, e2, e3, e4]) rfl (utf_post (h2.1.trans (HB45.out.mono (by omega))) HQ.out HB5.out HO.out hz4)
theorem vtr_go2 (vp vi vu : Value) (p : Pr) (b : UInt8) (S : Nat → Prop) (w : World) (hp : SL vI w S vp p.params) (hi : SL vB w S vi p.inter) (hu : SL vB w S vu p.utf) (hS : ∀ x, S x → x < w.heap.size) (hm : p.mode = 0) (hpl : 0 < p.utf.length) (h128 : 128 ≤ b.toNat) (Q : List UInt8) (r : Nat) (R : List Nat) (hst : stepL p.utf b = (Q, r :: R)) (hr0 : r ≠ 65533) :
  Calls Tryz.prog 41 #[.agg #[.int .i64 (p.mode : Int), .int .u8 (p.priv : Int), vp, vi, vu], .int .u8 (b.toNat : Int)] w (VtPost S ({ prM 0 with utf := Q }, printsL (r :: R)) w) := by
 have HU := Lib.hid hu
 have HSS := Lib.hid hS
 have HST := Lib.hid hst
 have hlen := stepL_len p.utf b
 rw [hst] at hlen
 obtain ⟨hl1, hl2⟩ := hlen
 obtain ⟨nQ, hnQ⟩ : ∃ n, Q.length = n := ⟨_, rfl⟩
 obtain ⟨nR, hnR⟩ : ∃ n, (r :: R).length = n := ⟨_, rfl⟩
 have hl1' : nQ ≤ 3 := by rw [← hnQ]; exact hl1
 have hl2' : nR ≤ 2 := by rw [← hnR]; exact hl2
 have HNQ := Lib.hid hnQ
 have HNR := Lib.hid hnR
 obtain ⟨Ap, cp, rfl, p1, p2⟩ := hp.form
 obtain ⟨Ai, ci, rfl, i1, i2⟩ := hi.form
 obtain ⟨Au, cu, rfl, u1, u2⟩ := hu.form
 clear hp hi hu hS hst hl1 hl2
 have m0 : ((p.mode : Int) == 0) = true := beq_iff_eq.2 (by omega)
 have g128 : (128 : Int) ≤ (b.toNat : Int) := by omega
 clear hm
 have n0 : ((r : Int) != 65533) = true := by simp; omega
 have nr0 : ((nR : Int) == 0) = false := beq_eq_false_iff_ne.2 (by simp at hnR; omega)
 have nr1 : 0 < nR := by simp at hnR; omega
 clear hnQ hnR
 go_enter Tryz.func41, Tryz.ntmps41
 go_wp2_with (first
  | (go_at_call 68; (with_reducible refine (utfr_in w _ _ HSS.out HU.out b Q (r :: R) HST.out nQ nR HNQ.out HNR.out).mono ?_); rintro e w4 ⟨Aq, cq, Ar, cr, rfl, hq, hr, hb4⟩; obtain ⟨k0, k1⟩ := two_keptB hb4; obtain ⟨c0, c1, c2, c3, c4, cf⟩ := five_cells k0; obtain ⟨ad, rfl, cr0⟩ := rune_first hr; have HQ := Lib.hid hq; have HB4 := Lib.hid hb4; have HR := Lib.hid hr; clear hq hb4 hr k0 k1)
  | (go_at_call 70; (with_reducible refine (printsr_any _ (r :: R) _ HR.out (by rw [HNR.out]; omega)).mono ?_); rintro e w5 ⟨v3, rfl, ho, hb5⟩; have hb45 := HB4.out.trans (hb5.mono (by have := HB4.out.size; rw [(two_new w _ _).2] at this; exact this)); obtain ⟨k0, k1⟩ := two_keptB hb45; obtain ⟨e0, e1, e2, e3, e4, ef⟩ := five_cells k1; have HB5 := Lib.hid hb5; have HB45 := Lib.hid hb45; have HO := Lib.hid ho; clear hb5 hb45 ho k0 k1))
 have h2 := two_new w (.cells (vPq p Ap Ai Au cp ci cu) 28) (.cells #[Value.int .i64 0, Value.int .u8 0, Value.slice none 0 0, Value.slice none 0 0, Value.slice none 0 0] 28)
 have hz4 := HB4.out.size
 rw [h2.2] at hz4
 exact bodyPost_ret (v := .tuple #[.agg #[.int .i64 0, .int .u8 0, .slice none 0 0, .slice none 0 0, Value.slice Aq nQ cq], v3]) (by simp [results, Tryz.results41, go_sem, e0, e1, e2, e3, e4]) rfl (utf_post (h2.1.trans (HB45.out.mono (by omega))) HQ.out HB5.out HO.out hz4)
theorem vtr_go3 (vp vi vu : Value) (p : Pr) (b : UInt8) (S : Nat → Prop) (w : World) (hp : SL vI w S vp p.params) (hi : SL vB w S vi p.inter) (hu : SL vB w S vu p.utf) (hS : ∀ x, S x → x < w.heap.size) (hm : p.mode = 0) (hpl : 0 < p.utf.length) (h128 : 128 ≤ b.toNat) (Q : List UInt8) (hst : stepL p.utf b = (Q, [65533])) (hQ : Q.length = 0) (hf : formedB p.utf b = true) :
  Calls Tryz.prog 41 #[.agg #[.int .i64 (p.mode : Int), .int .u8 (p.priv : Int), vp, vi, vu], .int .u8 (b.toNat : Int)] w (VtPost S ({ prM 0 with utf := Q }, printsL [65533]) w) := by
 have HU := Lib.hid hu
 have HSS := Lib.hid hS
 have HST := Lib.hid hst
 have hlen := stepL_len p.utf b
 rw [hst] at hlen
 obtain ⟨hl1, hl2⟩ := hlen
 obtain ⟨nQ, hnQ⟩ : ∃ n, Q.length = n := ⟨_, rfl⟩
 obtain ⟨nR, hnR⟩ : ∃ n, [65533].length = n := ⟨_, rfl⟩
 have hl1' : nQ ≤ 3 := by rw [← hnQ]; exact hl1
 have hl2' : nR ≤ 2 := by rw [← hnR]; exact hl2
 have HNQ := Lib.hid hnQ
 have HNR := Lib.hid hnR
 obtain ⟨Ap, cp, rfl, p1, p2⟩ := hp.form
 obtain ⟨Ai, ci, rfl, i1, i2⟩ := hi.form
 obtain ⟨Au, cu, rfl, u1, u2⟩ := hu.form
 clear hp hi hu hS hst hl1 hl2
 have m0 : ((p.mode : Int) == 0) = true := beq_iff_eq.2 (by omega)
 have g128 : (128 : Int) ≤ (b.toNat : Int) := by omega
 clear hm
 have q0 : ((nQ : Int) == 0) = true := beq_iff_eq.2 (by omega)
 have nr0 : ((nR : Int) == 0) = false := beq_eq_false_iff_ne.2 (by simp at hnR; omega)
 have nr1 : ((nR : Int) == 1) = true := beq_iff_eq.2 (by simp at hnR; omega)
 have nr2 : 0 < nR := by simp at hnR; omega
 clear hQ
 have HF := Lib.hid hf
 clear hf
 clear hnQ hnR
 go_enter Tryz.func41, Tryz.ntmps41
 go_wp2_with (first
  | (go_at_call 68; (with_reducible refine (utfr_in w _ _ HSS.out HU.out b Q [65533] HST.out nQ nR HNQ.out HNR.out).mono ?_); rintro e w4 ⟨Aq, cq, Ar, cr, rfl, hq, hr, hb4⟩; obtain ⟨k0, k1⟩ := two_keptB hb4; obtain ⟨c0, c1, c2, c3, c4, cf⟩ := five_cells k0; obtain ⟨ad, rfl, cr0⟩ := rune_first hr; have HQ := Lib.hid hq; have HB4 := Lib.hid hb4; have HR := Lib.hid hr; clear hq hb4 hr k0 k1)
  | (go_at_call 69; (with_reducible refine (formedr_any _ p.utf b w.heap.size _ (((HU.out.bs HSS.out).below (two_new w _ _).1).below (HB4.out.mono (by omega)))).mono ?_); rintro e w5 ⟨rfl, rfl⟩; rw [HF.out])
  | (go_at_call 70; (with_reducible refine (printsr_any _ [65533] _ HR.out (by rw [HNR.out]; omega)).mono ?_); rintro e w5 ⟨v3, rfl, ho, hb5⟩; have hb45 := HB4.out.trans (hb5.mono (by have := HB4.out.size; rw [(two_new w _ _).2] at this; exact this)); obtain ⟨k0, k1⟩ := two_keptB hb45; obtain ⟨e0, e1, e2, e3, e4, ef⟩ := five_cells k1; have HB5 := Lib.hid hb5; have HB45 := Lib.hid hb45; have HO := Lib.hid ho; clear hb5 hb45 ho k0 k1))
 have h2 := two_new w (.cells (vPq p Ap Ai Au cp ci cu) 28) (.cells #[Value.int .i64 0, Value.int .u8 0, Value.slice none 0 0, Value.slice none 0 0, Value.slice none 0 0] 28)
 have hz4 := HB4.out.size
 rw [h2.2] at hz4
 exact bodyPost_ret (v := .tuple #[.agg #[.int .i64 0, .int .u8 0, .slice none 0 0, .slice none 0 0, Value.slice Aq nQ cq], v3]) (by simp [results, Tryz.results41, go_sem, e0, e1, e2, e3, e4]) rfl (utf_post (h2.1.trans (HB45.out.mono (by omega))) HQ.out HB5.out HO.out hz4)
theorem OA.set {w : World} {base : Nat} {v u : Value} {l : List Ac} {a : Addr} (h : OA w base (fun _ => False) v l) (hne : a.block < base) : OA (w.setCell a u) base (fun _ => False) v l := by
 obtain ⟨xs, h1, h2, h3⟩ := h
 exact ⟨xs, ownsRow_setCell_other h1 (fun e => by have := (World.ownsRow.lt h1 _ e).1; omega) u, h2.keep (fun _ hf => hf.elim), h3⟩
theorem row_kept9 {w7 w9 : World} {base g : Nat} {o x : Obj} (h : w7.heap[g]? = some o) (hg : g < w7.heap.size) (hgb : g < base) (hb : Below base (w7.alloc x).drew w9) : w9.heap[g]? = some o := by
 refine (hb.block g hgb).trans ?_
 show (w7.heap.push x)[g]? = some o
 rw [Array.getElem?_push, if_neg (by omega)]
 exact h
theorem row_last9 {w7 w9 : World} {row : Option Nat} {x : Obj} (hg : (w7.alloc x).drew.grownBy w9 row) (hr : ∀ g, row = some g → g < w7.heap.size) : w9.heap[w7.heap.size]? = some x := by
 refine (hg.block _ (by show w7.heap.size < (w7.heap.push x).size; simp) (fun e => by have := hr _ e.symm; omega)).trans ?_
 show (w7.heap.push x)[w7.heap.size]? = some x
 rw [Array.getElem?_push, if_pos rfl]
theorem fin_post9 {w w7 w9 : World} {x : Obj} {base lo : Nat} {row : Option Nat} {S T : Nat → Prop} {m pr : Int} {vp vi vu av : Value} {q : Pr} {l : List Ac} (hb : Below w.heap.size w w7) (hS : ∀ x, S x → x < w.heap.size) (hz : w.heap.size + 1 + 1 ≤ base) (hlo : base ≤ lo) (hz7 : base ≤ w7.heap.size)
  (hq : PV w7 (fun x => S x ∨ NewB w7 lo x) (.agg #[.int .i64 m, .int .u8 pr, vp, vi, vu]) q) (hb9 : Below base (w7.alloc x).drew w9) (hg9 : (w7.alloc x).drew.grownBy w9 row) (hT7 : ∀ x, (S x ∨ NewB w7 lo x) → x < w7.heap.size) (hrow : ∀ g, row = some g → ¬ (S g ∨ NewB w7 lo g)) (ho : OA w9 base T av l) (hT : ∀ y, T y → S y ∨ NewB w7 lo y) :
  VtPost S (q, l) w (.returned (.tuple #[.agg #[.int .i64 m, .int .u8 pr, vp, vi, vu], av])) (wset w w9 (.int .i64 m) (.int .u8 pr) vp vi vu) := by
 have hz9 : w7.heap.size + 1 ≤ w9.heap.size := by
  have := hg9.size
  have e : (w7.alloc x).drew.heap.size = w7.heap.size + 1 := by simp
  omega
 have hmono : ∀ y, (S y ∨ NewB w7 lo y) → (S y ∨ NewB w9 (w.heap.size + 1 + 1) y) := fun y hy => hy.imp id (fun h => ⟨by have := h.1; omega, by have := h.2; omega⟩)
 have hk : ∀ a : Addr, (S a.block ∨ NewB w7 lo a.block) → w9.cell? a = w7.cell? a := fun a ha => by
  have hlt := hT7 _ ha
  have e1 : w9.cell? a = (w7.alloc x).drew.cell? a := World.cell?_of_block (hg9.block a.block (by show a.block < (w7.heap.push x).size; simp; omega) (fun e => hrow _ e.symm ha))
  exact e1.trans (World.cell?_alloc_lt w7 x a hlt)
 have hbb : Below w.heap.size w w9 := hb.trans ((((Below.refl base w7).alloc hz7 x).drew.trans hb9).mono (by omega))
 exact hand_post (r := (q, l)) hbb hS (by omega) ((hq.keep hk).mono hmono) (ho.as.mono (fun y hy => ⟨by have := hy.1; omega, hy.2⟩) (fun y hy => hmono y (hT y hy)))
theorem vtr_br1 (vp vi vu : Value) (p : Pr) (b : UInt8) (S : Nat → Prop) (w : World) (hp : SL vI w S vp p.params) (hi : SL vB w S vi p.inter) (hu : SL vB w S vu p.utf) (hS : ∀ x, S x → x < w.heap.size) (hok : PrOk p) (hm : p.mode = 0) (hpl : 0 < p.utf.length) (Q : List UInt8) (R : List Nat) (hst : stepL p.utf b = (Q, R)) (h128 : ¬ 128 ≤ b.toNat) :
  Calls Tryz.prog 41 #[.agg #[.int .i64 (p.mode : Int), .int .u8 (p.priv : Int), vp, vi, vu], .int .u8 (b.toNat : Int)] w (VtPost S ((vtN { p with utf := [] } b).1, acP 65533 :: (vtN { p with utf := [] } b).2) w) := by
 have HP := Lib.hid hp
 have HI := Lib.hid hi
 have HU := Lib.hid hu
 have HSS := Lib.hid hS
 have HST := Lib.hid hst
 have HOK := Lib.hid (drop_ok p hok)
 have hvl := vtN_len { p with utf := [] } b
 obtain ⟨nQ, hnQ⟩ : ∃ n, Q.length = n := ⟨_, rfl⟩
 obtain ⟨nR, hnR⟩ : ∃ n, R.length = n := ⟨_, rfl⟩
 have HNQ := Lib.hid hnQ
 have HNR := Lib.hid hnR
 obtain ⟨Ap, cp, rfl, p1, p2⟩ := hp.form
 obtain ⟨Ai, ci, rfl, i1, i2⟩ := hi.form
 obtain ⟨Au, cu, rfl, u1, u2⟩ := hu.form
 clear hp hi hu hS hst hok
 have m0 : ((p.mode : Int) == 0) = true := beq_iff_eq.2 (by omega)
 have g128 : decide ((128 : Int) ≤ (b.toNat : Int)) = false := by simp; omega
 clear hm hnQ hnR
 go_enter Tryz.func41, Tryz.ntmps41
 go_wp2_with (first
  | (go_at_call 68; (with_reducible refine (utfr_in w _ _ HSS.out HU.out b Q R HST.out nQ nR HNQ.out HNR.out).mono ?_); rintro e w4 ⟨Aq, cq, Ar, cr, rfl, hq, hr, hb4⟩; obtain ⟨k0, k1⟩ := two_keptB hb4; obtain ⟨c0, c1, c2, c3, c4, cf⟩ := five_cells k0; have hz4 := hb4.size; rw [(two_new w _ _).2] at hz4; have K0 := Lib.hid k0; have K1 := Lib.hid k1; have HB4 := Lib.hid hb4; clear hq hb4 hr k0 k1)
  | (at_builtin; refine wpl_appA _ rfl (.tmp 60) (.tmp 62) rfl w4.heap.size (fun _ => False) _ (fun _ => False) (.slice none 0 0) _ [] [acP 65533] rfl rfl (OA.nil _ _ _) (AS.print w4 65533 _) (fun _ h => h.elim) (fun _ h => h.elim) (fun _ _ h => h) (by simp) (by simp) ?_; intro v5 w5 ho5 hg5 hb5 _; clear hg5; have b45 := ((Below.refl w4.heap.size w4).alloc (Nat.le_refl _) _).trans hb5; have hz5 := b45.size; obtain ⟨d0, d1, d2, d3, d4, df⟩ := five_cells ((b45.block _ (by omega)).trans K0.out); have HO5 := Lib.hid (OA.weak (S' := fun _ => False) ho5 (fun _ h => h.elim id id) (fun _ _ h => h)); have HB45 := Lib.hid b45; clear ho5 hb5 b45)
  | (go_at_call 71; fail))
 have h2 := two_new w (.cells (vPq p Ap Ai Au cp ci cu) 28) (.cells #[Value.int .i64 0, Value.int .u8 0, Value.slice none 0 0, Value.slice none 0 0, Value.slice none 0 0] 28)
 have hbw4 : Below w.heap.size w w4 := h2.1.trans (HB4.out.mono (by omega))
 have hbw6 : Below w.heap.size w (w5.setCell ⟨w.heap.size, 4, none⟩ (.slice none 0 0)) := (hbw4.trans (HB45.out.mono (by omega))).setCell (Nat.le_refl _) _
 have hz6 : (w5.setCell ⟨w.heap.size, 4, none⟩ (.slice none 0 0)).heap.size = w5.heap.size := by simp
 have hk6 : (w5.setCell ⟨w.heap.size, 4, none⟩ (.slice none 0 0)).heap[w.heap.size + 1]? = some (.cells #[Value.int .i64 0, Value.int .u8 0, Value.slice none 0 0, Value.slice none 0 0, Value.slice none 0 0] 28) := (Below.heap_setCell _ _ _ _ (by simp)).trans ((HB45.out.block _ (by omega)).trans K1.out)
 have ho6 : OA (w5.setCell ⟨w.heap.size, 4, none⟩ (.slice none 0 0)) w4.heap.size (fun _ => False) v5 [acP 65533] := HO5.out.set (by show w.heap.size < w4.heap.size; omega)
 generalize w5.setCell ⟨w.heap.size, 4, none⟩ (.slice none 0 0) = w6 at *
 have hz64 : w4.heap.size ≤ w6.heap.size := by omega
 have hcal := vtNr_any (.slice Ap p.params.length cp) (.slice Ai p.inter.length ci) (.slice none 0 0) { p with utf := [] } b S w6 (HP.out.keep (fun q hq => hbw6.cell (HSS.out _ hq))) (HI.out.keep (fun q hq => hbw6.cell (HSS.out _ hq))) (SL.nil _ _ _) (fun x hx => Nat.lt_of_lt_of_le (HSS.out x hx) hbw6.size) HOK.out
 generalize hV : vtN { p with utf := [] } b = V at *
 clear hV
 refine hcal.mono ?_
 rintro e w7 ⟨qv, av, rfl, hq, ha, hb7⟩
 have hz7 := hb7.size
 have HQ := Lib.hid hq
 have HA := Lib.hid ha
 obtain ⟨v1, v2, v3, rfl, s1, s2, s3⟩ := hq
 obtain ⟨Aa, ca, rfl, _, _⟩ := s1.form
 obtain ⟨Ab, cb, rfl, _, _⟩ := s2.form
 obtain ⟨Ac, cc, rfl, _, _⟩ := s3.form
 have K7 := Lib.hid ((hb7.block _ (by omega)).trans hk6)
 have HBW7 := Lib.hid (hbw6.trans (hb7.mono (by omega)))
 have HO7 := Lib.hid (ho6.below (fun _ h => h.elim) hb7)
 have HG : Hid (∀ g, v5.ownBlock = some g → w4.heap.size ≤ g ∧ g < w6.heap.size) := fun g hg => ho6.lt g hg
 have HT : Hid (∀ x, (S x ∨ NewB w7 w6.heap.size x) → x < w7.heap.size) := fun x hx => by
  rcases hx with h | h
  ·have := HSS.out x h; omega
  ·exact h.2
 have HTg : Hid (∀ g, v5.ownBlock = some g → ¬ (S g ∨ NewB w7 w6.heap.size g)) := fun g hg hx => by
  have hgg := HG.out g hg
  rcases hx with h | h
  ·have := HSS.out g h; omega
  ·have := h.1; omega
 clear s1 s2 s3 ha hb7 hk6 ho6 hcal hbw6 d0 d1 d2 d3 d4 df c0 c1 c2 c3 c4 cf
 go_wp2
 have HKA : Hid (∀ (o : Obj) (q : Addr), q.block < w7.heap.size → (w7.alloc o).drew.cell? q = w7.cell? q) := fun o q hq => World.cell?_alloc_lt w7 o q hq
 go_region_law (refine step_appA rfl (.tmp 72) (.tmp 73) rfl w4.heap.size (fun _ => False) (NewB w7 w6.heap.size) (fun x => S x ∨ NewB w7 w6.heap.size x) v5 av [acP 65533] V.2 ?_ ?_ (OA.below HO7.out (fun _ h => h.elim) ((Below.refl _ _).alloc (Nat.le_refl _) _).drew) (HA.out.keep (fun q hq => HKA.out _ q hq.2) (fun q hq => HKA.out _ q (HT.out _ hq))) (fun _ h => h.elim) (fun x hx => by have := HT.out x hx; simp; omega) HTg.out (by simp; omega) (by simp; omega) ?_; go_simp; go_simp; intro v9 w9 ho9 hg9 hb9; obtain ⟨f0, f1, f2, f3, f4, ff⟩ := five_cells (row_kept9 K7.out (by omega) (by omega) hb9); obtain ⟨r0, r1, r2, r3, r4, rf⟩ := five_cells (row_last9 hg9 (fun g hg => by have := HG.out g hg; omega)))
 all_goals
  go_wp2
  exact bodyPost_ret (v := .tuple #[.agg #[.int .i64 (V.1.mode : Int), .int .u8 (V.1.priv : Int), Value.slice Aa V.1.params.length ca, Value.slice Ab V.1.inter.length cb, Value.slice Ac V.1.utf.length cc], v9]) (by simp [results, Tryz.results41, go_sem, f0, f1, f2, f3, f4]) rfl (fin_post9 HBW7.out HSS.out hz4 (by omega) (by omega) HQ.out hb9 hg9 HT.out HTg.out ho9 (fun y hy => hy.elim False.elim id))
theorem vtr_br2 (vp vi vu : Value) (p : Pr) (b : UInt8) (S : Nat → Prop) (w : World) (hp : SL vI w S vp p.params) (hi : SL vB w S vi p.inter) (hu : SL vB w S vu p.utf) (hS : ∀ x, S x → x < w.heap.size) (hok : PrOk p) (hm : p.mode = 0) (hpl : 0 < p.utf.length) (Q : List UInt8) (R : List Nat) (hst : stepL p.utf b = (Q, 65533 :: R)) (h128 : 128 ≤ b.toNat) (hR : R.length ≠ 0) :
  Calls Tryz.prog 41 #[.agg #[.int .i64 (p.mode : Int), .int .u8 (p.priv : Int), vp, vi, vu], .int .u8 (b.toNat : Int)] w (VtPost S ((vtN { p with utf := [] } b).1, acP 65533 :: (vtN { p with utf := [] } b).2) w) := by
 have HP := Lib.hid hp
 have HI := Lib.hid hi
 have HU := Lib.hid hu
 have HSS := Lib.hid hS
 have HST := Lib.hid hst
 have HOK := Lib.hid (drop_ok p hok)
 have hvl := vtN_len { p with utf := [] } b
 obtain ⟨nQ, hnQ⟩ : ∃ n, Q.length = n := ⟨_, rfl⟩
 obtain ⟨nR, hnR⟩ : ∃ n, (65533 :: R).length = n := ⟨_, rfl⟩
 have HNQ := Lib.hid hnQ
 have HNR := Lib.hid hnR
 obtain ⟨Ap, cp, rfl, p1, p2⟩ := hp.form
 obtain ⟨Ai, ci, rfl, i1, i2⟩ := hi.form
 obtain ⟨Au, cu, rfl, u1, u2⟩ := hu.form
 clear hp hi hu hS hst hok
 have m0 : ((p.mode : Int) == 0) = true := beq_iff_eq.2 (by omega)
 have g128 : (128 : Int) ≤ (b.toNat : Int) := by omega
 have nr0 : ((nR : Int) == 0) = false := beq_eq_false_iff_ne.2 (by simp at hnR; omega)
 have nr1 : ((nR : Int) == 1) = false := beq_eq_false_iff_ne.2 (by simp at hnR; omega)
 have nr2 : 0 < nR := by simp at hnR; omega
 clear hR
 clear hm hnQ hnR
 go_enter Tryz.func41, Tryz.ntmps41
 go_wp2_with (first
  | (go_at_call 68; (with_reducible refine (utfr_in w _ _ HSS.out HU.out b Q (65533 :: R) HST.out nQ nR HNQ.out HNR.out).mono ?_); rintro e w4 ⟨Aq, cq, Ar, cr, rfl, hq, hr, hb4⟩; obtain ⟨k0, k1⟩ := two_keptB hb4; obtain ⟨c0, c1, c2, c3, c4, cf⟩ := five_cells k0; obtain ⟨ad, rfl, cr0⟩ := rune_first hr; have hz4 := hb4.size; rw [(two_new w _ _).2] at hz4; have K0 := Lib.hid k0; have K1 := Lib.hid k1; have HB4 := Lib.hid hb4; clear hq hb4 hr k0 k1)
  | (at_builtin; refine wpl_appA _ rfl (.tmp 60) (.tmp 62) rfl w4.heap.size (fun _ => False) _ (fun _ => False) (.slice none 0 0) _ [] [acP 65533] rfl rfl (OA.nil _ _ _) (AS.print w4 65533 _) (fun _ h => h.elim) (fun _ h => h.elim) (fun _ _ h => h) (by simp) (by simp) ?_; intro v5 w5 ho5 hg5 hb5 _; clear hg5; have b45 := ((Below.refl w4.heap.size w4).alloc (Nat.le_refl _) _).trans hb5; have hz5 := b45.size; obtain ⟨d0, d1, d2, d3, d4, df⟩ := five_cells ((b45.block _ (by omega)).trans K0.out); have HO5 := Lib.hid (OA.weak (S' := fun _ => False) ho5 (fun _ h => h.elim id id) (fun _ _ h => h)); have HB45 := Lib.hid b45; clear ho5 hb5 b45)
  | (go_at_call 71; fail))
 have h2 := two_new w (.cells (vPq p Ap Ai Au cp ci cu) 28) (.cells #[Value.int .i64 0, Value.int .u8 0, Value.slice none 0 0, Value.slice none 0 0, Value.slice none 0 0] 28)
 have hbw4 : Below w.heap.size w w4 := h2.1.trans (HB4.out.mono (by omega))
 have hbw6 : Below w.heap.size w (w5.setCell ⟨w.heap.size, 4, none⟩ (.slice none 0 0)) := (hbw4.trans (HB45.out.mono (by omega))).setCell (Nat.le_refl _) _
 have hz6 : (w5.setCell ⟨w.heap.size, 4, none⟩ (.slice none 0 0)).heap.size = w5.heap.size := by simp
 have hk6 : (w5.setCell ⟨w.heap.size, 4, none⟩ (.slice none 0 0)).heap[w.heap.size + 1]? = some (.cells #[Value.int .i64 0, Value.int .u8 0, Value.slice none 0 0, Value.slice none 0 0, Value.slice none 0 0] 28) := (Below.heap_setCell _ _ _ _ (by simp)).trans ((HB45.out.block _ (by omega)).trans K1.out)
 have ho6 : OA (w5.setCell ⟨w.heap.size, 4, none⟩ (.slice none 0 0)) w4.heap.size (fun _ => False) v5 [acP 65533] := HO5.out.set (by show w.heap.size < w4.heap.size; omega)
 generalize w5.setCell ⟨w.heap.size, 4, none⟩ (.slice none 0 0) = w6 at *
 have hz64 : w4.heap.size ≤ w6.heap.size := by omega
 have hcal := vtNr_any (.slice Ap p.params.length cp) (.slice Ai p.inter.length ci) (.slice none 0 0) { p with utf := [] } b S w6 (HP.out.keep (fun q hq => hbw6.cell (HSS.out _ hq))) (HI.out.keep (fun q hq => hbw6.cell (HSS.out _ hq))) (SL.nil _ _ _) (fun x hx => Nat.lt_of_lt_of_le (HSS.out x hx) hbw6.size) HOK.out
 generalize hV : vtN { p with utf := [] } b = V at *
 clear hV
 refine hcal.mono ?_
 rintro e w7 ⟨qv, av, rfl, hq, ha, hb7⟩
 have hz7 := hb7.size
 have HQ := Lib.hid hq
 have HA := Lib.hid ha
 obtain ⟨v1, v2, v3, rfl, s1, s2, s3⟩ := hq
 obtain ⟨Aa, ca, rfl, _, _⟩ := s1.form
 obtain ⟨Ab, cb, rfl, _, _⟩ := s2.form
 obtain ⟨Ac, cc, rfl, _, _⟩ := s3.form
 have K7 := Lib.hid ((hb7.block _ (by omega)).trans hk6)
 have HBW7 := Lib.hid (hbw6.trans (hb7.mono (by omega)))
 have HO7 := Lib.hid (ho6.below (fun _ h => h.elim) hb7)
 have HG : Hid (∀ g, v5.ownBlock = some g → w4.heap.size ≤ g ∧ g < w6.heap.size) := fun g hg => ho6.lt g hg
 have HT : Hid (∀ x, (S x ∨ NewB w7 w6.heap.size x) → x < w7.heap.size) := fun x hx => by
  rcases hx with h | h
  ·have := HSS.out x h; omega
  ·exact h.2
 have HTg : Hid (∀ g, v5.ownBlock = some g → ¬ (S g ∨ NewB w7 w6.heap.size g)) := fun g hg hx => by
  have hgg := HG.out g hg
  rcases hx with h | h
  ·have := HSS.out g h; omega
  ·have := h.1; omega
 clear s1 s2 s3 ha hb7 hk6 ho6 hcal hbw6 d0 d1 d2 d3 d4 df c0 c1 c2 c3 c4 cf
 go_wp2
 have HKA : Hid (∀ (o : Obj) (q : Addr), q.block < w7.heap.size → (w7.alloc o).drew.cell? q = w7.cell? q) := fun o q hq => World.cell?_alloc_lt w7 o q hq
 go_region_law (refine step_appA rfl (.tmp 72) (.tmp 73) rfl w4.heap.size (fun _ => False) (NewB w7 w6.heap.size) (fun x => S x ∨ NewB w7 w6.heap.size x) v5 av [acP 65533] V.2 ?_ ?_ (OA.below HO7.out (fun _ h => h.elim) ((Below.refl _ _).alloc (Nat.le_refl _) _).drew) (HA.out.keep (fun q hq => HKA.out _ q hq.2) (fun q hq => HKA.out _ q (HT.out _ hq))) (fun _ h => h.elim) (fun x hx => by have := HT.out x hx; simp; omega) HTg.out (by simp; omega) (by simp; omega) ?_; go_simp; go_simp; intro v9 w9 ho9 hg9 hb9; obtain ⟨f0, f1, f2, f3, f4, ff⟩ := five_cells (row_kept9 K7.out (by omega) (by omega) hb9); obtain ⟨r0, r1, r2, r3, r4, rf⟩ := five_cells (row_last9 hg9 (fun g hg => by have := HG.out g hg; omega)))
 all_goals
  go_wp2
  exact bodyPost_ret (v := .tuple #[.agg #[.int .i64 (V.1.mode : Int), .int .u8 (V.1.priv : Int), Value.slice Aa V.1.params.length ca, Value.slice Ab V.1.inter.length cb, Value.slice Ac V.1.utf.length cc], v9]) (by simp [results, Tryz.results41, go_sem, f0, f1, f2, f3, f4]) rfl (fin_post9 HBW7.out HSS.out hz4 (by omega) (by omega) HQ.out hb9 hg9 HT.out HTg.out ho9 (fun y hy => hy.elim False.elim id))
theorem vtr_br3 (vp vi vu : Value) (p : Pr) (b : UInt8) (S : Nat → Prop) (w : World) (hp : SL vI w S vp p.params) (hi : SL vB w S vi p.inter) (hu : SL vB w S vu p.utf) (hS : ∀ x, S x → x < w.heap.size) (hok : PrOk p) (hm : p.mode = 0) (hpl : 0 < p.utf.length) (Q : List UInt8) (hst : stepL p.utf b = (Q, [65533])) (h128 : 128 ≤ b.toNat) (hQ : Q.length ≠ 0) :
  Calls Tryz.prog 41 #[.agg #[.int .i64 (p.mode : Int), .int .u8 (p.priv : Int), vp, vi, vu], .int .u8 (b.toNat : Int)] w (VtPost S ((vtN { p with utf := [] } b).1, acP 65533 :: (vtN { p with utf := [] } b).2) w) := by
 have HP := Lib.hid hp
 have HI := Lib.hid hi
 have HU := Lib.hid hu
 have HSS := Lib.hid hS
 have HST := Lib.hid hst
 have HOK := Lib.hid (drop_ok p hok)
 have hvl := vtN_len { p with utf := [] } b
 obtain ⟨nQ, hnQ⟩ : ∃ n, Q.length = n := ⟨_, rfl⟩
 obtain ⟨nR, hnR⟩ : ∃ n, [65533].length = n := ⟨_, rfl⟩
 have HNQ := Lib.hid hnQ
 have HNR := Lib.hid hnR
 obtain ⟨Ap, cp, rfl, p1, p2⟩ := hp.form
 obtain ⟨Ai, ci, rfl, i1, i2⟩ := hi.form
 obtain ⟨Au, cu, rfl, u1, u2⟩ := hu.form
 clear hp hi hu hS hst hok
 have m0 : ((p.mode : Int) == 0) = true := beq_iff_eq.2 (by omega)
 have g128 : (128 : Int) ≤ (b.toNat : Int) := by omega
 have q0 : ((nQ : Int) == 0) = false := beq_eq_false_iff_ne.2 (by omega)
 have nr0 : ((nR : Int) == 0) = false := beq_eq_false_iff_ne.2 (by simp at hnR; omega)
 have nr1 : ((nR : Int) == 1) = true := beq_iff_eq.2 (by simp at hnR; omega)
 have nr2 : 0 < nR := by simp at hnR; omega
 clear hQ
 clear hm hnQ hnR
 go_enter Tryz.func41, Tryz.ntmps41
 go_wp2_with (first
  | (go_at_call 68; (with_reducible refine (utfr_in w _ _ HSS.out HU.out b Q [65533] HST.out nQ nR HNQ.out HNR.out).mono ?_); rintro e w4 ⟨Aq, cq, Ar, cr, rfl, hq, hr, hb4⟩; obtain ⟨k0, k1⟩ := two_keptB hb4; obtain ⟨c0, c1, c2, c3, c4, cf⟩ := five_cells k0; obtain ⟨ad, rfl, cr0⟩ := rune_first hr; have hz4 := hb4.size; rw [(two_new w _ _).2] at hz4; have K0 := Lib.hid k0; have K1 := Lib.hid k1; have HB4 := Lib.hid hb4; clear hq hb4 hr k0 k1)
  | (at_builtin; refine wpl_appA _ rfl (.tmp 60) (.tmp 62) rfl w4.heap.size (fun _ => False) _ (fun _ => False) (.slice none 0 0) _ [] [acP 65533] rfl rfl (OA.nil _ _ _) (AS.print w4 65533 _) (fun _ h => h.elim) (fun _ h => h.elim) (fun _ _ h => h) (by simp) (by simp) ?_; intro v5 w5 ho5 hg5 hb5 _; clear hg5; have b45 := ((Below.refl w4.heap.size w4).alloc (Nat.le_refl _) _).trans hb5; have hz5 := b45.size; obtain ⟨d0, d1, d2, d3, d4, df⟩ := five_cells ((b45.block _ (by omega)).trans K0.out); have HO5 := Lib.hid (OA.weak (S' := fun _ => False) ho5 (fun _ h => h.elim id id) (fun _ _ h => h)); have HB45 := Lib.hid b45; clear ho5 hb5 b45)
  | (go_at_call 71; fail))
 have h2 := two_new w (.cells (vPq p Ap Ai Au cp ci cu) 28) (.cells #[Value.int .i64 0, Value.int .u8 0, Value.slice none 0 0, Value.slice none 0 0, Value.slice none 0 0] 28)
 have hbw4 : Below w.heap.size w w4 := h2.1.trans (HB4.out.mono (by omega))
 have hbw6 : Below w.heap.size w (w5.setCell ⟨w.heap.size, 4, none⟩ (.slice none 0 0)) := (hbw4.trans (HB45.out.mono (by omega))).setCell (Nat.le_refl _) _
 have hz6 : (w5.setCell ⟨w.heap.size, 4, none⟩ (.slice none 0 0)).heap.size = w5.heap.size := by simp
 have hk6 : (w5.setCell ⟨w.heap.size, 4, none⟩ (.slice none 0 0)).heap[w.heap.size + 1]? = some (.cells #[Value.int .i64 0, Value.int .u8 0, Value.slice none 0 0, Value.slice none 0 0, Value.slice none 0 0] 28) := (Below.heap_setCell _ _ _ _ (by simp)).trans ((HB45.out.block _ (by omega)).trans K1.out)
 have ho6 : OA (w5.setCell ⟨w.heap.size, 4, none⟩ (.slice none 0 0)) w4.heap.size (fun _ => False) v5 [acP 65533] := HO5.out.set (by show w.heap.size < w4.heap.size; omega)
 generalize w5.setCell ⟨w.heap.size, 4, none⟩ (.slice none 0 0) = w6 at *
 have hz64 : w4.heap.size ≤ w6.heap.size := by omega
 have hcal := vtNr_any (.slice Ap p.params.length cp) (.slice Ai p.inter.length ci) (.slice none 0 0) { p with utf := [] } b S w6 (HP.out.keep (fun q hq => hbw6.cell (HSS.out _ hq))) (HI.out.keep (fun q hq => hbw6.cell (HSS.out _ hq))) (SL.nil _ _ _) (fun x hx => Nat.lt_of_lt_of_le (HSS.out x hx) hbw6.size) HOK.out
 generalize hV : vtN { p with utf := [] } b = V at *
 clear hV
 refine hcal.mono ?_
 rintro e w7 ⟨qv, av, rfl, hq, ha, hb7⟩
 have hz7 := hb7.size
 have HQ := Lib.hid hq
 have HA := Lib.hid ha
 obtain ⟨v1, v2, v3, rfl, s1, s2, s3⟩ := hq
 obtain ⟨Aa, ca, rfl, _, _⟩ := s1.form
 obtain ⟨Ab, cb, rfl, _, _⟩ := s2.form
 obtain ⟨Ac, cc, rfl, _, _⟩ := s3.form
 have K7 := Lib.hid ((hb7.block _ (by omega)).trans hk6)
 have HBW7 := Lib.hid (hbw6.trans (hb7.mono (by omega)))
 have HO7 := Lib.hid (ho6.below (fun _ h => h.elim) hb7)
 have HG : Hid (∀ g, v5.ownBlock = some g → w4.heap.size ≤ g ∧ g < w6.heap.size) := fun g hg => ho6.lt g hg
 have HT : Hid (∀ x, (S x ∨ NewB w7 w6.heap.size x) → x < w7.heap.size) := fun x hx => by
  rcases hx with h | h
  ·have := HSS.out x h; omega
  ·exact h.2
 have HTg : Hid (∀ g, v5.ownBlock = some g → ¬ (S g ∨ NewB w7 w6.heap.size g)) := fun g hg hx => by
  have hgg := HG.out g hg
  rcases hx with h | h
  ·have := HSS.out g h; omega
  ·have := h.1; omega
 clear s1 s2 s3 ha hb7 hk6 ho6 hcal hbw6 d0 d1 d2 d3 d4 df c0 c1 c2 c3 c4 cf
 go_wp2
 have HKA : Hid (∀ (o : Obj) (q : Addr), q.block < w7.heap.size → (w7.alloc o).drew.cell? q = w7.cell? q) := fun o q hq => World.cell?_alloc_lt w7 o q hq
 go_region_law (refine step_appA rfl (.tmp 72) (.tmp 73) rfl w4.heap.size (fun _ => False) (NewB w7 w6.heap.size) (fun x => S x ∨ NewB w7 w6.heap.size x) v5 av [acP 65533] V.2 ?_ ?_ (OA.below HO7.out (fun _ h => h.elim) ((Below.refl _ _).alloc (Nat.le_refl _) _).drew) (HA.out.keep (fun q hq => HKA.out _ q hq.2) (fun q hq => HKA.out _ q (HT.out _ hq))) (fun _ h => h.elim) (fun x hx => by have := HT.out x hx; simp; omega) HTg.out (by simp; omega) (by simp; omega) ?_; go_simp; go_simp; intro v9 w9 ho9 hg9 hb9; obtain ⟨f0, f1, f2, f3, f4, ff⟩ := five_cells (row_kept9 K7.out (by omega) (by omega) hb9); obtain ⟨r0, r1, r2, r3, r4, rf⟩ := five_cells (row_last9 hg9 (fun g hg => by have := HG.out g hg; omega)))
 all_goals
  go_wp2
  exact bodyPost_ret (v := .tuple #[.agg #[.int .i64 (V.1.mode : Int), .int .u8 (V.1.priv : Int), Value.slice Aa V.1.params.length ca, Value.slice Ab V.1.inter.length cb, Value.slice Ac V.1.utf.length cc], v9]) (by simp [results, Tryz.results41, go_sem, f0, f1, f2, f3, f4]) rfl (fin_post9 HBW7.out HSS.out hz4 (by omega) (by omega) HQ.out hb9 hg9 HT.out HTg.out ho9 (fun y hy => hy.elim False.elim id))
theorem vtr_br4 (vp vi vu : Value) (p : Pr) (b : UInt8) (S : Nat → Prop) (w : World) (hp : SL vI w S vp p.params) (hi : SL vB w S vi p.inter) (hu : SL vB w S vu p.utf) (hS : ∀ x, S x → x < w.heap.size) (hok : PrOk p) (hm : p.mode = 0) (hpl : 0 < p.utf.length) (Q : List UInt8) (hst : stepL p.utf b = (Q, [65533])) (h128 : 128 ≤ b.toNat) (hQ : Q.length = 0) (hf : formedB p.utf b = false) :
  Calls Tryz.prog 41 #[.agg #[.int .i64 (p.mode : Int), .int .u8 (p.priv : Int), vp, vi, vu], .int .u8 (b.toNat : Int)] w (VtPost S ((vtN { p with utf := [] } b).1, acP 65533 :: (vtN { p with utf := [] } b).2) w) := by
 have HP := Lib.hid hp
 have HI := Lib.hid hi
 have HU := Lib.hid hu
 have HSS := Lib.hid hS
 have HST := Lib.hid hst
 have HOK := Lib.hid (drop_ok p hok)
 have hvl := vtN_len { p with utf := [] } b
 obtain ⟨nQ, hnQ⟩ : ∃ n, Q.length = n := ⟨_, rfl⟩
 obtain ⟨nR, hnR⟩ : ∃ n, [65533].length = n := ⟨_, rfl⟩
 have HNQ := Lib.hid hnQ
 have HNR := Lib.hid hnR
 obtain ⟨Ap, cp, rfl, p1, p2⟩ := hp.form
 obtain ⟨Ai, ci, rfl, i1, i2⟩ := hi.form
 obtain ⟨Au, cu, rfl, u1, u2⟩ := hu.form
 clear hp hi hu hS hst hok
 have m0 : ((p.mode : Int) == 0) = true := beq_iff_eq.2 (by omega)
 have g128 : (128 : Int) ≤ (b.toNat : Int) := by omega
 have q0 : ((nQ : Int) == 0) = true := beq_iff_eq.2 (by omega)
 have nr0 : ((nR : Int) == 0) = false := beq_eq_false_iff_ne.2 (by simp at hnR; omega)
 have nr1 : ((nR : Int) == 1) = true := beq_iff_eq.2 (by simp at hnR; omega)
 have nr2 : 0 < nR := by simp at hnR; omega
 clear hQ
 have HF := Lib.hid hf
 clear hf
 clear hm hnQ hnR
 go_enter Tryz.func41, Tryz.ntmps41
 go_wp2_with (first
  | (go_at_call 68; (with_reducible refine (utfr_in w _ _ HSS.out HU.out b Q [65533] HST.out nQ nR HNQ.out HNR.out).mono ?_); rintro e w4 ⟨Aq, cq, Ar, cr, rfl, hq, hr, hb4⟩; obtain ⟨k0, k1⟩ := two_keptB hb4; obtain ⟨c0, c1, c2, c3, c4, cf⟩ := five_cells k0; obtain ⟨ad, rfl, cr0⟩ := rune_first hr; have hz4 := hb4.size; rw [(two_new w _ _).2] at hz4; have K0 := Lib.hid k0; have K1 := Lib.hid k1; have HB4 := Lib.hid hb4; clear hq hb4 hr k0 k1)
  | (go_at_call 69; (with_reducible refine (formedr_any _ p.utf b w.heap.size _ (((HU.out.bs HSS.out).below (two_new w _ _).1).below (HB4.out.mono (by omega)))).mono ?_); rintro e w4b ⟨rfl, rfl⟩; rw [HF.out])
  | (at_builtin; refine wpl_appA _ rfl (.tmp 60) (.tmp 62) rfl w4.heap.size (fun _ => False) _ (fun _ => False) (.slice none 0 0) _ [] [acP 65533] rfl rfl (OA.nil _ _ _) (AS.print w4 65533 _) (fun _ h => h.elim) (fun _ h => h.elim) (fun _ _ h => h) (by simp) (by simp) ?_; intro v5 w5 ho5 hg5 hb5 _; clear hg5; have b45 := ((Below.refl w4.heap.size w4).alloc (Nat.le_refl _) _).trans hb5; have hz5 := b45.size; obtain ⟨d0, d1, d2, d3, d4, df⟩ := five_cells ((b45.block _ (by omega)).trans K0.out); have HO5 := Lib.hid (OA.weak (S' := fun _ => False) ho5 (fun _ h => h.elim id id) (fun _ _ h => h)); have HB45 := Lib.hid b45; clear ho5 hb5 b45)
  | (go_at_call 71; fail))
 have h2 := two_new w (.cells (vPq p Ap Ai Au cp ci cu) 28) (.cells #[Value.int .i64 0, Value.int .u8 0, Value.slice none 0 0, Value.slice none 0 0, Value.slice none 0 0] 28)
 have hbw4 : Below w.heap.size w w4 := h2.1.trans (HB4.out.mono (by omega))
 have hbw6 : Below w.heap.size w (w5.setCell ⟨w.heap.size, 4, none⟩ (.slice none 0 0)) := (hbw4.trans (HB45.out.mono (by omega))).setCell (Nat.le_refl _) _
 have hz6 : (w5.setCell ⟨w.heap.size, 4, none⟩ (.slice none 0 0)).heap.size = w5.heap.size := by simp
 have hk6 : (w5.setCell ⟨w.heap.size, 4, none⟩ (.slice none 0 0)).heap[w.heap.size + 1]? = some (.cells #[Value.int .i64 0, Value.int .u8 0, Value.slice none 0 0, Value.slice none 0 0, Value.slice none 0 0] 28) := (Below.heap_setCell _ _ _ _ (by simp)).trans ((HB45.out.block _ (by omega)).trans K1.out)
 have ho6 : OA (w5.setCell ⟨w.heap.size, 4, none⟩ (.slice none 0 0)) w4.heap.size (fun _ => False) v5 [acP 65533] := HO5.out.set (by show w.heap.size < w4.heap.size; omega)
 generalize w5.setCell ⟨w.heap.size, 4, none⟩ (.slice none 0 0) = w6 at *
 have hz64 : w4.heap.size ≤ w6.heap.size := by omega
 have hcal := vtNr_any (.slice Ap p.params.length cp) (.slice Ai p.inter.length ci) (.slice none 0 0) { p with utf := [] } b S w6 (HP.out.keep (fun q hq => hbw6.cell (HSS.out _ hq))) (HI.out.keep (fun q hq => hbw6.cell (HSS.out _ hq))) (SL.nil _ _ _) (fun x hx => Nat.lt_of_lt_of_le (HSS.out x hx) hbw6.size) HOK.out
 generalize hV : vtN { p with utf := [] } b = V at *
 clear hV
 refine hcal.mono ?_
 rintro e w7 ⟨qv, av, rfl, hq, ha, hb7⟩
 have hz7 := hb7.size
 have HQ := Lib.hid hq
 have HA := Lib.hid ha
 obtain ⟨v1, v2, v3, rfl, s1, s2, s3⟩ := hq
 obtain ⟨Aa, ca, rfl, _, _⟩ := s1.form
 obtain ⟨Ab, cb, rfl, _, _⟩ := s2.form
 obtain ⟨Ac, cc, rfl, _, _⟩ := s3.form
 have K7 := Lib.hid ((hb7.block _ (by omega)).trans hk6)
 have HBW7 := Lib.hid (hbw6.trans (hb7.mono (by omega)))
 have HO7 := Lib.hid (ho6.below (fun _ h => h.elim) hb7)
 have HG : Hid (∀ g, v5.ownBlock = some g → w4.heap.size ≤ g ∧ g < w6.heap.size) := fun g hg => ho6.lt g hg
 have HT : Hid (∀ x, (S x ∨ NewB w7 w6.heap.size x) → x < w7.heap.size) := fun x hx => by
  rcases hx with h | h
  ·have := HSS.out x h; omega
  ·exact h.2
 have HTg : Hid (∀ g, v5.ownBlock = some g → ¬ (S g ∨ NewB w7 w6.heap.size g)) := fun g hg hx => by
  have hgg := HG.out g hg
  rcases hx with h | h
  ·have := HSS.out g h; omega
  ·have := h.1; omega
 clear s1 s2 s3 ha hb7 hk6 ho6 hcal hbw6 d0 d1 d2 d3 d4 df c0 c1 c2 c3 c4 cf
 go_wp2
 have HKA : Hid (∀ (o : Obj) (q : Addr), q.block < w7.heap.size → (w7.alloc o).drew.cell? q = w7.cell? q) := fun o q hq => World.cell?_alloc_lt w7 o q hq
 go_region_law (refine step_appA rfl (.tmp 72) (.tmp 73) rfl w4.heap.size (fun _ => False) (NewB w7 w6.heap.size) (fun x => S x ∨ NewB w7 w6.heap.size x) v5 av [acP 65533] V.2 ?_ ?_ (OA.below HO7.out (fun _ h => h.elim) ((Below.refl _ _).alloc (Nat.le_refl _) _).drew) (HA.out.keep (fun q hq => HKA.out _ q hq.2) (fun q hq => HKA.out _ q (HT.out _ hq))) (fun _ h => h.elim) (fun x hx => by have := HT.out x hx; simp; omega) HTg.out (by simp; omega) (by simp; omega) ?_; go_simp; go_simp; intro v9 w9 ho9 hg9 hb9; obtain ⟨f0, f1, f2, f3, f4, ff⟩ := five_cells (row_kept9 K7.out (by omega) (by omega) hb9); obtain ⟨r0, r1, r2, r3, r4, rf⟩ := five_cells (row_last9 hg9 (fun g hg => by have := HG.out g hg; omega)))
 all_goals
  go_wp2
  exact bodyPost_ret (v := .tuple #[.agg #[.int .i64 (V.1.mode : Int), .int .u8 (V.1.priv : Int), Value.slice Aa V.1.params.length ca, Value.slice Ab V.1.inter.length cb, Value.slice Ac V.1.utf.length cc], v9]) (by simp [results, Tryz.results41, go_sem, f0, f1, f2, f3, f4]) rfl (fin_post9 HBW7.out HSS.out hz4 (by omega) (by omega) HQ.out hb9 hg9 HT.out HTg.out ho9 (fun y hy => hy.elim False.elim id))
theorem vtr_any (vp vi vu : Value) (p : Pr) (b : UInt8) (S : Nat → Prop) (w : World) (hp : SL vI w S vp p.params) (hi : SL vB w S vi p.inter) (hu : SL vB w S vu p.utf) (hS : ∀ x, S x → x < w.heap.size) (hok : PrOk p) :
  Calls Tryz.prog 41 #[.agg #[.int .i64 (p.mode : Int), .int .u8 (p.priv : Int), vp, vi, vu], .int .u8 (b.toNat : Int)] w (VtPost S (vtL p b) w) := by
 by_cases hc : p.mode = 0 ∧ 0 < p.utf.length
 ·obtain ⟨Q, hQ⟩ : ∃ Q, (stepL p.utf b).1 = Q := ⟨_, rfl⟩
  obtain ⟨R, hR⟩ : ∃ R, (stepL p.utf b).2 = R := ⟨_, rfl⟩
  have hst : stepL p.utf b = (Q, R) := by rw [← hQ, ← hR]
  rw [show vtL p b = if goesB p.utf b = true then ({ prM 0 with utf := Q }, printsL R) else ((vtN { p with utf := [] } b).1, acP 65533 :: (vtN { p with utf := [] } b).2) from by unfold vtL; rw [if_pos hc, hQ, hR]]
  have hg : goesB p.utf b = (decide (128 ≤ b.toNat) && (decide (R.length = 0) || decide (R.getD 0 0 ≠ 65533) || (decide (R.length = 1) && decide (Q.length = 0) && formedB p.utf b))) := by unfold goesB; rw [hQ, hR]
  rw [hg]
  by_cases h128 : 128 ≤ b.toNat
  ·rcases R with _ | ⟨r, R⟩
   ·rw [if_pos (by simp [h128])]
    exact vtr_go1 vp vi vu p b S w hp hi hu hS hc.1 hc.2 h128 Q [] hst rfl
   ·by_cases hr : r = 65533
    ·subst hr
     rcases R with _ | ⟨r2, R⟩
     ·by_cases hq : Q.length = 0
      ·by_cases hf : formedB p.utf b = true
       ·rw [if_pos (by simp [h128, hq, hf])]
        exact vtr_go3 vp vi vu p b S w hp hi hu hS hc.1 hc.2 h128 Q hst hq hf
       ·rw [if_neg (by simp [h128, hq, hf])]
        exact vtr_br4 vp vi vu p b S w hp hi hu hS hok hc.1 hc.2 Q hst h128 hq (by simpa using hf)
      ·rw [if_neg (by simp [h128, hq])]
       exact vtr_br3 vp vi vu p b S w hp hi hu hS hok hc.1 hc.2 Q hst h128 hq
     ·rw [if_neg (by simp [h128])]
      exact vtr_br2 vp vi vu p b S w hp hi hu hS hok hc.1 hc.2 Q (r2 :: R) hst h128 (by simp)
    ·rw [if_pos (by simp [h128, hr])]
     exact vtr_go2 vp vi vu p b S w hp hi hu hS hc.1 hc.2 h128 Q r R hst hr
  ·rw [if_neg (by simp [h128])]
   exact vtr_br1 vp vi vu p b S w hp hi hu hS hok hc.1 hc.2 Q R hst h128
 ·rw [show vtL p b = vtN p b from by unfold vtL; rw [if_neg hc]]
  exact vtr_none vp vi vu p b S w hp hi hu hS hok hc
end Go.Proofs.YthncoigjfhmldaaGreat
