/- What is proved here: parts of layer 10's proofs. -/
import Derived.Test.YthepofkdgbcifaaGreatS4
import Derived.Deep.RegionLaw
import Derived.OneCell
namespace Go.Proofs.YthepofkdgbcifaaGreat
open Go.RowKit
set_option linter.unusedVariables false
set_option linter.unusedSimpArgs false
set_option maxHeartbeats 1000000
set_option maxRecDepth 100000
theorem step_appA {ops : Array Oper} {o : Oper} {a : Act} {w : World} {K : Act → World → Prop} {Q : Exit → Act → World → Prop} {E : Prop} (hgd : o.guard = none) (s x : Operand)
  (ho : o.op = .call { callee := .builtin .append, args := #[s, x], argTypes := #[80, 80] })
  (base : Nat) (S R T : Nat → Prop) (v u : Value) (l m : List Ac) (hs : a.eval s = v) (hx : a.eval x = u) (hown : OA w base S v l) (hr : AS w R T u m) (hS : ∀ x, S x → x < w.heap.size) (hT : ∀ x, T x → x < w.heap.size) (hTg : ∀ g, v.ownBlock = some g → ¬ T g) (hlen : l.length + m.length ≤ 1099511627776) (hbase : base ≤ w.heap.size)
  (h : ∀ v' w', OA w' base (fun x => S x ∨ T x) v' (l ++ m) → w.grownBy w' v.ownBlock → Below base w w' → K (a.put o.dst v') w') :
  if Region.wanted o (yielded ops a.tmps) = true then Oper.wp Tryz.prog o a w K Q else E := by
 have hw : Region.wanted o (yielded ops a.tmps) = true := by simp [Region.wanted, hgd]
 rw [if_pos hw]
 obtain ⟨v', w', hrun, h2, h3, h4, h5⟩ := run_appA w o.type hown hr hS hT hTg hlen hbase
 unfold Oper.wp execOp
 simp only [ho, resolve, invoke, builtin, Sem.run_bind, Sem.run_pure, Result.andThen_ok, List.map_toArray, List.map_cons, List.map_nil, hs, hx, hrun]
 exact h v' w' h2 h3 h4
theorem csiL_len (p : Pr) (b : UInt8) : (csiL p b).2.length ≤ 1 := by
 unfold csiL
 repeat' split
 all_goals simp
theorem vtM_len (p : Pr) (b : UInt8) : (vtM p b).2.length ≤ 1 := by
 have h := csiL_len p b
 unfold vtM
 repeat' split
 all_goals (first | exact h | simp)
theorem vtN_len (p : Pr) (b : UInt8) : (vtN p b).2.length ≤ 2 := by
 have h1 := stepL_len [] b
 have h2 := vtM_len p b
 have h3 : (printsL (stepL [] b).2).length ≤ 2 := by simp [printsL]; omega
 unfold vtN
 repeat' split
 all_goals (first | exact h3 | (simp; done) | omega)
theorem row_kept {w4 w6 : World} {g : Nat} {o x : Obj} (h : w4.heap[g]? = some o) (hg : g < w4.heap.size) (hb : Below (w4.heap.size + 1) (w4.alloc x).drew w6) : w6.heap[g]? = some o := by
 refine (hb.block g (by omega)).trans ?_
 show (w4.heap.push x)[g]? = some o
 rw [Array.getElem?_push, if_neg (by omega)]
 exact h
theorem row_last {w4 w6 : World} {x : Obj} (hb : Below (w4.heap.size + 1) (w4.alloc x).drew w6) : w6.heap[w4.heap.size]? = some x := by
 refine (hb.block _ (by omega)).trans ?_
 show (w4.heap.push x)[w4.heap.size]? = some x
 rw [Array.getElem?_push, if_pos rfl]
theorem fin_post {w w4 w6 : World} {x : Obj} {S T : Nat → Prop} {m pr : Int} {vp vi vu av : Value} {q : Pr} {l : List Ac} (hb : Below w.heap.size w w4) (hS : ∀ x, S x → x < w.heap.size) (hz : w.heap.size + 1 + 1 ≤ w4.heap.size)
  (hq : PV w4 (fun x => S x ∨ NewB w4 (w.heap.size + 1 + 1) x) (.agg #[.int .i64 m, .int .u8 pr, vp, vi, vu]) q) (hb6 : Below (w4.heap.size + 1) (w4.alloc x).drew w6) (ho : OA w6 (w4.heap.size + 1) T av l) (hT : ∀ y, T y → S y ∨ NewB w4 (w.heap.size + 1 + 1) y) :
  VtPost S (q, l) w (.returned (.tuple #[.agg #[.int .i64 m, .int .u8 pr, vp, vi, vu], av])) (wset w w6 (.int .i64 m) (.int .u8 pr) vp vi vu) := by
 have hz6 : w4.heap.size + 1 ≤ w6.heap.size := by
  have := hb6.size
  have e : (w4.alloc x).drew.heap.size = w4.heap.size + 1 := by simp
  omega
 have hmono : ∀ y, (S y ∨ NewB w4 (w.heap.size + 1 + 1) y) → (S y ∨ NewB w6 (w.heap.size + 1 + 1) y) := fun y hy => hy.imp id (fun h => ⟨h.1, by have := h.2; omega⟩)
 have hk : ∀ a : Addr, (S a.block ∨ NewB w4 (w.heap.size + 1 + 1) a.block) → w6.cell? a = w4.cell? a := fun a ha => by
  have hlt : a.block < w4.heap.size := by
   rcases ha with h | h
   ·have := hS _ h; omega
   ·exact h.2
  exact (hb6.cell (p := a) (by omega)).trans (World.cell?_alloc_lt w4 x a hlt)
 have hbb : Below w.heap.size w w6 := hb.trans ((((Below.refl w4.heap.size w4).alloc (Nat.le_refl _) x).drew.trans (hb6.mono (by omega))).mono (by omega))
 exact hand_post (r := (q, l)) hbb hS (by omega) ((hq.keep hk).mono hmono) (ho.as.mono (fun y hy => ⟨by have := hy.1; omega, hy.2⟩) (fun y hy => hmono y (hT y hy)))
theorem vtr_none (vp vi vu : Value) (p : Pr) (b : UInt8) (S : Nat → Prop) (w : World) (hp : SL vI w S vp p.params) (hi : SL vB w S vi p.inter) (hu : SL vB w S vu p.utf) (hS : ∀ x, S x → x < w.heap.size) (hok : PrOk p) (hno : ¬ (p.mode = 0 ∧ 0 < p.utf.length)) :
  Calls Tryz.prog 41 #[.agg #[.int .i64 (p.mode : Int), .int .u8 (p.priv : Int), vp, vi, vu], .int .u8 (b.toNat : Int)] w (VtPost S (vtN p b) w) := by
 have HP := Lh hp
 have HI := Lh hi
 have HU := Lh hu
 have HSS := Lh hS
 obtain ⟨Ap, cp, rfl, p1, p2⟩ := hp.form
 obtain ⟨Ai, ci, rfl, i1, i2⟩ := hi.form
 obtain ⟨Au, cu, rfl, u1, u2⟩ := hu.form
 clear hp hi hu hS
 have HOK := Lh hok
 have hlen := vtN_len p b
 clear hok
 by_cases hm : p.mode = 0
 ·have m0 : ((p.mode : Int) == 0) = true := beq_iff_eq.2 (by omega)
  have du : decide (0 < p.utf.length) = false := decide_eq_false (by omega)
  clear hm hno
  go_enter Tryz.func41, Tryz.ntmps41
  go_wp2_with (go_at_call 71; refine (vtNr_any _ _ _ p b S _ (HP.out.keep (fun q hq => (two_new w _ _).1.cell (HSS.out _ hq))) (HI.out.keep (fun q hq => (two_new w _ _).1.cell (HSS.out _ hq))) (HU.out.keep (fun q hq => (two_new w _ _).1.cell (HSS.out _ hq))) (fun x hx => Nat.lt_of_lt_of_le (HSS.out x hx) (two_new w _ _).1.size) HOK.out).mono ?_; rintro e w4 ⟨qv, av, rfl, hq, ha, hb4⟩; rw [(two_new w _ _).2] at hq ha hb4; obtain ⟨k0, k1⟩ := two_keptB hb4; obtain ⟨e0, e1, e2, e3, e4, ef⟩ := five_cells k1; have HQ := Lh hq; have HA := Lh ha; have HB4 := Lh hb4; obtain ⟨v1, v2, v3, rfl, s1, s2, s3⟩ := hq; obtain ⟨Aa, ca, rfl, _, _⟩ := s1.form; obtain ⟨Ab, cb, rfl, _, _⟩ := s2.form; obtain ⟨Ac, cc, rfl, _, _⟩ := s3.form; have hz4 := hb4.size; rw [(two_new w _ _).2] at hz4; have K1 := Lh k1; clear s1 s2 s3 ha hb4 k0 k1)
  have HS4 : Hid (∀ x, (S x ∨ NewB w4 (w.heap.size + 1 + 1) x) → x < w4.heap.size) := fun x hx => by
   rcases hx with h | h
   ·have := HSS.out x h; omega
   ·exact h.2
  have hka : ∀ (o : Obj) (q : Addr), q.block < w4.heap.size → (w4.alloc o).drew.cell? q = w4.cell? q := fun o q hq => World.cell?_alloc_lt w4 o q hq
  have HKA := Lh hka
  clear hka
  go_region_law (refine step_appA rfl (.tmp 72) (.tmp 73) rfl (w4.heap.size + 1) (fun _ => False) (NewB w4 (w.heap.size + 1 + 1)) (fun x => S x ∨ NewB w4 (w.heap.size + 1 + 1) x) (.slice none 0 0) av [] (vtN p b).2 ?_ ?_ (OA.nil _ _ _) (HA.out.keep (fun q hq => HKA.out _ q hq.2) (fun q hq => HKA.out _ q (HS4.out _ hq))) (fun _ h => h.elim) (fun x hx => by have := HS4.out x hx; simp; omega) (fun g hg => by cases hg) (by simp; omega) (by simp) ?_; go_simp; go_simp; intro v6 w6 ho6 hg6 hb6; clear hg6; obtain ⟨f0, f1, f2, f3, f4, ff⟩ := five_cells (row_kept K1.out (by omega) hb6); obtain ⟨r0, r1, r2, r3, r4, rf⟩ := five_cells (row_last hb6))
  all_goals
   go_wp2
   have h2 := two_new w (.cells (vPq p Ap Ai Au cp ci cu) 28) (.cells #[Value.int .i64 0, Value.int .u8 0, Value.slice none 0 0, Value.slice none 0 0, Value.slice none 0 0] 28)
   exact bodyPost_ret (v := .tuple #[.agg #[.int .i64 ((vtN p b).1.mode : Int), .int .u8 ((vtN p b).1.priv : Int), Value.slice Aa (vtN p b).1.params.length ca, Value.slice Ab (vtN p b).1.inter.length cb, Value.slice Ac (vtN p b).1.utf.length cc], v6]) (by simp [results, Tryz.results41, go_sem, f0, f1, f2, f3, f4]) rfl (fin_post (h2.1.trans (HB4.out.mono (by omega))) HSS.out hz4 HQ.out hb6 ho6 (fun y hy => hy.elim False.elim id))
 ·have m0 : ((p.mode : Int) == 0) = false := bF (by omega)
  clear hm hno
  go_enter Tryz.func41, Tryz.ntmps41
  go_wp2_with (go_at_call 71; refine (vtNr_any _ _ _ p b S _ (HP.out.keep (fun q hq => (two_new w _ _).1.cell (HSS.out _ hq))) (HI.out.keep (fun q hq => (two_new w _ _).1.cell (HSS.out _ hq))) (HU.out.keep (fun q hq => (two_new w _ _).1.cell (HSS.out _ hq))) (fun x hx => Nat.lt_of_lt_of_le (HSS.out x hx) (two_new w _ _).1.size) HOK.out).mono ?_; rintro e w4 ⟨qv, av, rfl, hq, ha, hb4⟩; rw [(two_new w _ _).2] at hq ha hb4; obtain ⟨k0, k1⟩ := two_keptB hb4; obtain ⟨e0, e1, e2, e3, e4, ef⟩ := five_cells k1; have HQ := Lh hq; have HA := Lh ha; have HB4 := Lh hb4; obtain ⟨v1, v2, v3, rfl, s1, s2, s3⟩ := hq; obtain ⟨Aa, ca, rfl, _, _⟩ := s1.form; obtain ⟨Ab, cb, rfl, _, _⟩ := s2.form; obtain ⟨Ac, cc, rfl, _, _⟩ := s3.form; have hz4 := hb4.size; rw [(two_new w _ _).2] at hz4; have K1 := Lh k1; clear s1 s2 s3 ha hb4 k0 k1)
  have HS4 : Hid (∀ x, (S x ∨ NewB w4 (w.heap.size + 1 + 1) x) → x < w4.heap.size) := fun x hx => by
   rcases hx with h | h
   ·have := HSS.out x h; omega
   ·exact h.2
  have hka : ∀ (o : Obj) (q : Addr), q.block < w4.heap.size → (w4.alloc o).drew.cell? q = w4.cell? q := fun o q hq => World.cell?_alloc_lt w4 o q hq
  have HKA := Lh hka
  clear hka
  go_region_law (refine step_appA rfl (.tmp 72) (.tmp 73) rfl (w4.heap.size + 1) (fun _ => False) (NewB w4 (w.heap.size + 1 + 1)) (fun x => S x ∨ NewB w4 (w.heap.size + 1 + 1) x) (.slice none 0 0) av [] (vtN p b).2 ?_ ?_ (OA.nil _ _ _) (HA.out.keep (fun q hq => HKA.out _ q hq.2) (fun q hq => HKA.out _ q (HS4.out _ hq))) (fun _ h => h.elim) (fun x hx => by have := HS4.out x hx; simp; omega) (fun g hg => by cases hg) (by simp; omega) (by simp) ?_; go_simp; go_simp; intro v6 w6 ho6 hg6 hb6; clear hg6; obtain ⟨f0, f1, f2, f3, f4, ff⟩ := five_cells (row_kept K1.out (by omega) hb6); obtain ⟨r0, r1, r2, r3, r4, rf⟩ := five_cells (row_last hb6))
  all_goals
   go_wp2
   have h2 := two_new w (.cells (vPq p Ap Ai Au cp ci cu) 28) (.cells #[Value.int .i64 0, Value.int .u8 0, Value.slice none 0 0, Value.slice none 0 0, Value.slice none 0 0] 28)
   exact bodyPost_ret (v := .tuple #[.agg #[.int .i64 ((vtN p b).1.mode : Int), .int .u8 ((vtN p b).1.priv : Int), Value.slice Aa (vtN p b).1.params.length ca, Value.slice Ab (vtN p b).1.inter.length cb, Value.slice Ac (vtN p b).1.utf.length cc], v6]) (by simp [results, Tryz.results41, go_sem, f0, f1, f2, f3, f4]) rfl (fin_post (h2.1.trans (HB4.out.mono (by omega))) HSS.out hz4 HQ.out hb6 ho6 (fun y hy => hy.elim False.elim id))
theorem utfr_in (w : World) (x y : Obj) {S : Nat → Prop} (hS : ∀ x, S x → x < w.heap.size) {v : Value} {u : List UInt8} (hu : SL vB w S v u) (b : UInt8) (Q : List UInt8) (R : List Nat) (h : stepL u b = (Q, R)) (nQ nR : Nat) (hnQ : Q.length = nQ) (hnR : R.length = nR) :
  Calls Tryz.prog 68 #[v, .int .u8 (b.toNat : Int)] ((w.alloc x).alloc y) fun e w' => ∃ Aq cq Ar cr, e = .returned (.tuple #[.slice Aq nQ cq, .slice Ar nR cr]) ∧ BN w' (w.heap.size + 1 + 1) (.slice Aq nQ cq) Q ∧ RS w' w'.heap.size (.slice Ar nR cr) (ints R) ∧ Below (w.heap.size + 1 + 1) ((w.alloc x).alloc y) w' := by
 subst hnQ hnR
 have h2 := two_new w x y
 refine (stepr_any v u b _ (((hu.bs hS).below h2.1).more h2.1.size)).mono ?_
 rintro e w' ⟨v1, v2, rfl, hq, hr, hb⟩
 rw [h] at hq hr
 rw [h2.2] at hq hb
 obtain ⟨Aq, cq, rfl, _, _, -⟩ := hq.1.at_
 obtain ⟨Ar, cr, rfl, _, _, -⟩ := hr.at_
 have hl : (ints R).length = R.length := by simp [ints]
 rw [hl] at hr ⊢
 exact ⟨Aq, cq, Ar, cr, rfl, hq, hr, hb⟩
theorem rune_first {w : World} {B n c : Nat} {A : Option Addr} {r : Nat} {R : List Nat} (h : RS w B (.slice A n c) (ints (r :: R))) : ∃ ad, A = some ad ∧ w.cell? ad = some (.int .i32 (r : Int)) := by
 obtain ⟨A', c', hv, _, _, h3⟩ := h
 simp only [Value.slice.injEq] at hv
 obtain ⟨ad, hA, _, hc⟩ := h3 (by simp [ints])
 have := hc 0 (Int.ofNat r) (by simp [ints])
 rw [show ad.add 0 = ad from by simp [Addr.add]] at this
 exact ⟨ad, hv.1.trans hA, this⟩
theorem vtr_go1 (vp vi vu : Value) (p : Pr) (b : UInt8) (S : Nat → Prop) (w : World) (hp : SL vI w S vp p.params) (hi : SL vB w S vi p.inter) (hu : SL vB w S vu p.utf) (hS : ∀ x, S x → x < w.heap.size) (hm : p.mode = 0) (hpl : 0 < p.utf.length) (h128 : 128 ≤ b.toNat) (Q : List UInt8) (R : List Nat) (hst : stepL p.utf b = (Q, R)) (hR : R.length = 0) :
  Calls Tryz.prog 41 #[.agg #[.int .i64 (p.mode : Int), .int .u8 (p.priv : Int), vp, vi, vu], .int .u8 (b.toNat : Int)] w (VtPost S ({ prM 0 with utf := Q }, printsL R) w) := by
 have HU := Lh hu
 have HSS := Lh hS
 have HST := Lh hst
 have hlen := stepL_len p.utf b
 rw [hst] at hlen
 obtain ⟨hl1, hl2⟩ := hlen
 obtain ⟨nQ, hnQ⟩ : ∃ n, Q.length = n := ⟨_, rfl⟩
 obtain ⟨nR, hnR⟩ : ∃ n, R.length = n := ⟨_, rfl⟩
 have hl1' : nQ ≤ 3 := by rw [← hnQ]; exact hl1
 have hl2' : nR ≤ 2 := by rw [← hnR]; exact hl2
 have HNQ := Lh hnQ
 have HNR := Lh hnR
 obtain ⟨Ap, cp, rfl, p1, p2⟩ := hp.form
 obtain ⟨Ai, ci, rfl, i1, i2⟩ := hi.form
 obtain ⟨Au, cu, rfl, u1, u2⟩ := hu.form
 clear hp hi hu hS hst hl1 hl2
 have m0 : ((p.mode : Int) == 0) = true := beq_iff_eq.2 (by omega)
 have g128 : (128 : Int) ≤ (b.toNat : Int) := by omega
 clear hm
 have r0 : ((nR : Int) == 0) = true := beq_iff_eq.2 (by omega)
 clear hR
 clear hnQ hnR
 go_enter Tryz.func41, Tryz.ntmps41
 go_wp2_with (first
  | (go_at_call 68; (with_reducible refine (utfr_in w _ _ HSS.out HU.out b Q R HST.out nQ nR HNQ.out HNR.out).mono ?_); rintro e w4 ⟨Aq, cq, Ar, cr, rfl, hq, hr, hb4⟩; obtain ⟨k0, k1⟩ := two_keptB hb4; obtain ⟨c0, c1, c2, c3, c4, cf⟩ := five_cells k0; have HQ := Lh hq; have HB4 := Lh hb4; have HR := Lh hr; clear hq hb4 hr k0 k1)
  | (go_at_call 70; (with_reducible refine (printsr_any _ R _ HR.out (by rw [HNR.out]; omega)).mono ?_); rintro e w5 ⟨v3, rfl, ho, hb5⟩; have hb45 := HB4.out.trans (hb5.mono (by have := HB4.out.size; rw [(two_new w _ _).2] at this; exact this)); obtain ⟨k0, k1⟩ := two_keptB hb45; obtain ⟨e0, e1, e2, e3, e4, ef⟩ := five_cells k1; have HB5 := Lh hb5; have HB45 := Lh hb45; have HO := Lh ho; clear hb5 hb45 ho k0 k1))
 have h2 := two_new w (.cells (vPq p Ap Ai Au cp ci cu) 28) (.cells #[Value.int .i64 0, Value.int .u8 0, Value.slice none 0 0, Value.slice none 0 0, Value.slice none 0 0] 28)
 have hz4 := HB4.out.size
 rw [h2.2] at hz4
 exact bodyPost_ret (v := .tuple #[.agg #[.int .i64 0, .int .u8 0, .slice none 0 0, .slice none 0 0, Value.slice Aq nQ cq], v3]) (by simp [results, Tryz.results41, go_sem, e0, e1, e2, e3, e4]) rfl (utf_post (h2.1.trans (HB45.out.mono (by omega))) HQ.out HB5.out HO.out hz4)
theorem vtr_go2 (vp vi vu : Value) (p : Pr) (b : UInt8) (S : Nat → Prop) (w : World) (hp : SL vI w S vp p.params) (hi : SL vB w S vi p.inter) (hu : SL vB w S vu p.utf) (hS : ∀ x, S x → x < w.heap.size) (hm : p.mode = 0) (hpl : 0 < p.utf.length) (h128 : 128 ≤ b.toNat) (Q : List UInt8) (r : Nat) (R : List Nat) (hst : stepL p.utf b = (Q, r :: R)) (hr0 : r ≠ 65533) :
  Calls Tryz.prog 41 #[.agg #[.int .i64 (p.mode : Int), .int .u8 (p.priv : Int), vp, vi, vu], .int .u8 (b.toNat : Int)] w (VtPost S ({ prM 0 with utf := Q }, printsL (r :: R)) w) := by
 have HU := Lh hu
 have HSS := Lh hS
 have HST := Lh hst
 have hlen := stepL_len p.utf b
 rw [hst] at hlen
 obtain ⟨hl1, hl2⟩ := hlen
 obtain ⟨nQ, hnQ⟩ : ∃ n, Q.length = n := ⟨_, rfl⟩
 obtain ⟨nR, hnR⟩ : ∃ n, (r :: R).length = n := ⟨_, rfl⟩
 have hl1' : nQ ≤ 3 := by rw [← hnQ]; exact hl1
 have hl2' : nR ≤ 2 := by rw [← hnR]; exact hl2
 have HNQ := Lh hnQ
 have HNR := Lh hnR
 obtain ⟨Ap, cp, rfl, p1, p2⟩ := hp.form
 obtain ⟨Ai, ci, rfl, i1, i2⟩ := hi.form
 obtain ⟨Au, cu, rfl, u1, u2⟩ := hu.form
 clear hp hi hu hS hst hl1 hl2
 have m0 : ((p.mode : Int) == 0) = true := beq_iff_eq.2 (by omega)
 have g128 : (128 : Int) ≤ (b.toNat : Int) := by omega
 clear hm
 have n0 : ((r : Int) != 65533) = true := by simp; omega
 have nr0 : ((nR : Int) == 0) = false := bF (by simp at hnR; omega)
 have nr1 : 0 < nR := by simp at hnR; omega
 clear hnQ hnR
 go_enter Tryz.func41, Tryz.ntmps41
 go_wp2_with (first
  | (go_at_call 68; (with_reducible refine (utfr_in w _ _ HSS.out HU.out b Q (r :: R) HST.out nQ nR HNQ.out HNR.out).mono ?_); rintro e w4 ⟨Aq, cq, Ar, cr, rfl, hq, hr, hb4⟩; obtain ⟨k0, k1⟩ := two_keptB hb4; obtain ⟨c0, c1, c2, c3, c4, cf⟩ := five_cells k0; obtain ⟨ad, rfl, cr0⟩ := rune_first hr; have HQ := Lh hq; have HB4 := Lh hb4; have HR := Lh hr; clear hq hb4 hr k0 k1)
  | (go_at_call 70; (with_reducible refine (printsr_any _ (r :: R) _ HR.out (by rw [HNR.out]; omega)).mono ?_); rintro e w5 ⟨v3, rfl, ho, hb5⟩; have hb45 := HB4.out.trans (hb5.mono (by have := HB4.out.size; rw [(two_new w _ _).2] at this; exact this)); obtain ⟨k0, k1⟩ := two_keptB hb45; obtain ⟨e0, e1, e2, e3, e4, ef⟩ := five_cells k1; have HB5 := Lh hb5; have HB45 := Lh hb45; have HO := Lh ho; clear hb5 hb45 ho k0 k1))
 have h2 := two_new w (.cells (vPq p Ap Ai Au cp ci cu) 28) (.cells #[Value.int .i64 0, Value.int .u8 0, Value.slice none 0 0, Value.slice none 0 0, Value.slice none 0 0] 28)
 have hz4 := HB4.out.size
 rw [h2.2] at hz4
 exact bodyPost_ret (v := .tuple #[.agg #[.int .i64 0, .int .u8 0, .slice none 0 0, .slice none 0 0, Value.slice Aq nQ cq], v3]) (by simp [results, Tryz.results41, go_sem, e0, e1, e2, e3, e4]) rfl (utf_post (h2.1.trans (HB45.out.mono (by omega))) HQ.out HB5.out HO.out hz4)
theorem vtr_go3 (vp vi vu : Value) (p : Pr) (b : UInt8) (S : Nat → Prop) (w : World) (hp : SL vI w S vp p.params) (hi : SL vB w S vi p.inter) (hu : SL vB w S vu p.utf) (hS : ∀ x, S x → x < w.heap.size) (hm : p.mode = 0) (hpl : 0 < p.utf.length) (h128 : 128 ≤ b.toNat) (Q : List UInt8) (hst : stepL p.utf b = (Q, [65533])) (hQ : Q.length = 0) (hf : formedB p.utf b = true) :
  Calls Tryz.prog 41 #[.agg #[.int .i64 (p.mode : Int), .int .u8 (p.priv : Int), vp, vi, vu], .int .u8 (b.toNat : Int)] w (VtPost S ({ prM 0 with utf := Q }, printsL [65533]) w) := by
 have HU := Lh hu
 have HSS := Lh hS
 have HST := Lh hst
 have hlen := stepL_len p.utf b
 rw [hst] at hlen
 obtain ⟨hl1, hl2⟩ := hlen
 obtain ⟨nQ, hnQ⟩ : ∃ n, Q.length = n := ⟨_, rfl⟩
 obtain ⟨nR, hnR⟩ : ∃ n, [65533].length = n := ⟨_, rfl⟩
 have hl1' : nQ ≤ 3 := by rw [← hnQ]; exact hl1
 have hl2' : nR ≤ 2 := by rw [← hnR]; exact hl2
 have HNQ := Lh hnQ
 have HNR := Lh hnR
 obtain ⟨Ap, cp, rfl, p1, p2⟩ := hp.form
 obtain ⟨Ai, ci, rfl, i1, i2⟩ := hi.form
 obtain ⟨Au, cu, rfl, u1, u2⟩ := hu.form
 clear hp hi hu hS hst hl1 hl2
 have m0 : ((p.mode : Int) == 0) = true := beq_iff_eq.2 (by omega)
 have g128 : (128 : Int) ≤ (b.toNat : Int) := by omega
 clear hm
 have q0 : ((nQ : Int) == 0) = true := beq_iff_eq.2 (by omega)
 have nr0 : ((nR : Int) == 0) = false := bF (by simp at hnR; omega)
 have nr1 : ((nR : Int) == 1) = true := beq_iff_eq.2 (by simp at hnR; omega)
 have nr2 : 0 < nR := by simp at hnR; omega
 clear hQ
 have HF := Lh hf
 clear hf
 clear hnQ hnR
 go_enter Tryz.func41, Tryz.ntmps41
 go_wp2_with (first
  | (go_at_call 68; (with_reducible refine (utfr_in w _ _ HSS.out HU.out b Q [65533] HST.out nQ nR HNQ.out HNR.out).mono ?_); rintro e w4 ⟨Aq, cq, Ar, cr, rfl, hq, hr, hb4⟩; obtain ⟨k0, k1⟩ := two_keptB hb4; obtain ⟨c0, c1, c2, c3, c4, cf⟩ := five_cells k0; obtain ⟨ad, rfl, cr0⟩ := rune_first hr; have HQ := Lh hq; have HB4 := Lh hb4; have HR := Lh hr; clear hq hb4 hr k0 k1)
  | (go_at_call 69; (with_reducible refine (formedr_any _ p.utf b w.heap.size _ (((HU.out.bs HSS.out).below (two_new w _ _).1).below (HB4.out.mono (by omega)))).mono ?_); rintro e w5 ⟨rfl, rfl⟩; rw [HF.out])
  | (go_at_call 70; (with_reducible refine (printsr_any _ [65533] _ HR.out (by rw [HNR.out]; omega)).mono ?_); rintro e w5 ⟨v3, rfl, ho, hb5⟩; have hb45 := HB4.out.trans (hb5.mono (by have := HB4.out.size; rw [(two_new w _ _).2] at this; exact this)); obtain ⟨k0, k1⟩ := two_keptB hb45; obtain ⟨e0, e1, e2, e3, e4, ef⟩ := five_cells k1; have HB5 := Lh hb5; have HB45 := Lh hb45; have HO := Lh ho; clear hb5 hb45 ho k0 k1))
 have h2 := two_new w (.cells (vPq p Ap Ai Au cp ci cu) 28) (.cells #[Value.int .i64 0, Value.int .u8 0, Value.slice none 0 0, Value.slice none 0 0, Value.slice none 0 0] 28)
 have hz4 := HB4.out.size
 rw [h2.2] at hz4
 exact bodyPost_ret (v := .tuple #[.agg #[.int .i64 0, .int .u8 0, .slice none 0 0, .slice none 0 0, Value.slice Aq nQ cq], v3]) (by simp [results, Tryz.results41, go_sem, e0, e1, e2, e3, e4]) rfl (utf_post (h2.1.trans (HB45.out.mono (by omega))) HQ.out HB5.out HO.out hz4)
theorem OA.set {w : World} {base : Nat} {v u : Value} {l : List Ac} {a : Addr} (h : OA w base (fun _ => False) v l) (hne : a.block < base) : OA (w.setCell a u) base (fun _ => False) v l := by
 obtain ⟨xs, h1, h2, h3⟩ := h
 exact ⟨xs, ownsRow_setCell_other h1 (fun e => by have := (World.ownsRow.lt h1 _ e).1; omega) u, h2.keep (fun _ hf => hf.elim), h3⟩
theorem row_kept9 {w7 w9 : World} {base g : Nat} {o x : Obj} (h : w7.heap[g]? = some o) (hg : g < w7.heap.size) (hgb : g < base) (hb : Below base (w7.alloc x).drew w9) : w9.heap[g]? = some o := by
 refine (hb.block g hgb).trans ?_
 show (w7.heap.push x)[g]? = some o
 rw [Array.getElem?_push, if_neg (by omega)]
 exact h
theorem row_last9 {w7 w9 : World} {row : Option Nat} {x : Obj} (hg : (w7.alloc x).drew.grownBy w9 row) (hr : ∀ g, row = some g → g < w7.heap.size) : w9.heap[w7.heap.size]? = some x := by
 refine (hg.block _ (by show w7.heap.size < (w7.heap.push x).size; simp) (fun e => by have := hr _ e.symm; omega)).trans ?_
 show (w7.heap.push x)[w7.heap.size]? = some x
 rw [Array.getElem?_push, if_pos rfl]
theorem fin_post9 {w w7 w9 : World} {x : Obj} {base lo : Nat} {row : Option Nat} {S T : Nat → Prop} {m pr : Int} {vp vi vu av : Value} {q : Pr} {l : List Ac} (hb : Below w.heap.size w w7) (hS : ∀ x, S x → x < w.heap.size) (hz : w.heap.size + 1 + 1 ≤ base) (hlo : base ≤ lo) (hz7 : base ≤ w7.heap.size)
  (hq : PV w7 (fun x => S x ∨ NewB w7 lo x) (.agg #[.int .i64 m, .int .u8 pr, vp, vi, vu]) q) (hb9 : Below base (w7.alloc x).drew w9) (hg9 : (w7.alloc x).drew.grownBy w9 row) (hT7 : ∀ x, (S x ∨ NewB w7 lo x) → x < w7.heap.size) (hrow : ∀ g, row = some g → ¬ (S g ∨ NewB w7 lo g)) (ho : OA w9 base T av l) (hT : ∀ y, T y → S y ∨ NewB w7 lo y) :
  VtPost S (q, l) w (.returned (.tuple #[.agg #[.int .i64 m, .int .u8 pr, vp, vi, vu], av])) (wset w w9 (.int .i64 m) (.int .u8 pr) vp vi vu) := by
 have hz9 : w7.heap.size + 1 ≤ w9.heap.size := by
  have := hg9.size
  have e : (w7.alloc x).drew.heap.size = w7.heap.size + 1 := by simp
  omega
 have hmono : ∀ y, (S y ∨ NewB w7 lo y) → (S y ∨ NewB w9 (w.heap.size + 1 + 1) y) := fun y hy => hy.imp id (fun h => ⟨by have := h.1; omega, by have := h.2; omega⟩)
 have hk : ∀ a : Addr, (S a.block ∨ NewB w7 lo a.block) → w9.cell? a = w7.cell? a := fun a ha => by
  have hlt := hT7 _ ha
  have e1 : w9.cell? a = (w7.alloc x).drew.cell? a := World.cell?_of_block (hg9.block a.block (by show a.block < (w7.heap.push x).size; simp; omega) (fun e => hrow _ e.symm ha))
  exact e1.trans (World.cell?_alloc_lt w7 x a hlt)
 have hbb : Below w.heap.size w w9 := hb.trans ((((Below.refl base w7).alloc hz7 x).drew.trans hb9).mono (by omega))
 exact hand_post (r := (q, l)) hbb hS (by omega) ((hq.keep hk).mono hmono) (ho.as.mono (fun y hy => ⟨by have := hy.1; omega, hy.2⟩) (fun y hy => hmono y (hT y hy)))
theorem vtr_br1 (vp vi vu : Value) (p : Pr) (b : UInt8) (S : Nat → Prop) (w : World) (hp : SL vI w S vp p.params) (hi : SL vB w S vi p.inter) (hu : SL vB w S vu p.utf) (hS : ∀ x, S x → x < w.heap.size) (hok : PrOk p) (hm : p.mode = 0) (hpl : 0 < p.utf.length) (Q : List UInt8) (R : List Nat) (hst : stepL p.utf b = (Q, R)) (h128 : ¬ 128 ≤ b.toNat) :
  Calls Tryz.prog 41 #[.agg #[.int .i64 (p.mode : Int), .int .u8 (p.priv : Int), vp, vi, vu], .int .u8 (b.toNat : Int)] w (VtPost S ((vtN { p with utf := [] } b).1, acP 65533 :: (vtN { p with utf := [] } b).2) w) := by
 have HP := Lh hp
 have HI := Lh hi
 have HU := Lh hu
 have HSS := Lh hS
 have HST := Lh hst
 have HOK := Lh (drop_ok p hok)
 have hvl := vtN_len { p with utf := [] } b
 obtain ⟨nQ, hnQ⟩ : ∃ n, Q.length = n := ⟨_, rfl⟩
 obtain ⟨nR, hnR⟩ : ∃ n, R.length = n := ⟨_, rfl⟩
 have HNQ := Lh hnQ
 have HNR := Lh hnR
 obtain ⟨Ap, cp, rfl, p1, p2⟩ := hp.form
 obtain ⟨Ai, ci, rfl, i1, i2⟩ := hi.form
 obtain ⟨Au, cu, rfl, u1, u2⟩ := hu.form
 clear hp hi hu hS hst hok
 have m0 : ((p.mode : Int) == 0) = true := beq_iff_eq.2 (by omega)
 have g128 : decide ((128 : Int) ≤ (b.toNat : Int)) = false := by simp; omega
 clear hm hnQ hnR
 go_enter Tryz.func41, Tryz.ntmps41
 go_wp2_with (first
  | (go_at_call 68; (with_reducible refine (utfr_in w _ _ HSS.out HU.out b Q R HST.out nQ nR HNQ.out HNR.out).mono ?_); rintro e w4 ⟨Aq, cq, Ar, cr, rfl, hq, hr, hb4⟩; obtain ⟨k0, k1⟩ := two_keptB hb4; obtain ⟨c0, c1, c2, c3, c4, cf⟩ := five_cells k0; have hz4 := hb4.size; rw [(two_new w _ _).2] at hz4; have K0 := Lh k0; have K1 := Lh k1; have HB4 := Lh hb4; clear hq hb4 hr k0 k1)
  | (at_builtin; refine wpl_appA _ rfl (.tmp 60) (.tmp 62) rfl w4.heap.size (fun _ => False) _ (fun _ => False) (.slice none 0 0) _ [] [acP 65533] rfl rfl (OA.nil _ _ _) (AS.print w4 65533 _) (fun _ h => h.elim) (fun _ h => h.elim) (fun _ _ h => h) (by simp) (by simp) ?_; intro v5 w5 ho5 hg5 hb5 _; clear hg5; have b45 := ((Below.refl w4.heap.size w4).alloc (Nat.le_refl _) _).trans hb5; have hz5 := b45.size; obtain ⟨d0, d1, d2, d3, d4, df⟩ := five_cells ((b45.block _ (by omega)).trans K0.out); have HO5 := Lh (OA.weak (S' := fun _ => False) ho5 (fun _ h => h.elim id id) (fun _ _ h => h)); have HB45 := Lh b45; clear ho5 hb5 b45)
  | (go_at_call 71; fail))
 have h2 := two_new w (.cells (vPq p Ap Ai Au cp ci cu) 28) (.cells #[Value.int .i64 0, Value.int .u8 0, Value.slice none 0 0, Value.slice none 0 0, Value.slice none 0 0] 28)
 have hbw4 : Below w.heap.size w w4 := h2.1.trans (HB4.out.mono (by omega))
 have hbw6 : Below w.heap.size w (w5.setCell ⟨w.heap.size, 4, none⟩ (.slice none 0 0)) := (hbw4.trans (HB45.out.mono (by omega))).setCell (Nat.le_refl _) _
 have hz6 : (w5.setCell ⟨w.heap.size, 4, none⟩ (.slice none 0 0)).heap.size = w5.heap.size := by simp
 have hk6 : (w5.setCell ⟨w.heap.size, 4, none⟩ (.slice none 0 0)).heap[w.heap.size + 1]? = some (.cells #[Value.int .i64 0, Value.int .u8 0, Value.slice none 0 0, Value.slice none 0 0, Value.slice none 0 0] 28) := (Below.heap_setCell _ _ _ _ (by simp)).trans ((HB45.out.block _ (by omega)).trans K1.out)
 have ho6 : OA (w5.setCell ⟨w.heap.size, 4, none⟩ (.slice none 0 0)) w4.heap.size (fun _ => False) v5 [acP 65533] := HO5.out.set (by show w.heap.size < w4.heap.size; omega)
 generalize w5.setCell ⟨w.heap.size, 4, none⟩ (.slice none 0 0) = w6 at *
 have hz64 : w4.heap.size ≤ w6.heap.size := by omega
 have hcal := vtNr_any (.slice Ap p.params.length cp) (.slice Ai p.inter.length ci) (.slice none 0 0) { p with utf := [] } b S w6 (HP.out.keep (fun q hq => hbw6.cell (HSS.out _ hq))) (HI.out.keep (fun q hq => hbw6.cell (HSS.out _ hq))) (SL.nil _ _ _) (fun x hx => Nat.lt_of_lt_of_le (HSS.out x hx) hbw6.size) HOK.out
 generalize hV : vtN { p with utf := [] } b = V at *
 clear hV
 refine hcal.mono ?_
 rintro e w7 ⟨qv, av, rfl, hq, ha, hb7⟩
 have hz7 := hb7.size
 have HQ := Lh hq
 have HA := Lh ha
 obtain ⟨v1, v2, v3, rfl, s1, s2, s3⟩ := hq
 obtain ⟨Aa, ca, rfl, _, _⟩ := s1.form
 obtain ⟨Ab, cb, rfl, _, _⟩ := s2.form
 obtain ⟨Ac, cc, rfl, _, _⟩ := s3.form
 have K7 := Lh ((hb7.block _ (by omega)).trans hk6)
 have HBW7 := Lh (hbw6.trans (hb7.mono (by omega)))
 have HO7 := Lh (ho6.below (fun _ h => h.elim) hb7)
 have HG : Hid (∀ g, v5.ownBlock = some g → w4.heap.size ≤ g ∧ g < w6.heap.size) := fun g hg => ho6.lt g hg
 have HT : Hid (∀ x, (S x ∨ NewB w7 w6.heap.size x) → x < w7.heap.size) := fun x hx => by
  rcases hx with h | h
  ·have := HSS.out x h; omega
  ·exact h.2
 have HTg : Hid (∀ g, v5.ownBlock = some g → ¬ (S g ∨ NewB w7 w6.heap.size g)) := fun g hg hx => by
  have hgg := HG.out g hg
  rcases hx with h | h
  ·have := HSS.out g h; omega
  ·have := h.1; omega
 clear s1 s2 s3 ha hb7 hk6 ho6 hcal hbw6 d0 d1 d2 d3 d4 df c0 c1 c2 c3 c4 cf
 go_wp2
 have HKA : Hid (∀ (o : Obj) (q : Addr), q.block < w7.heap.size → (w7.alloc o).drew.cell? q = w7.cell? q) := fun o q hq => World.cell?_alloc_lt w7 o q hq
 go_region_law (refine step_appA rfl (.tmp 72) (.tmp 73) rfl w4.heap.size (fun _ => False) (NewB w7 w6.heap.size) (fun x => S x ∨ NewB w7 w6.heap.size x) v5 av [acP 65533] V.2 ?_ ?_ (OA.below HO7.out (fun _ h => h.elim) ((Below.refl _ _).alloc (Nat.le_refl _) _).drew) (HA.out.keep (fun q hq => HKA.out _ q hq.2) (fun q hq => HKA.out _ q (HT.out _ hq))) (fun _ h => h.elim) (fun x hx => by have := HT.out x hx; simp; omega) HTg.out (by simp; omega) (by simp; omega) ?_; go_simp; go_simp; intro v9 w9 ho9 hg9 hb9; obtain ⟨f0, f1, f2, f3, f4, ff⟩ := five_cells (row_kept9 K7.out (by omega) (by omega) hb9); obtain ⟨r0, r1, r2, r3, r4, rf⟩ := five_cells (row_last9 hg9 (fun g hg => by have := HG.out g hg; omega)))
 all_goals
  go_wp2
  exact bodyPost_ret (v := .tuple #[.agg #[.int .i64 (V.1.mode : Int), .int .u8 (V.1.priv : Int), Value.slice Aa V.1.params.length ca, Value.slice Ab V.1.inter.length cb, Value.slice Ac V.1.utf.length cc], v9]) (by simp [results, Tryz.results41, go_sem, f0, f1, f2, f3, f4]) rfl (fin_post9 HBW7.out HSS.out hz4 (by omega) (by omega) HQ.out hb9 hg9 HT.out HTg.out ho9 (fun y hy => hy.elim False.elim id))
theorem vtr_br2 (vp vi vu : Value) (p : Pr) (b : UInt8) (S : Nat → Prop) (w : World) (hp : SL vI w S vp p.params) (hi : SL vB w S vi p.inter) (hu : SL vB w S vu p.utf) (hS : ∀ x, S x → x < w.heap.size) (hok : PrOk p) (hm : p.mode = 0) (hpl : 0 < p.utf.length) (Q : List UInt8) (R : List Nat) (hst : stepL p.utf b = (Q, 65533 :: R)) (h128 : 128 ≤ b.toNat) (hR : R.length ≠ 0) :
  Calls Tryz.prog 41 #[.agg #[.int .i64 (p.mode : Int), .int .u8 (p.priv : Int), vp, vi, vu], .int .u8 (b.toNat : Int)] w (VtPost S ((vtN { p with utf := [] } b).1, acP 65533 :: (vtN { p with utf := [] } b).2) w) := by
 have HP := Lh hp
 have HI := Lh hi
 have HU := Lh hu
 have HSS := Lh hS
 have HST := Lh hst
 have HOK := Lh (drop_ok p hok)
 have hvl := vtN_len { p with utf := [] } b
 obtain ⟨nQ, hnQ⟩ : ∃ n, Q.length = n := ⟨_, rfl⟩
 obtain ⟨nR, hnR⟩ : ∃ n, (65533 :: R).length = n := ⟨_, rfl⟩
 have HNQ := Lh hnQ
 have HNR := Lh hnR
 obtain ⟨Ap, cp, rfl, p1, p2⟩ := hp.form
 obtain ⟨Ai, ci, rfl, i1, i2⟩ := hi.form
 obtain ⟨Au, cu, rfl, u1, u2⟩ := hu.form
 clear hp hi hu hS hst hok
 have m0 : ((p.mode : Int) == 0) = true := beq_iff_eq.2 (by omega)
 have g128 : (128 : Int) ≤ (b.toNat : Int) := by omega
 have nr0 : ((nR : Int) == 0) = false := bF (by simp at hnR; omega)
 have nr1 : ((nR : Int) == 1) = false := bF (by simp at hnR; omega)
 have nr2 : 0 < nR := by simp at hnR; omega
 clear hR
 clear hm hnQ hnR
 go_enter Tryz.func41, Tryz.ntmps41
 go_wp2_with (first
  | (go_at_call 68; (with_reducible refine (utfr_in w _ _ HSS.out HU.out b Q (65533 :: R) HST.out nQ nR HNQ.out HNR.out).mono ?_); rintro e w4 ⟨Aq, cq, Ar, cr, rfl, hq, hr, hb4⟩; obtain ⟨k0, k1⟩ := two_keptB hb4; obtain ⟨c0, c1, c2, c3, c4, cf⟩ := five_cells k0; obtain ⟨ad, rfl, cr0⟩ := rune_first hr; have hz4 := hb4.size; rw [(two_new w _ _).2] at hz4; have K0 := Lh k0; have K1 := Lh k1; have HB4 := Lh hb4; clear hq hb4 hr k0 k1)
  | (at_builtin; refine wpl_appA _ rfl (.tmp 60) (.tmp 62) rfl w4.heap.size (fun _ => False) _ (fun _ => False) (.slice none 0 0) _ [] [acP 65533] rfl rfl (OA.nil _ _ _) (AS.print w4 65533 _) (fun _ h => h.elim) (fun _ h => h.elim) (fun _ _ h => h) (by simp) (by simp) ?_; intro v5 w5 ho5 hg5 hb5 _; clear hg5; have b45 := ((Below.refl w4.heap.size w4).alloc (Nat.le_refl _) _).trans hb5; have hz5 := b45.size; obtain ⟨d0, d1, d2, d3, d4, df⟩ := five_cells ((b45.block _ (by omega)).trans K0.out); have HO5 := Lh (OA.weak (S' := fun _ => False) ho5 (fun _ h => h.elim id id) (fun _ _ h => h)); have HB45 := Lh b45; clear ho5 hb5 b45)
  | (go_at_call 71; fail))
 have h2 := two_new w (.cells (vPq p Ap Ai Au cp ci cu) 28) (.cells #[Value.int .i64 0, Value.int .u8 0, Value.slice none 0 0, Value.slice none 0 0, Value.slice none 0 0] 28)
 have hbw4 : Below w.heap.size w w4 := h2.1.trans (HB4.out.mono (by omega))
 have hbw6 : Below w.heap.size w (w5.setCell ⟨w.heap.size, 4, none⟩ (.slice none 0 0)) := (hbw4.trans (HB45.out.mono (by omega))).setCell (Nat.le_refl _) _
 have hz6 : (w5.setCell ⟨w.heap.size, 4, none⟩ (.slice none 0 0)).heap.size = w5.heap.size := by simp
 have hk6 : (w5.setCell ⟨w.heap.size, 4, none⟩ (.slice none 0 0)).heap[w.heap.size + 1]? = some (.cells #[Value.int .i64 0, Value.int .u8 0, Value.slice none 0 0, Value.slice none 0 0, Value.slice none 0 0] 28) := (Below.heap_setCell _ _ _ _ (by simp)).trans ((HB45.out.block _ (by omega)).trans K1.out)
 have ho6 : OA (w5.setCell ⟨w.heap.size, 4, none⟩ (.slice none 0 0)) w4.heap.size (fun _ => False) v5 [acP 65533] := HO5.out.set (by show w.heap.size < w4.heap.size; omega)
 generalize w5.setCell ⟨w.heap.size, 4, none⟩ (.slice none 0 0) = w6 at *
 have hz64 : w4.heap.size ≤ w6.heap.size := by omega
 have hcal := vtNr_any (.slice Ap p.params.length cp) (.slice Ai p.inter.length ci) (.slice none 0 0) { p with utf := [] } b S w6 (HP.out.keep (fun q hq => hbw6.cell (HSS.out _ hq))) (HI.out.keep (fun q hq => hbw6.cell (HSS.out _ hq))) (SL.nil _ _ _) (fun x hx => Nat.lt_of_lt_of_le (HSS.out x hx) hbw6.size) HOK.out
 generalize hV : vtN { p with utf := [] } b = V at *
 clear hV
 refine hcal.mono ?_
 rintro e w7 ⟨qv, av, rfl, hq, ha, hb7⟩
 have hz7 := hb7.size
 have HQ := Lh hq
 have HA := Lh ha
 obtain ⟨v1, v2, v3, rfl, s1, s2, s3⟩ := hq
 obtain ⟨Aa, ca, rfl, _, _⟩ := s1.form
 obtain ⟨Ab, cb, rfl, _, _⟩ := s2.form
 obtain ⟨Ac, cc, rfl, _, _⟩ := s3.form
 have K7 := Lh ((hb7.block _ (by omega)).trans hk6)
 have HBW7 := Lh (hbw6.trans (hb7.mono (by omega)))
 have HO7 := Lh (ho6.below (fun _ h => h.elim) hb7)
 have HG : Hid (∀ g, v5.ownBlock = some g → w4.heap.size ≤ g ∧ g < w6.heap.size) := fun g hg => ho6.lt g hg
 have HT : Hid (∀ x, (S x ∨ NewB w7 w6.heap.size x) → x < w7.heap.size) := fun x hx => by
  rcases hx with h | h
  ·have := HSS.out x h; omega
  ·exact h.2
 have HTg : Hid (∀ g, v5.ownBlock = some g → ¬ (S g ∨ NewB w7 w6.heap.size g)) := fun g hg hx => by
  have hgg := HG.out g hg
  rcases hx with h | h
  ·have := HSS.out g h; omega
  ·have := h.1; omega
 clear s1 s2 s3 ha hb7 hk6 ho6 hcal hbw6 d0 d1 d2 d3 d4 df c0 c1 c2 c3 c4 cf
 go_wp2
 have HKA : Hid (∀ (o : Obj) (q : Addr), q.block < w7.heap.size → (w7.alloc o).drew.cell? q = w7.cell? q) := fun o q hq => World.cell?_alloc_lt w7 o q hq
 go_region_law (refine step_appA rfl (.tmp 72) (.tmp 73) rfl w4.heap.size (fun _ => False) (NewB w7 w6.heap.size) (fun x => S x ∨ NewB w7 w6.heap.size x) v5 av [acP 65533] V.2 ?_ ?_ (OA.below HO7.out (fun _ h => h.elim) ((Below.refl _ _).alloc (Nat.le_refl _) _).drew) (HA.out.keep (fun q hq => HKA.out _ q hq.2) (fun q hq => HKA.out _ q (HT.out _ hq))) (fun _ h => h.elim) (fun x hx => by have := HT.out x hx; simp; omega) HTg.out (by simp; omega) (by simp; omega) ?_; go_simp; go_simp; intro v9 w9 ho9 hg9 hb9; obtain ⟨f0, f1, f2, f3, f4, ff⟩ := five_cells (row_kept9 K7.out (by omega) (by omega) hb9); obtain ⟨r0, r1, r2, r3, r4, rf⟩ := five_cells (row_last9 hg9 (fun g hg => by have := HG.out g hg; omega)))
 all_goals
  go_wp2
  exact bodyPost_ret (v := .tuple #[.agg #[.int .i64 (V.1.mode : Int), .int .u8 (V.1.priv : Int), Value.slice Aa V.1.params.length ca, Value.slice Ab V.1.inter.length cb, Value.slice Ac V.1.utf.length cc], v9]) (by simp [results, Tryz.results41, go_sem, f0, f1, f2, f3, f4]) rfl (fin_post9 HBW7.out HSS.out hz4 (by omega) (by omega) HQ.out hb9 hg9 HT.out HTg.out ho9 (fun y hy => hy.elim False.elim id))
theorem vtr_br3 (vp vi vu : Value) (p : Pr) (b : UInt8) (S : Nat → Prop) (w : World) (hp : SL vI w S vp p.params) (hi : SL vB w S vi p.inter) (hu : SL vB w S vu p.utf) (hS : ∀ x, S x → x < w.heap.size) (hok : PrOk p) (hm : p.mode = 0) (hpl : 0 < p.utf.length) (Q : List UInt8) (hst : stepL p.utf b = (Q, [65533])) (h128 : 128 ≤ b.toNat) (hQ : Q.length ≠ 0) :
  Calls Tryz.prog 41 #[.agg #[.int .i64 (p.mode : Int), .int .u8 (p.priv : Int), vp, vi, vu], .int .u8 (b.toNat : Int)] w (VtPost S ((vtN { p with utf := [] } b).1, acP 65533 :: (vtN { p with utf := [] } b).2) w) := by
 have HP := Lh hp
 have HI := Lh hi
 have HU := Lh hu
 have HSS := Lh hS
 have HST := Lh hst
 have HOK := Lh (drop_ok p hok)
 have hvl := vtN_len { p with utf := [] } b
 obtain ⟨nQ, hnQ⟩ : ∃ n, Q.length = n := ⟨_, rfl⟩
 obtain ⟨nR, hnR⟩ : ∃ n, [65533].length = n := ⟨_, rfl⟩
 have HNQ := Lh hnQ
 have HNR := Lh hnR
 obtain ⟨Ap, cp, rfl, p1, p2⟩ := hp.form
 obtain ⟨Ai, ci, rfl, i1, i2⟩ := hi.form
 obtain ⟨Au, cu, rfl, u1, u2⟩ := hu.form
 clear hp hi hu hS hst hok
 have m0 : ((p.mode : Int) == 0) = true := beq_iff_eq.2 (by omega)
 have g128 : (128 : Int) ≤ (b.toNat : Int) := by omega
 have q0 : ((nQ : Int) == 0) = false := bF (by omega)
 have nr0 : ((nR : Int) == 0) = false := bF (by simp at hnR; omega)
 have nr1 : ((nR : Int) == 1) = true := beq_iff_eq.2 (by simp at hnR; omega)
 have nr2 : 0 < nR := by simp at hnR; omega
 clear hQ
 clear hm hnQ hnR
 go_enter Tryz.func41, Tryz.ntmps41
 go_wp2_with (first
  | (go_at_call 68; (with_reducible refine (utfr_in w _ _ HSS.out HU.out b Q [65533] HST.out nQ nR HNQ.out HNR.out).mono ?_); rintro e w4 ⟨Aq, cq, Ar, cr, rfl, hq, hr, hb4⟩; obtain ⟨k0, k1⟩ := two_keptB hb4; obtain ⟨c0, c1, c2, c3, c4, cf⟩ := five_cells k0; obtain ⟨ad, rfl, cr0⟩ := rune_first hr; have hz4 := hb4.size; rw [(two_new w _ _).2] at hz4; have K0 := Lh k0; have K1 := Lh k1; have HB4 := Lh hb4; clear hq hb4 hr k0 k1)
  | (at_builtin; refine wpl_appA _ rfl (.tmp 60) (.tmp 62) rfl w4.heap.size (fun _ => False) _ (fun _ => False) (.slice none 0 0) _ [] [acP 65533] rfl rfl (OA.nil _ _ _) (AS.print w4 65533 _) (fun _ h => h.elim) (fun _ h => h.elim) (fun _ _ h => h) (by simp) (by simp) ?_; intro v5 w5 ho5 hg5 hb5 _; clear hg5; have b45 := ((Below.refl w4.heap.size w4).alloc (Nat.le_refl _) _).trans hb5; have hz5 := b45.size; obtain ⟨d0, d1, d2, d3, d4, df⟩ := five_cells ((b45.block _ (by omega)).trans K0.out); have HO5 := Lh (OA.weak (S' := fun _ => False) ho5 (fun _ h => h.elim id id) (fun _ _ h => h)); have HB45 := Lh b45; clear ho5 hb5 b45)
  | (go_at_call 71; fail))
 have h2 := two_new w (.cells (vPq p Ap Ai Au cp ci cu) 28) (.cells #[Value.int .i64 0, Value.int .u8 0, Value.slice none 0 0, Value.slice none 0 0, Value.slice none 0 0] 28)
 have hbw4 : Below w.heap.size w w4 := h2.1.trans (HB4.out.mono (by omega))
 have hbw6 : Below w.heap.size w (w5.setCell ⟨w.heap.size, 4, none⟩ (.slice none 0 0)) := (hbw4.trans (HB45.out.mono (by omega))).setCell (Nat.le_refl _) _
 have hz6 : (w5.setCell ⟨w.heap.size, 4, none⟩ (.slice none 0 0)).heap.size = w5.heap.size := by simp
 have hk6 : (w5.setCell ⟨w.heap.size, 4, none⟩ (.slice none 0 0)).heap[w.heap.size + 1]? = some (.cells #[Value.int .i64 0, Value.int .u8 0, Value.slice none 0 0, Value.slice none 0 0, Value.slice none 0 0] 28) := (Below.heap_setCell _ _ _ _ (by simp)).trans ((HB45.out.block _ (by omega)).trans K1.out)
 have ho6 : OA (w5.setCell ⟨w.heap.size, 4, none⟩ (.slice none 0 0)) w4.heap.size (fun _ => False) v5 [acP 65533] := HO5.out.set (by show w.heap.size < w4.heap.size; omega)
 generalize w5.setCell ⟨w.heap.size, 4, none⟩ (.slice none 0 0) = w6 at *
 have hz64 : w4.heap.size ≤ w6.heap.size := by omega
 have hcal := vtNr_any (.slice Ap p.params.length cp) (.slice Ai p.inter.length ci) (.slice none 0 0) { p with utf := [] } b S w6 (HP.out.keep (fun q hq => hbw6.cell (HSS.out _ hq))) (HI.out.keep (fun q hq => hbw6.cell (HSS.out _ hq))) (SL.nil _ _ _) (fun x hx => Nat.lt_of_lt_of_le (HSS.out x hx) hbw6.size) HOK.out
 generalize hV : vtN { p with utf := [] } b = V at *
 clear hV
 refine hcal.mono ?_
 rintro e w7 ⟨qv, av, rfl, hq, ha, hb7⟩
 have hz7 := hb7.size
 have HQ := Lh hq
 have HA := Lh ha
 obtain ⟨v1, v2, v3, rfl, s1, s2, s3⟩ := hq
 obtain ⟨Aa, ca, rfl, _, _⟩ := s1.form
 obtain ⟨Ab, cb, rfl, _, _⟩ := s2.form
 obtain ⟨Ac, cc, rfl, _, _⟩ := s3.form
 have K7 := Lh ((hb7.block _ (by omega)).trans hk6)
 have HBW7 := Lh (hbw6.trans (hb7.mono (by omega)))
 have HO7 := Lh (ho6.below (fun _ h => h.elim) hb7)
 have HG : Hid (∀ g, v5.ownBlock = some g → w4.heap.size ≤ g ∧ g < w6.heap.size) := fun g hg => ho6.lt g hg
 have HT : Hid (∀ x, (S x ∨ NewB w7 w6.heap.size x) → x < w7.heap.size) := fun x hx => by
  rcases hx with h | h
  ·have := HSS.out x h; omega
  ·exact h.2
 have HTg : Hid (∀ g, v5.ownBlock = some g → ¬ (S g ∨ NewB w7 w6.heap.size g)) := fun g hg hx => by
  have hgg := HG.out g hg
  rcases hx with h | h
  ·have := HSS.out g h; omega
  ·have := h.1; omega
 clear s1 s2 s3 ha hb7 hk6 ho6 hcal hbw6 d0 d1 d2 d3 d4 df c0 c1 c2 c3 c4 cf
 go_wp2
 have HKA : Hid (∀ (o : Obj) (q : Addr), q.block < w7.heap.size → (w7.alloc o).drew.cell? q = w7.cell? q) := fun o q hq => World.cell?_alloc_lt w7 o q hq
 go_region_law (refine step_appA rfl (.tmp 72) (.tmp 73) rfl w4.heap.size (fun _ => False) (NewB w7 w6.heap.size) (fun x => S x ∨ NewB w7 w6.heap.size x) v5 av [acP 65533] V.2 ?_ ?_ (OA.below HO7.out (fun _ h => h.elim) ((Below.refl _ _).alloc (Nat.le_refl _) _).drew) (HA.out.keep (fun q hq => HKA.out _ q hq.2) (fun q hq => HKA.out _ q (HT.out _ hq))) (fun _ h => h.elim) (fun x hx => by have := HT.out x hx; simp; omega) HTg.out (by simp; omega) (by simp; omega) ?_; go_simp; go_simp; intro v9 w9 ho9 hg9 hb9; obtain ⟨f0, f1, f2, f3, f4, ff⟩ := five_cells (row_kept9 K7.out (by omega) (by omega) hb9); obtain ⟨r0, r1, r2, r3, r4, rf⟩ := five_cells (row_last9 hg9 (fun g hg => by have := HG.out g hg; omega)))
 all_goals
  go_wp2
  exact bodyPost_ret (v := .tuple #[.agg #[.int .i64 (V.1.mode : Int), .int .u8 (V.1.priv : Int), Value.slice Aa V.1.params.length ca, Value.slice Ab V.1.inter.length cb, Value.slice Ac V.1.utf.length cc], v9]) (by simp [results, Tryz.results41, go_sem, f0, f1, f2, f3, f4]) rfl (fin_post9 HBW7.out HSS.out hz4 (by omega) (by omega) HQ.out hb9 hg9 HT.out HTg.out ho9 (fun y hy => hy.elim False.elim id))
theorem vtr_br4 (vp vi vu : Value) (p : Pr) (b : UInt8) (S : Nat → Prop) (w : World) (hp : SL vI w S vp p.params) (hi : SL vB w S vi p.inter) (hu : SL vB w S vu p.utf) (hS : ∀ x, S x → x < w.heap.size) (hok : PrOk p) (hm : p.mode = 0) (hpl : 0 < p.utf.length) (Q : List UInt8) (hst : stepL p.utf b = (Q, [65533])) (h128 : 128 ≤ b.toNat) (hQ : Q.length = 0) (hf : formedB p.utf b = false) :
  Calls Tryz.prog 41 #[.agg #[.int .i64 (p.mode : Int), .int .u8 (p.priv : Int), vp, vi, vu], .int .u8 (b.toNat : Int)] w (VtPost S ((vtN { p with utf := [] } b).1, acP 65533 :: (vtN { p with utf := [] } b).2) w) := by
 have HP := Lh hp
 have HI := Lh hi
 have HU := Lh hu
 have HSS := Lh hS
 have HST := Lh hst
 have HOK := Lh (drop_ok p hok)
 have hvl := vtN_len { p with utf := [] } b
 obtain ⟨nQ, hnQ⟩ : ∃ n, Q.length = n := ⟨_, rfl⟩
 obtain ⟨nR, hnR⟩ : ∃ n, [65533].length = n := ⟨_, rfl⟩
 have HNQ := Lh hnQ
 have HNR := Lh hnR
 obtain ⟨Ap, cp, rfl, p1, p2⟩ := hp.form
 obtain ⟨Ai, ci, rfl, i1, i2⟩ := hi.form
 obtain ⟨Au, cu, rfl, u1, u2⟩ := hu.form
 clear hp hi hu hS hst hok
 have m0 : ((p.mode : Int) == 0) = true := beq_iff_eq.2 (by omega)
 have g128 : (128 : Int) ≤ (b.toNat : Int) := by omega
 have q0 : ((nQ : Int) == 0) = true := beq_iff_eq.2 (by omega)
 have nr0 : ((nR : Int) == 0) = false := bF (by simp at hnR; omega)
 have nr1 : ((nR : Int) == 1) = true := beq_iff_eq.2 (by simp at hnR; omega)
 have nr2 : 0 < nR := by simp at hnR; omega
 clear hQ
 have HF := Lh hf
 clear hf
 clear hm hnQ hnR
 go_enter Tryz.func41, Tryz.ntmps41
 go_wp2_with (first
  | (go_at_call 68; (with_reducible refine (utfr_in w _ _ HSS.out HU.out b Q [65533] HST.out nQ nR HNQ.out HNR.out).mono ?_); rintro e w4 ⟨Aq, cq, Ar, cr, rfl, hq, hr, hb4⟩; obtain ⟨k0, k1⟩ := two_keptB hb4; obtain ⟨c0, c1, c2, c3, c4, cf⟩ := five_cells k0; obtain ⟨ad, rfl, cr0⟩ := rune_first hr; have hz4 := hb4.size; rw [(two_new w _ _).2] at hz4; have K0 := Lh k0; have K1 := Lh k1; have HB4 := Lh hb4; clear hq hb4 hr k0 k1)
  | (go_at_call 69; (with_reducible refine (formedr_any _ p.utf b w.heap.size _ (((HU.out.bs HSS.out).below (two_new w _ _).1).below (HB4.out.mono (by omega)))).mono ?_); rintro e w4b ⟨rfl, rfl⟩; rw [HF.out])
  | (at_builtin; refine wpl_appA _ rfl (.tmp 60) (.tmp 62) rfl w4.heap.size (fun _ => False) _ (fun _ => False) (.slice none 0 0) _ [] [acP 65533] rfl rfl (OA.nil _ _ _) (AS.print w4 65533 _) (fun _ h => h.elim) (fun _ h => h.elim) (fun _ _ h => h) (by simp) (by simp) ?_; intro v5 w5 ho5 hg5 hb5 _; clear hg5; have b45 := ((Below.refl w4.heap.size w4).alloc (Nat.le_refl _) _).trans hb5; have hz5 := b45.size; obtain ⟨d0, d1, d2, d3, d4, df⟩ := five_cells ((b45.block _ (by omega)).trans K0.out); have HO5 := Lh (OA.weak (S' := fun _ => False) ho5 (fun _ h => h.elim id id) (fun _ _ h => h)); have HB45 := Lh b45; clear ho5 hb5 b45)
  | (go_at_call 71; fail))
 have h2 := two_new w (.cells (vPq p Ap Ai Au cp ci cu) 28) (.cells #[Value.int .i64 0, Value.int .u8 0, Value.slice none 0 0, Value.slice none 0 0, Value.slice none 0 0] 28)
 have hbw4 : Below w.heap.size w w4 := h2.1.trans (HB4.out.mono (by omega))
 have hbw6 : Below w.heap.size w (w5.setCell ⟨w.heap.size, 4, none⟩ (.slice none 0 0)) := (hbw4.trans (HB45.out.mono (by omega))).setCell (Nat.le_refl _) _
 have hz6 : (w5.setCell ⟨w.heap.size, 4, none⟩ (.slice none 0 0)).heap.size = w5.heap.size := by simp
 have hk6 : (w5.setCell ⟨w.heap.size, 4, none⟩ (.slice none 0 0)).heap[w.heap.size + 1]? = some (.cells #[Value.int .i64 0, Value.int .u8 0, Value.slice none 0 0, Value.slice none 0 0, Value.slice none 0 0] 28) := (Below.heap_setCell _ _ _ _ (by simp)).trans ((HB45.out.block _ (by omega)).trans K1.out)
 have ho6 : OA (w5.setCell ⟨w.heap.size, 4, none⟩ (.slice none 0 0)) w4.heap.size (fun _ => False) v5 [acP 65533] := HO5.out.set (by show w.heap.size < w4.heap.size; omega)
 generalize w5.setCell ⟨w.heap.size, 4, none⟩ (.slice none 0 0) = w6 at *
 have hz64 : w4.heap.size ≤ w6.heap.size := by omega
 have hcal := vtNr_any (.slice Ap p.params.length cp) (.slice Ai p.inter.length ci) (.slice none 0 0) { p with utf := [] } b S w6 (HP.out.keep (fun q hq => hbw6.cell (HSS.out _ hq))) (HI.out.keep (fun q hq => hbw6.cell (HSS.out _ hq))) (SL.nil _ _ _) (fun x hx => Nat.lt_of_lt_of_le (HSS.out x hx) hbw6.size) HOK.out
 generalize hV : vtN { p with utf := [] } b = V at *
 clear hV
 refine hcal.mono ?_
 rintro e w7 ⟨qv, av, rfl, hq, ha, hb7⟩
 have hz7 := hb7.size
 have HQ := Lh hq
 have HA := Lh ha
 obtain ⟨v1, v2, v3, rfl, s1, s2, s3⟩ := hq
 obtain ⟨Aa, ca, rfl, _, _⟩ := s1.form
 obtain ⟨Ab, cb, rfl, _, _⟩ := s2.form
 obtain ⟨Ac, cc, rfl, _, _⟩ := s3.form
 have K7 := Lh ((hb7.block _ (by omega)).trans hk6)
 have HBW7 := Lh (hbw6.trans (hb7.mono (by omega)))
 have HO7 := Lh (ho6.below (fun _ h => h.elim) hb7)
 have HG : Hid (∀ g, v5.ownBlock = some g → w4.heap.size ≤ g ∧ g < w6.heap.size) := fun g hg => ho6.lt g hg
 have HT : Hid (∀ x, (S x ∨ NewB w7 w6.heap.size x) → x < w7.heap.size) := fun x hx => by
  rcases hx with h | h
  ·have := HSS.out x h; omega
  ·exact h.2
 have HTg : Hid (∀ g, v5.ownBlock = some g → ¬ (S g ∨ NewB w7 w6.heap.size g)) := fun g hg hx => by
  have hgg := HG.out g hg
  rcases hx with h | h
  ·have := HSS.out g h; omega
  ·have := h.1; omega
 clear s1 s2 s3 ha hb7 hk6 ho6 hcal hbw6 d0 d1 d2 d3 d4 df c0 c1 c2 c3 c4 cf
 go_wp2
 have HKA : Hid (∀ (o : Obj) (q : Addr), q.block < w7.heap.size → (w7.alloc o).drew.cell? q = w7.cell? q) := fun o q hq => World.cell?_alloc_lt w7 o q hq
 go_region_law (refine step_appA rfl (.tmp 72) (.tmp 73) rfl w4.heap.size (fun _ => False) (NewB w7 w6.heap.size) (fun x => S x ∨ NewB w7 w6.heap.size x) v5 av [acP 65533] V.2 ?_ ?_ (OA.below HO7.out (fun _ h => h.elim) ((Below.refl _ _).alloc (Nat.le_refl _) _).drew) (HA.out.keep (fun q hq => HKA.out _ q hq.2) (fun q hq => HKA.out _ q (HT.out _ hq))) (fun _ h => h.elim) (fun x hx => by have := HT.out x hx; simp; omega) HTg.out (by simp; omega) (by simp; omega) ?_; go_simp; go_simp; intro v9 w9 ho9 hg9 hb9; obtain ⟨f0, f1, f2, f3, f4, ff⟩ := five_cells (row_kept9 K7.out (by omega) (by omega) hb9); obtain ⟨r0, r1, r2, r3, r4, rf⟩ := five_cells (row_last9 hg9 (fun g hg => by have := HG.out g hg; omega)))
 all_goals
  go_wp2
  exact bodyPost_ret (v := .tuple #[.agg #[.int .i64 (V.1.mode : Int), .int .u8 (V.1.priv : Int), Value.slice Aa V.1.params.length ca, Value.slice Ab V.1.inter.length cb, Value.slice Ac V.1.utf.length cc], v9]) (by simp [results, Tryz.results41, go_sem, f0, f1, f2, f3, f4]) rfl (fin_post9 HBW7.out HSS.out hz4 (by omega) (by omega) HQ.out hb9 hg9 HT.out HTg.out ho9 (fun y hy => hy.elim False.elim id))
theorem vtr_any (vp vi vu : Value) (p : Pr) (b : UInt8) (S : Nat → Prop) (w : World) (hp : SL vI w S vp p.params) (hi : SL vB w S vi p.inter) (hu : SL vB w S vu p.utf) (hS : ∀ x, S x → x < w.heap.size) (hok : PrOk p) :
  Calls Tryz.prog 41 #[.agg #[.int .i64 (p.mode : Int), .int .u8 (p.priv : Int), vp, vi, vu], .int .u8 (b.toNat : Int)] w (VtPost S (vtL p b) w) := by
 by_cases hc : p.mode = 0 ∧ 0 < p.utf.length
 ·obtain ⟨Q, hQ⟩ : ∃ Q, (stepL p.utf b).1 = Q := ⟨_, rfl⟩
  obtain ⟨R, hR⟩ : ∃ R, (stepL p.utf b).2 = R := ⟨_, rfl⟩
  have hst : stepL p.utf b = (Q, R) := by rw [← hQ, ← hR]
  rw [show vtL p b = if goesB p.utf b = true then ({ prM 0 with utf := Q }, printsL R) else ((vtN { p with utf := [] } b).1, acP 65533 :: (vtN { p with utf := [] } b).2) from by unfold vtL; rw [if_pos hc, hQ, hR]]
  have hg : goesB p.utf b = (decide (128 ≤ b.toNat) && (decide (R.length = 0) || decide (R.getD 0 0 ≠ 65533) || (decide (R.length = 1) && decide (Q.length = 0) && formedB p.utf b))) := by unfold goesB; rw [hQ, hR]
  rw [hg]
  by_cases h128 : 128 ≤ b.toNat
  ·rcases R with _ | ⟨r, R⟩
   ·rw [if_pos (by simp [h128])]
    exact vtr_go1 vp vi vu p b S w hp hi hu hS hc.1 hc.2 h128 Q [] hst rfl
   ·by_cases hr : r = 65533
    ·subst hr
     rcases R with _ | ⟨r2, R⟩
     ·by_cases hq : Q.length = 0
      ·by_cases hf : formedB p.utf b = true
       ·rw [if_pos (by simp [h128, hq, hf])]
        exact vtr_go3 vp vi vu p b S w hp hi hu hS hc.1 hc.2 h128 Q hst hq hf
       ·rw [if_neg (by simp [h128, hq, hf])]
        exact vtr_br4 vp vi vu p b S w hp hi hu hS hok hc.1 hc.2 Q hst h128 hq (by simpa using hf)
      ·rw [if_neg (by simp [h128, hq])]
       exact vtr_br3 vp vi vu p b S w hp hi hu hS hok hc.1 hc.2 Q hst h128 hq
     ·rw [if_neg (by simp [h128])]
      exact vtr_br2 vp vi vu p b S w hp hi hu hS hok hc.1 hc.2 Q (r2 :: R) hst h128 (by simp)
    ·rw [if_pos (by simp [h128, hr])]
     exact vtr_go2 vp vi vu p b S w hp hi hu hS hc.1 hc.2 h128 Q r R hst hr
  ·rw [if_neg (by simp [h128])]
   exact vtr_br1 vp vi vu p b S w hp hi hu hS hok hc.1 hc.2 Q R hst h128
 ·rw [show vtL p b = vtN p b from by unfold vtL; rw [if_neg hc]]
  exact vtr_none vp vi vu p b S w hp hi hu hS hok hc
theorem below_drewV {B : Nat} {w w' : World} (h : Below B w w') (n : Nat) : Below B w (w'.drewN n) := ⟨h.os, h.tape, h.output, h.size, h.block⟩
def RightP (m : Int) (pv : Nat) (ps : List Int) (is us : List UInt8) : Prop :=
 (0 ≤ m ∧ m ≤ 7 ∧ ps.length ≤ 16 ∧ is.length ≤ 2 ∧ (0 < us.length → m = 0 ∧ beginsL us = true)) ∧ (∀ x ∈ ps, 0 ≤ x ∧ x ≤ 65535) ∧ (∀ b ∈ is, interB b = true) ∧ (pv = 0 ∨ (60 ≤ pv ∧ pv ≤ 63)) ∧ ((m = 4 ∨ m = 5) ∨ (pv = 0 ∧ ps.length = 0)) ∧ ((m = 2 ∨ m = 5) ↔ 0 < is.length)
def RightPost (m : Int) (pv : Nat) (ps : List Int) (is us : List UInt8) (w : World) (e : Ending) (w' : World) : Prop :=
 ∃ r, e = .returned (.bool r) ∧ (r = true ↔ RightP m pv ps is us) ∧ Below w.heap.size w w'
theorem right_no {m : Int} {pv : Nat} {ps : List Int} {is us : List UInt8} {w w' : World} (h : ¬ RightP m pv ps is us) (hb : Below w.heap.size w w') : RightPost m pv ps is us w (.returned (.bool false)) w' := ⟨false, rfl, by simp [h], hb⟩
theorem rightP_ok {p : Pr} (h : PrOk p) : RightP (p.mode : Int) p.priv p.params p.inter p.utf := by
 have hm := h.mode
 refine ⟨⟨by omega, by omega, h.params, h.inter, fun hu => ?_⟩, h.each, h.eachI, h.priv, ?_, ?_⟩
 ·rcases h.utf with e | ⟨e1, e2⟩
  ·rw [e] at hu; simp at hu
  ·exact ⟨by omega, e2⟩
 ·rcases h.csi with e | e | ⟨e1, e2⟩
  ·exact .inl (.inl (by omega))
  ·exact .inl (.inr (by omega))
  ·exact .inr ⟨e1, by rw [e2]; rfl⟩
 ·rw [← h.with_]
  omega
def vT (b : Bool) : Value := .bool b
def vTs (l : List Bool) : List Value := l.map vT
def OT (w : World) (base : Nat) (v : Value) (l : List Bool) : Prop := w.ownsRow base 4 1 v l.length (vTs l)
def TS (w : World) (B : Nat) (v : Value) (l : List Bool) : Prop :=
 ∃ A c, v = .slice A l.length c ∧ l.length ≤ c ∧ c ≤ maxLen ∧
  (0 < l.length → ∃ ad, A = some ad ∧ ad.block < B ∧ ∀ j b, l[j]? = some b → w.cell? (ad.add j) = some (vT b))
theorem vTs_one (l : List Bool) : ∀ u ∈ vTs l, u.oneCell' = true := by
 intro u hu
 unfold vTs at hu
 rw [List.mem_map] at hu
 obtain ⟨b, _, rfl⟩ := hu
 rfl
section
variable {w w' : World} {B B' base : Nat} {v : Value} {l : List Bool}
theorem TS.keep (h : TS w B v l) (hk : ∀ p : Addr, p.block < B → w'.cell? p = w.cell? p) : TS w' B v l := by
 obtain ⟨A, c, hv, h1, h2, h3⟩ := h
 refine ⟨A, c, hv, h1, h2, fun hl => ?_⟩
 obtain ⟨ad, hA, hb, hc⟩ := h3 hl
 exact ⟨ad, hA, hb, fun j b hj => (hk _ (by rw [block_add]; exact hb)).trans (hc j b hj)⟩
theorem TS.below (h : TS w B v l) (hb : Below B w w') : TS w' B v l := h.keep fun _ hp => hb.cell hp
theorem TS.nil (w : World) (B : Nat) : TS w B (.slice none 0 0) [] := ⟨none, 0, rfl, by simp, by simp [maxLen], fun h => absurd h (by simp)⟩
theorem TS.at_ (h : TS w B v l) : ∃ A c, v = .slice A l.length c ∧ l.length ≤ c ∧ c ≤ maxLen ∧
  ∀ k (hk : k < l.length), ∃ ad, A = some ad ∧ w.cell? (ad.add k) = some (vT (l[k]'hk)) := by
 obtain ⟨A, c, hv, h1, h2, h3⟩ := h
 refine ⟨A, c, hv, h1, h2, fun k hk => ?_⟩
 obtain ⟨ad, hA, _, hc⟩ := h3 (by omega)
 exact ⟨ad, hA, hc k _ (List.getElem?_eq_getElem hk)⟩
theorem OT.nil (w : World) (base : Nat) : OT w base (.slice none 0 0) [] := World.ownsRow_nil w base _ _
theorem OT.bs (h : OT w base v l) : TS w w.heap.size v l := by
 unfold OT at h
 rcases h.2 with ⟨rfl, hn⟩ | ⟨g, cap, cur, rfl, hbg, hg, hnc, hcm, hcs, htake⟩
 ·have : l = [] := List.eq_nil_of_length_eq_zero hn
  subst this
  exact TS.nil w _
 ·have hlt : g < w.heap.size := by
   rcases Nat.lt_or_ge g w.heap.size with hh | hh
   ·exact hh
   ·rw [Array.getElem?_eq_none hh] at hg; cases hg
  refine ⟨_, cap, rfl, hnc, hcm, fun _ => ⟨_, rfl, hlt, fun j b hj => ?_⟩⟩
  refine h.cells (g := g) rfl j (vT b) ?_
  unfold vTs
  rw [List.getElem?_map, hj]; rfl
end
theorem TS.one (w : World) (b : Bool) (t : TypeId) : TS (w.alloc (.cells #[vT b] t)) (w.heap.size + 1) (.slice (some ⟨w.heap.size, 0, none⟩) 1 1) [b] := by
 refine ⟨_, 1, rfl, by simp, by simp [maxLen], fun _ => ⟨_, rfl, by simp, fun j c hj => ?_⟩⟩
 match j, hj with
 | 0, hj =>
  simp at hj
  subst hj
  simp [Addr.add]
theorem OT.alloc {w : World} {base : Nat} {v : Value} {l : List Bool} (h : OT w base v l) (o : Obj) : OT (w.alloc o) base v l := World.ownsRow.alloc h o
theorem boolInfo : (Tryz.prog.info? 4).map (fun i => (i.zero, i.size, i.bytes)) = some (some (.bool false), 1, 1) := by kernel_rfl
theorem run_appT (w : World) (ty : TypeId) {base B : Nat} {v u : Value} {l m : List Bool} (hown : OT w base v l) (hr : TS w B u m) (hlen : l.length + m.length ≤ 1099511627776) (hbase : base ≤ w.heap.size) :
  ∃ v' w', (Builtin.append_ #[24, 24] ty #[v, u]).run Tryz.prog w = .ok v' w' ∧ OT w' base v' (l ++ m) ∧ w.grownBy w' v.ownBlock ∧ Below base w w' ∧ (v'.ownBlock = v.ownBlock ∨ v'.ownBlock = some w.heap.size) := by
 obtain ⟨i0, hi0, hz0, hz1, hz2⟩ := info_parts boolInfo
 have hlt := World.ownsRow.lt hown
 have hfin : ∀ v' w', w'.ownsRow base 4 1 v' (l.length + m.length) (vTs l ++ vTs m) → OT w' base v' (l ++ m) := by
  intro v' w' h
  unfold OT vTs
  rw [List.length_append, List.map_append]
  exact h
 obtain ⟨A, c, rfl, h1, h2, h3⟩ := hr
 rcases Nat.eq_zero_or_pos m.length with h0 | h0
 ·have hm : m = [] := List.eq_nil_of_length_eq_zero h0
  subst hm
  refine ⟨v, w, ?_, by simpa using hown, World.grownBy.refl w _, Below.refl _ _, .inl rfl⟩
  rcases hown.2 with ⟨rfl, hn⟩ | ⟨g, cap, cur, rfl, _, _, hnc, _⟩
  ·cases A <;> simp [Builtin.append_, run_underlying Tryz.underlying24, sizeOf, typeInfo, hi0, Builtin.lenOf, Builtin.firstCells, loadCells, loadCellsFrom]
  ·cases A <;> simp [Builtin.append_, run_underlying Tryz.underlying24, sizeOf, typeInfo, hi0, Builtin.lenOf, Builtin.firstCells, hnc, storeCells, loadCells, loadCellsFrom]
 ·obtain ⟨ad, rfl, hb, hc⟩ := h3 h0
  obtain ⟨v', w', hrun, h4, h5, _, h6⟩ := run_append_own_at (P := Tryz.prog) w base 24 ty 4 i0 _ 1 1 Tryz.underlying24 hi0 hz0 hz1 hz2 rfl (by omega) v l.length (vTs l) hown ad m.length c (vTs m) (by simp [vTs])
   (fun j u hj => by
    unfold vTs at hj
    rw [List.getElem?_map] at hj
    cases hmj : m[j]? with
    | none => rw [hmj] at hj; cases hj
    | some b =>
     rw [hmj] at hj
     simp only [Option.map_some, Option.some.injEq] at hj
     subst hj
     exact hc j b hmj)
   (vTs_one m) (by simp only [maxLen]; omega) (by omega) hbase
  exact ⟨v', w', hrun, hfin v' w' h4, h5, (Below.refl _ _).grown h5 hbase (fun k hk => (hlt k hk).1), h6⟩
theorem wpl_appT (w : World) {ops : Array Oper} {rest : List Oper} {o : Oper} {a : Act} {Q : Exit → Act → World → Prop} (hgd : o.guard = none) (s x : Operand)
  (ho : o.op = .call { callee := .builtin .append, args := #[s, x], argTypes := #[24, 24] })
  (base B : Nat) (v u : Value) (l m : List Bool) (hs : a.eval s = v) (hx : a.eval x = u) (hown : OT w base v l) (hr : TS w B u m) (hlen : l.length + m.length ≤ 1099511627776) (hbase : base ≤ w.heap.size)
  (h : ∀ v' w', OT w' base v' (l ++ m) → w.grownBy w' v.ownBlock → Below base w w' → (v'.ownBlock = v.ownBlock ∨ v'.ownBlock = some w.heap.size) → wpList Tryz.prog ops Q rest (a.put o.dst v') w') :
  wpList Tryz.prog ops Q (o :: rest) a w := by
 refine wpList_plain hgd fun K hK => ?_
 obtain ⟨v', w', hrun, h2, h3, h4, h5⟩ := run_appT w o.type hown hr hlen hbase
 unfold Oper.wp execOp
 simp only [ho, resolve, invoke, builtin, Sem.run_bind, Sem.run_pure, Result.andThen_ok, List.map_toArray, List.map_cons, List.map_nil, hs, hx, hrun]
 exact hK _ _ (h v' w' h2 h3 h4 h5)
section
variable {w : World} {base g n cap : Nat} {l : List Bool}
theorem OT.len (h : OT w base (.slice (some ⟨g, 0, none⟩) n cap) l) : n = l.length := by
 unfold OT at h
 rcases h.2 with ⟨hv, _⟩ | ⟨g', cap', cur, hv, _⟩
 ·cases hv
 ·simp only [Value.slice.injEq] at hv
  exact hv.2.1
theorem OT.spot (h : OT w base (.slice (some ⟨g, 0, none⟩) n cap) l) (k : Nat) (hk : k < n) : ∃ x, w.cell? ⟨g, k, none⟩ = some x ∧ w.frozen? ⟨g, k, none⟩ = false := by
 obtain rfl := h.len
 unfold OT at h
 refine ⟨vT l[k], ?_, World.ownsRow.frozenAt h k⟩
 rw [World.ownsRow.cellAt h k (by omega)]
 simp [vTs, hk]
theorem OT.put (h : OT w base (.slice (some ⟨g, 0, none⟩) n cap) l) (k : Nat) (x : Bool) : OT (w.setCell ⟨g, k, none⟩ (.bool x)) base (.slice (some ⟨g, 0, none⟩) n cap) (l.set k x) := by
 obtain rfl := h.len
 have := (World.ownsRow.stored h k (vT x)).1
 unfold OT
 rw [List.length_set]
 have e : vTs (l.set k x) = (vTs l).set k (vT x) := by simp [vTs, List.map_set]
 rw [e]
 exact this
end
theorem OT.open_ {w : World} {base : Nat} {v : Value} {l : List Bool} (h : OT w base v l) (hl : 0 < l.length) : ∃ g cap, v = .slice (some ⟨g, 0, none⟩) l.length cap ∧ base ≤ g ∧ g < w.heap.size ∧ l.length ≤ cap ∧ cap ≤ 9223372036854775807 := by
 have hh := h
 unfold OT at h
 rcases h.2 with ⟨rfl, hn⟩ | ⟨g, cap, cur, rfl, hbg, hg, hnc, hcm, hcs, htake⟩
 ·omega
 ·unfold maxLen at hcm
  exact ⟨g, cap, rfl, hbg, (World.ownsRow.lt hh g rfl).2, hnc, by omega⟩
theorem madeT (n : Nat) : madeCells #[.bool false] n = (vTs (List.replicate n false)).toArray := by
 apply Array.ext_getElem?
 intro i
 simp only [madeCells, vTs, List.map_replicate, List.getElem?_toArray, Array.getElem?_map]
 by_cases h : i < n
 ·simp [h, vT, Nat.mod_one]
 ·simp [h]
theorem OT.made (w : World) (n : Nat) (hm : n ≤ 1048576) : OT (w.alloc (.cells (madeCells #[.bool false] n) 4)) w.heap.size (.slice (some ⟨w.heap.size, 0, none⟩) n n) (List.replicate n false) := by
 have := World.ownsRow_lit (base := w.heap.size) (e := 4) (size := 1) w (madeCells #[.bool false] n) n (Nat.le_refl _) (by simp [maxLen]; omega) (by rw [size_madeCells]; omega)
 unfold OT
 rw [List.length_replicate]
 rw [madeT] at this ⊢
 exact this
theorem run_makeT (n : Nat) (hn : n ≤ 1048576) (w : World) :
  (Instr.makeSlice 24 (.int .i64 (n : Int)) (.int .i64 (n : Int))).run Tryz.prog w = .ok (.slice (some ⟨w.heap.size, 0, none⟩) n n) (w.alloc (.cells (madeCells #[.bool false] n) 4)) :=
 run_make_row' 24 4 (.bool false) 1 Tryz.underlying24 boolInfo rfl .i64 .i64 n (by omega) (by omega) w
theorem Down_yes (v : Value) (l : List Cl) (r c top bottom : Nat) (n : Int) (w : World) (h : CS w w.heap.size v l) (hg : GOk l.length r c) (htb : top ≤ bottom) (hbr : bottom < r) :
  Calls Tryz.prog 100 #[v, .int .i64 (c : Int), .int .i64 (top : Int), .int .i64 (bottom : Int), .int .i64 n] w (CellsPost (fillL l (downF l c top (capN n)) (top * c) ((bottom + 1) * c)) w) := by
 obtain ⟨A, k, rfl, h1, h2⟩ := h.form
 have H := Lh h
 have HG := Lh hg
 have c1 := hg.c1
 have c2 := hg.c2
 have r2 := hg.r2
 have hn := hg.n
 have hrc := rc_le hg.r2 hg.c2
 have hlen : l.length ≤ 1000000 := by omega
 have HN := Lh hn
 clear h hg hn
 have d1 : decide ((top : Int) < 0) = false := by simp
 have d2 : decide (r ≤ bottom) = false := by simpa using hbr
 have d3 : decide (bottom < top) = false := by simpa using htb
 go_enter Tryz.func100, Tryz.ntmps100
 go_upto_region 6 with (first | ((with_reducible refine (own_any _ l _ H.out (by omega)).mono ?_); rintro e w1 ⟨v1, rfl, o1, b1⟩; have z1 := b1.size; have HC := Lh ((H.out.below b1).more z1); have HO := Lh o1; have HB := Lh b1; clear o1 b1) | ((with_reducible refine (grid_yes _ l r c _ HC.out HG.out).mono ?_); rintro e w' ⟨rfl, rfl⟩))
 rw [cap_if]
 have hm := capN_le n
 generalize capN n = m at *
 generalize (if n < 0 then 0 else n) = q
 have hpos : 0 < l.length := by rw [HN.out]; exact Nat.mul_pos (by omega) (by omega)
 obtain ⟨g, cap, rfl, hg1, hg2, hg3, hg4⟩ := HO.out.open_ hpos
 go_wp2
 go_loopw [14] (fun i wr => RowsRel l (downF l c top m) c top bottom w w.heap.size g cap i wr) (fun i _ => bottom + 1 - (intOf i).toNat)
 case atStart => exact ⟨top, Nat.le_refl _, by omega, rfl, by rw [fillL_none _ _ _ _ (Nat.le_refl _)]; exact HO.out, HB.out⟩
 case round =>
  generalize wr = w2 at *
  obtain ⟨y, hy1, hy2, rfl, ho, hb⟩ := hrel
  have HO2 := Lh ho
  have HB2 := Lh hb
  clear ho hb
  by_cases hlt : y ≤ bottom
  ·go_wp2
   go_loopw [15] (fun i wr => ColsRel l (downF l c top m) c top y w w.heap.size g cap i wr) (fun i _ => c - (intOf i).toNat)
   case atStart => exact ⟨0, by omega, rfl, HO2.out, HB2.out⟩
   case round =>
    generalize wr = w3 at *
    obtain ⟨x, hx, rfl, ho, hb⟩ := hrel
    have HO3 := Lh ho
    have HB3 := Lh hb
    have z3 := hb.size
    clear ho hb
    by_cases hxc : x < c
    ·obtain ⟨p, hp⟩ : ∃ p : Nat, p = y * c := ⟨_, rfl⟩
     have hyc : (y : Int) * (c : Int) = (p : Int) := by rw [hp]; simp
     have hpx : p + x < l.length := by rw [hp, HN.out]; exact rc_lt (by omega) hxc
     have hdv := rc_div y c x hxc
     rw [← hp] at hdv
     have HD := Lh hdv
     have HP := Lh hp
     clear hp hdv
     by_cases hym : top + m ≤ y
     ·obtain ⟨p2, hp2⟩ : ∃ p2 : Nat, p2 = (y - m) * c := ⟨_, rfl⟩
      have hyc2 : ((y : Int) - (m : Int)) * (c : Int) = (p2 : Int) := by rw [hp2, Int.natCast_mul, Int.ofNat_sub (by omega)]
      have hpx2 : p2 + x < l.length := by rw [hp2, HN.out]; exact rc_lt (by omega) hxc
      have hym' : (top : Int) ≤ (y : Int) - (m : Int) := by omega
      obtain ⟨d, hd⟩ : ∃ d, l[p2 + x]? = some d := ⟨_, List.getElem?_eq_getElem hpx2⟩
      have HD2 := Lh hd
      have HP2 := Lh hp2
      clear hd hp2
      obtain ⟨ad, hA, hab, -⟩ := H.out.get (p2 + x) d HD2.out
      subst hA
      go_wp2_with ((with_reducible refine (blank_any _).mono ?_); rintro e w' ⟨rfl, hw'⟩; have z4 := hw'.size; have H1 := Lh (HO3.out.below hw'); have HW := Lh hw'; obtain ⟨x0, y0, z0, s0, s1, s2, f0, f1, f2⟩ := (HO3.out.below hw').spot (p + x) hpx; obtain ⟨_, hA, hab2, t0, t1, t2⟩ := ((H.out.below HB3.out).below (hw'.mono z3)).get (p2 + x) d HD2.out; cases hA; have tb : (ad.add ((p2 + x) * 3)).block < w'.heap.size := (by rw [block_add]; omega); have hg5 : g < w'.heap.size := (HO3.out.below hw').block.2; clear hw')
      go_roundw
      case rel =>
       refine ⟨x + 1, by omega, by go_num, ?_, (below_put (HB3.out.trans (HW.out.mono z3)) hg1 _ _ _ _).alloc (by simp; omega) _⟩
       have e : d = downF l c top m (p + x) := by
        unfold downF
        rw [HD.out.1, if_pos hym]
        have e2 : p + x - m * c = p2 + x := by
         have e3 : (y - m) * c + m * c = y * c := by rw [← Nat.add_mul]; congr 1; omega
         rw [HP.out, HP2.out]; omega
        rw [e2]
        have := getC_of hpx2
        rw [HD2.out] at this
        exact Option.some.inj this
       have hpe := HP.out
       have := (H1.out.put (p + x) hpx d).alloc (.cells #[.int .i32 d.r, .int .u16 (d.a : Int), .int .u8 (d.h : Int)] 65)
       rw [← hpe, fillL_set _ _ _ _ _ (by rw [HP.out]; exact Nat.le_trans (Nat.mul_le_mul_right _ hy1) (Nat.le_add_right _ _)) e] at this
       rw [show y * c + (x + 1) = p + x + 1 by rw [HP.out]; omega]
       exact this
      case measure => simp [intOf]; omega
     ·have hym' : (y : Int) - (m : Int) < (top : Int) := by omega
      go_wp2_with ((with_reducible refine (blank_any _).mono ?_); rintro e w' ⟨rfl, hw'⟩; have z4 := hw'.size; have H1 := Lh (HO3.out.below hw'); have HW := Lh hw'; obtain ⟨x0, y0, z0, s0, s1, s2, f0, f1, f2⟩ := (HO3.out.below hw').spot (p + x) hpx; have hg5 : g < w'.heap.size := (HO3.out.below hw').block.2; clear hw')
      go_roundw
      case rel =>
       refine ⟨x + 1, by omega, by go_num, ?_, (below_put (HB3.out.trans (HW.out.mono z3)) hg1 _ _ _ _).alloc (by simp; omega) _⟩
       have e : blankC = downF l c top m (p + x) := by
        unfold downF
        rw [HD.out.1, if_neg hym]
       have hpe := HP.out
       have := (H1.out.put (p + x) hpx blankC).alloc (.cells #[.int .i32 32, .int .u16 0, .int .u8 0] 65)
       rw [← hpe, fillL_set _ _ _ _ _ (by rw [HP.out]; exact Nat.le_trans (Nat.mul_le_mul_right _ hy1) (Nat.le_add_right _ _)) e] at this
       rw [show y * c + (x + 1) = p + x + 1 by rw [HP.out]; omega]
       exact this
      case measure => simp [intOf]; omega
    ·obtain rfl : c = x := by omega
     go_wp2
     go_roundw
     case rel =>
      refine ⟨y + 1, by omega, by omega, by go_num, ?_, HB3.out⟩
      have e : (y + 1) * c = y * c + c := by rw [Nat.add_mul, Nat.one_mul]
      rw [e]
      exact HO3.out
     case measure => simp [intOf]; omega
  ·obtain rfl : y = bottom + 1 := by omega
   go_wp2
   go_ret
   exact ⟨_, rfl, HO2.out, HB2.out⟩
theorem Down_no (v : Value) (l : List Cl) (cols top bottom n : Int) (w : World) (h : CS w w.heap.size v l) (hl : l.length ≤ 1099511627776) (hb : upB l.length cols top bottom = false) :
  Calls Tryz.prog 100 #[v, .int .i64 cols, .int .i64 top, .int .i64 bottom, .int .i64 n] w (CellsPost l w) := by
 obtain ⟨A, k, rfl, h1, h2⟩ := h.form
 have H := Lh h
 unfold upB at hb
 rw [decide_eq_false_iff_not] at hb
 clear h
 cases ho : gOk l.length cols with
 | false =>
  have HO := Lh ho
  clear ho hb
  go_enter Tryz.func100, Tryz.ntmps100
  go_wp2_with (first | ((with_reducible refine (own_any _ l _ H.out hl).mono ?_); rintro e w1 ⟨v1, rfl, o1, b1⟩; have z1 := b1.size; have HC := Lh ((H.out.below b1).more z1); have H1 := Lh o1; have HB := Lh b1; clear o1 b1) | ((with_reducible refine (grid_no _ l cols _ HC.out hl HO.out).mono ?_); rintro e w' ⟨rfl, rfl⟩))
  go_ret
  exact ⟨v1, rfl, H1.out, HB.out⟩
 | true =>
  obtain ⟨r, c, rfl, hG⟩ := gOk_of ho
  have hq := hG.quo.1
  rw [hq] at hb
  have hno : top < 0 ∨ (0 ≤ top ∧ (r : Int) ≤ bottom) ∨ (0 ≤ top ∧ bottom < (r : Int) ∧ bottom < top) := by
   by_cases e1 : top < 0
   ·exact .inl e1
   by_cases e2 : (r : Int) ≤ bottom
   ·exact .inr (.inl ⟨by omega, e2⟩)
   ·refine .inr (.inr ⟨by omega, by omega, ?_⟩)
    by_cases e3 : bottom < top
    ·exact e3
    ·exact absurd ⟨ho, by omega, by omega, by omega⟩ hb
  have HG := Lh hG
  clear ho hG hq hb
  rcases hno with e1 | ⟨e1, e2⟩ | ⟨e1, e2, e3⟩
  all_goals
   go_enter Tryz.func100, Tryz.ntmps100
   go_wp2_with (first | ((with_reducible refine (own_any _ l _ H.out hl).mono ?_); rintro e w1 ⟨v1, rfl, o1, b1⟩; have z1 := b1.size; have HC := Lh ((H.out.below b1).more z1); have H1 := Lh o1; have HB := Lh b1; clear o1 b1) | ((with_reducible refine (grid_yes _ l r c _ HC.out HG.out).mono ?_); rintro e w' ⟨rfl, rfl⟩))
   go_ret
   exact ⟨v1, rfl, H1.out, HB.out⟩
theorem Down_any (v : Value) (l : List Cl) (cols top bottom n : Int) (w : World) (h : CS w w.heap.size v l) (hl : l.length ≤ 1099511627776) :
  Calls Tryz.prog 100 #[v, .int .i64 cols, .int .i64 top, .int .i64 bottom, .int .i64 n] w (CellsPost (downL l cols top bottom n) w) := by
 cases hb : upB l.length cols top bottom with
 | false =>
  have hno := hb
  unfold upB at hno
  rw [decide_eq_false_iff_not] at hno
  unfold downL
  rw [if_neg hno]
  exact Down_no v l cols top bottom n w h hl hb
 | true =>
  unfold upB at hb
  rw [decide_eq_true_eq] at hb
  unfold downL
  rw [if_pos hb]
  obtain ⟨h1, h2, h3, h4⟩ := hb
  obtain ⟨r, c, rfl, hG⟩ := gOk_of h1
  rw [hG.quo.1] at h3
  obtain ⟨t, rfl⟩ : ∃ t : Nat, top = t := ⟨top.toNat, by omega⟩
  obtain ⟨b, rfl⟩ : ∃ b : Nat, bottom = b := ⟨bottom.toNat, by omega⟩
  simp only [Int.toNat_natCast]
  exact Down_yes v l r c t b n w h hG (by omega) (by omega)
end Go.Proofs.YthepofkdgbcifaaGreat
