/- What is proved here: a contract of the document's function that takes a byte: in new memory, or in its argument's; a contract of the document's function that takes a byte, where the byte goes on with what is pending: in new memory, or in its argument's; a contract of the document's function that takes a byte, where the byte breaks off what is pending: in new memory, or in its argument's; words for screens in memory over this translation: a screen's value, how it is kept, how a whole one is loaded and stored; the contracts of the document's line feed on a screen; the contracts of the document's moves on a screen, of a number of a sequence; the contract of the document's modes of a screen; the contract of the document's controls on a screen; the contract of the document's new screen; the contract of the document's escapes on a screen. -/
import Derived.Test.YtejemcpkmfhenaaM4
import Derived.Deep.RegionLaw
import Derived.OneCell
import Derived.Test.YtejemcpkmfhenaaM3
import Derived.Test.YtejemcpkmfhenaaM1
import Derived.Test.YtejemcpkmfhenaaM2
import Derived.Deep.WholeRow
import Derived.Laws.ResultCell
import Derived.Deep.LoopGhost
namespace Go.Proofs.Ytejemcpkmfhenaa
open Go.RowKit
set_option linter.unusedVariables false

/-- append of acts at a step of a region that draws. -/
theorem step_appA {ops : Array Oper} {o : Oper} {a : Act} {w : World} {K : Act → World → Prop} {Q : Exit → Act → World → Prop} {E : Prop} (hgd : o.guard = none) (s x : Operand)
    (ho : o.op = .call { callee := .builtin .append, args := #[s, x], argTypes := #[60, 60] })
    (base : Nat) (S R T : Nat → Prop) (v u : Value) (l m : List Ac) (hs : a.eval s = v) (hx : a.eval x = u) (hown : OA w base S v l) (hr : AS w R T u m) (hS : ∀ x, S x → x < w.heap.size) (hT : ∀ x, T x → x < w.heap.size) (hTg : ∀ g, v.ownBlock = some g → ¬ T g) (hlen : l.length + m.length ≤ 1099511627776) (hbase : base ≤ w.heap.size)
    (h : ∀ v' w', OA w' base (fun x => S x ∨ T x) v' (l ++ m) → w.grownBy w' v.ownBlock → Below base w w' → K (a.put o.dst v') w') :
    if Region.wanted o (yielded ops a.tmps) = true then Oper.wp Try.prog o a w K Q else E := by
  have hw : Region.wanted o (yielded ops a.tmps) = true := by simp [Region.wanted, hgd]
  rw [if_pos hw]
  obtain ⟨v', w', hrun, h2, h3, h4, h5⟩ := run_appA w o.type hown hr hS hT hTg hlen hbase
  unfold Oper.wp execOp
  simp only [ho, resolve, invoke, builtin, Sem.run_bind, Sem.run_pure, Result.andThen_ok, List.map_toArray, List.map_cons, List.map_nil, hs, hx, hrun]
  exact h v' w' h2 h3 h4
theorem csiL_len (p : Pr) (b : UInt8) : (csiL p b).2.length ≤ 1 := by
  unfold csiL
  repeat' split
  all_goals simp
theorem vtM_len (p : Pr) (b : UInt8) : (vtM p b).2.length ≤ 1 := by
  have h := csiL_len p b
  unfold vtM
  repeat' split
  all_goals (first | exact h | simp)
theorem vtN_len (p : Pr) (b : UInt8) : (vtN p b).2.length ≤ 2 := by
  have h1 := stepL_len [] b
  have h2 := vtM_len p b
  have h3 : (printsL (stepL [] b).2).length ≤ 2 := by simp [printsL]; omega
  unfold vtN
  repeat' split
  all_goals (first | exact h3 | (simp; done) | omega)
/-- A block that was there, behind a block more and a call or an append. -/
theorem row_kept {w4 w6 : World} {g : Nat} {o x : Obj} (h : w4.heap[g]? = some o) (hg : g < w4.heap.size) (hb : Below (w4.heap.size + 1) (w4.alloc x).drew w6) : w6.heap[g]? = some o := by
  refine (hb.block g (by omega)).trans ?_
  show (w4.heap.push x)[g]? = some o
  rw [Array.getElem?_push, if_neg (by omega)]
  exact h
theorem row_last {w4 w6 : World} {x : Obj} (hb : Below (w4.heap.size + 1) (w4.alloc x).drew w6) : w6.heap[w4.heap.size]? = some x := by
  refine (hb.block _ (by omega)).trans ?_
  show (w4.heap.push x)[w4.heap.size]? = some x
  rw [Array.getElem?_push, if_pos rfl]

/-- What a call within has answered, behind one block and an append more. -/
theorem fin_post {w w4 w6 : World} {x : Obj} {S T : Nat → Prop} {m pr : Int} {vp vi vu av : Value} {q : Pr} {l : List Ac} (hb : Below w.heap.size w w4) (hS : ∀ x, S x → x < w.heap.size) (hz : w.heap.size + 1 + 1 ≤ w4.heap.size)
    (hq : PV w4 (fun x => S x ∨ NewB w4 (w.heap.size + 1 + 1) x) (.agg #[.int .i64 m, .int .u8 pr, vp, vi, vu]) q) (hb6 : Below (w4.heap.size + 1) (w4.alloc x).drew w6) (ho : OA w6 (w4.heap.size + 1) T av l) (hT : ∀ y, T y → S y ∨ NewB w4 (w.heap.size + 1 + 1) y) :
    VtPost S (q, l) w (.returned (.tuple #[.agg #[.int .i64 m, .int .u8 pr, vp, vi, vu], av])) (wset w w6 (.int .i64 m) (.int .u8 pr) vp vi vu) := by
  have hz6 : w4.heap.size + 1 ≤ w6.heap.size := by
    have := hb6.size
    have e : (w4.alloc x).drew.heap.size = w4.heap.size + 1 := by simp
    omega
  have hmono : ∀ y, (S y ∨ NewB w4 (w.heap.size + 1 + 1) y) → (S y ∨ NewB w6 (w.heap.size + 1 + 1) y) := fun y hy => hy.imp id (fun h => ⟨h.1, by have := h.2; omega⟩)
  have hk : ∀ a : Addr, (S a.block ∨ NewB w4 (w.heap.size + 1 + 1) a.block) → w6.cell? a = w4.cell? a := fun a ha => by
    have hlt : a.block < w4.heap.size := by
      rcases ha with h | h
      · have := hS _ h; omega
      · exact h.2
    exact (hb6.cell (p := a) (by omega)).trans (World.cell?_alloc_lt w4 x a hlt)
  have hbb : Below w.heap.size w w6 := hb.trans ((((Below.refl w4.heap.size w4).alloc (Nat.le_refl _) x).drew.trans (hb6.mono (by omega))).mono (by omega))
  exact hand_post (r := (q, l)) hbb hS (by omega) ((hq.keep hk).mono hmono) (ho.as.mono (fun y hy => ⟨by have := hy.1; omega, hy.2⟩) (fun y hy => hmono y (hT y hy)))

set_option maxHeartbeats 1000000 in
set_option maxRecDepth 100000 in
/-- Nothing is pending. -/
theorem vtr_none (vp vi vu : Value) (p : Pr) (b : UInt8) (S : Nat → Prop) (w : World) (hp : SL vI w S vp p.params) (hi : SL vB w S vi p.inter) (hu : SL vB w S vu p.utf) (hS : ∀ x, S x → x < w.heap.size) (hok : PrOk p) (hno : ¬ (p.mode = 0 ∧ 0 < p.utf.length)) :
    Calls Try.prog 44 #[.agg #[.int .i64 (p.mode : Int), .int .u8 (p.priv : Int), vp, vi, vu], .int .u8 (b.toNat : Int)] w (VtPost S (vtN p b) w) := by
  have HP := Lib.hid hp
  have HI := Lib.hid hi
  have HU := Lib.hid hu
  have HSS := Lib.hid hS
  obtain ⟨Ap, cp, rfl, p1, p2⟩ := hp.form
  obtain ⟨Ai, ci, rfl, i1, i2⟩ := hi.form
  obtain ⟨Au, cu, rfl, u1, u2⟩ := hu.form
  clear hp hi hu hS
  have HOK := Lib.hid hok
  have hlen := vtN_len p b
  clear hok
  by_cases hm : p.mode = 0
  · have m0 : ((p.mode : Int) == 0) = true := beq_iff_eq.2 (by omega)
    have du : decide (0 < p.utf.length) = false := decide_eq_false (by omega)
    clear hm hno
    go_enter Try.func44, Try.ntmps44
    go_wp2_with (go_at_call 50; refine (vtNr_any _ _ _ p b S _ (HP.out.keep (fun q hq => (two_new w _ _).1.cell (HSS.out _ hq))) (HI.out.keep (fun q hq => (two_new w _ _).1.cell (HSS.out _ hq))) (HU.out.keep (fun q hq => (two_new w _ _).1.cell (HSS.out _ hq))) (fun x hx => Nat.lt_of_lt_of_le (HSS.out x hx) (two_new w _ _).1.size) HOK.out).mono ?_; rintro e w4 ⟨qv, av, rfl, hq, ha, hb4⟩; rw [(two_new w _ _).2] at hq ha hb4; obtain ⟨k0, k1⟩ := two_keptB hb4; obtain ⟨e0, e1, e2, e3, e4, ef⟩ := five_cells k1; have HQ := Lib.hid hq; have HA := Lib.hid ha; have HB4 := Lib.hid hb4; obtain ⟨v1, v2, v3, rfl, s1, s2, s3⟩ := hq; obtain ⟨Aa, ca, rfl, _, _⟩ := s1.form; obtain ⟨Ab, cb, rfl, _, _⟩ := s2.form; obtain ⟨Ac, cc, rfl, _, _⟩ := s3.form; have hz4 := hb4.size; rw [(two_new w _ _).2] at hz4; have K1 := Lib.hid k1; clear s1 s2 s3 ha hb4 k0 k1)
    have HS4 : Hid (∀ x, (S x ∨ NewB w4 (w.heap.size + 1 + 1) x) → x < w4.heap.size) := fun x hx => by
      rcases hx with h | h
      · have := HSS.out x h; omega
      · exact h.2
    have hka : ∀ (o : Obj) (q : Addr), q.block < w4.heap.size → (w4.alloc o).drew.cell? q = w4.cell? q := fun o q hq => World.cell?_alloc_lt w4 o q hq
    have HKA := Lib.hid hka
    clear hka
    go_region_law (refine step_appA rfl (.tmp 72) (.tmp 73) rfl (w4.heap.size + 1) (fun _ => False) (NewB w4 (w.heap.size + 1 + 1)) (fun x => S x ∨ NewB w4 (w.heap.size + 1 + 1) x) (.slice none 0 0) av [] (vtN p b).2 ?_ ?_ (OA.nil _ _ _) (HA.out.keep (fun q hq => HKA.out _ q hq.2) (fun q hq => HKA.out _ q (HS4.out _ hq))) (fun _ h => h.elim) (fun x hx => by have := HS4.out x hx; simp; omega) (fun g hg => by cases hg) (by simp; omega) (by simp) ?_; go_simp; go_simp; intro v6 w6 ho6 hg6 hb6; clear hg6; obtain ⟨f0, f1, f2, f3, f4, ff⟩ := five_cells (row_kept K1.out (by omega) hb6); obtain ⟨r0, r1, r2, r3, r4, rf⟩ := five_cells (row_last hb6))
    all_goals
      go_wp2
      have h2 := two_new w (.cells #[Value.int .i64 (p.mode : Int), Value.int .u8 (p.priv : Int), Value.slice Ap p.params.length cp, Value.slice Ai p.inter.length ci, Value.slice Au p.utf.length cu] 30) (.cells #[Value.int .i64 0, Value.int .u8 0, Value.slice none 0 0, Value.slice none 0 0, Value.slice none 0 0] 30)
      exact bodyPost_ret (v := .tuple #[.agg #[.int .i64 ((vtN p b).1.mode : Int), .int .u8 ((vtN p b).1.priv : Int), Value.slice Aa (vtN p b).1.params.length ca, Value.slice Ab (vtN p b).1.inter.length cb, Value.slice Ac (vtN p b).1.utf.length cc], v6]) (by simp [results, Try.results44, go_sem, f0, f1, f2, f3, f4]) rfl (fin_post (h2.1.trans (HB4.out.mono (by omega))) HSS.out hz4 HQ.out hb6 ho6 (fun y hy => hy.elim False.elim id))
  · have m0 : ((p.mode : Int) == 0) = false := beq_eq_false_iff_ne.2 (by omega)
    clear hm hno
    go_enter Try.func44, Try.ntmps44
    go_wp2_with (go_at_call 50; refine (vtNr_any _ _ _ p b S _ (HP.out.keep (fun q hq => (two_new w _ _).1.cell (HSS.out _ hq))) (HI.out.keep (fun q hq => (two_new w _ _).1.cell (HSS.out _ hq))) (HU.out.keep (fun q hq => (two_new w _ _).1.cell (HSS.out _ hq))) (fun x hx => Nat.lt_of_lt_of_le (HSS.out x hx) (two_new w _ _).1.size) HOK.out).mono ?_; rintro e w4 ⟨qv, av, rfl, hq, ha, hb4⟩; rw [(two_new w _ _).2] at hq ha hb4; obtain ⟨k0, k1⟩ := two_keptB hb4; obtain ⟨e0, e1, e2, e3, e4, ef⟩ := five_cells k1; have HQ := Lib.hid hq; have HA := Lib.hid ha; have HB4 := Lib.hid hb4; obtain ⟨v1, v2, v3, rfl, s1, s2, s3⟩ := hq; obtain ⟨Aa, ca, rfl, _, _⟩ := s1.form; obtain ⟨Ab, cb, rfl, _, _⟩ := s2.form; obtain ⟨Ac, cc, rfl, _, _⟩ := s3.form; have hz4 := hb4.size; rw [(two_new w _ _).2] at hz4; have K1 := Lib.hid k1; clear s1 s2 s3 ha hb4 k0 k1)
    have HS4 : Hid (∀ x, (S x ∨ NewB w4 (w.heap.size + 1 + 1) x) → x < w4.heap.size) := fun x hx => by
      rcases hx with h | h
      · have := HSS.out x h; omega
      · exact h.2
    have hka : ∀ (o : Obj) (q : Addr), q.block < w4.heap.size → (w4.alloc o).drew.cell? q = w4.cell? q := fun o q hq => World.cell?_alloc_lt w4 o q hq
    have HKA := Lib.hid hka
    clear hka
    go_region_law (refine step_appA rfl (.tmp 72) (.tmp 73) rfl (w4.heap.size + 1) (fun _ => False) (NewB w4 (w.heap.size + 1 + 1)) (fun x => S x ∨ NewB w4 (w.heap.size + 1 + 1) x) (.slice none 0 0) av [] (vtN p b).2 ?_ ?_ (OA.nil _ _ _) (HA.out.keep (fun q hq => HKA.out _ q hq.2) (fun q hq => HKA.out _ q (HS4.out _ hq))) (fun _ h => h.elim) (fun x hx => by have := HS4.out x hx; simp; omega) (fun g hg => by cases hg) (by simp; omega) (by simp) ?_; go_simp; go_simp; intro v6 w6 ho6 hg6 hb6; clear hg6; obtain ⟨f0, f1, f2, f3, f4, ff⟩ := five_cells (row_kept K1.out (by omega) hb6); obtain ⟨r0, r1, r2, r3, r4, rf⟩ := five_cells (row_last hb6))
    all_goals
      go_wp2
      have h2 := two_new w (.cells #[Value.int .i64 (p.mode : Int), Value.int .u8 (p.priv : Int), Value.slice Ap p.params.length cp, Value.slice Ai p.inter.length ci, Value.slice Au p.utf.length cu] 30) (.cells #[Value.int .i64 0, Value.int .u8 0, Value.slice none 0 0, Value.slice none 0 0, Value.slice none 0 0] 30)
      exact bodyPost_ret (v := .tuple #[.agg #[.int .i64 ((vtN p b).1.mode : Int), .int .u8 ((vtN p b).1.priv : Int), Value.slice Aa (vtN p b).1.params.length ca, Value.slice Ab (vtN p b).1.inter.length cb, Value.slice Ac (vtN p b).1.utf.length cc], v6]) (by simp [results, Try.results44, go_sem, f0, f1, f2, f3, f4]) rfl (fin_post (h2.1.trans (HB4.out.mono (by omega))) HSS.out hz4 HQ.out hb6 ho6 (fun y hy => hy.elim False.elim id))
end Go.Proofs.Ytejemcpkmfhenaa

namespace Go.Proofs.Ytejemcpkmfhenaa
open Go.RowKit
set_option linter.unusedVariables false

/-- The document's Step of bytes, behind two blocks. -/
theorem utfr_in (w : World) (x y : Obj) {S : Nat → Prop} (hS : ∀ x, S x → x < w.heap.size) {v : Value} {u : List UInt8} (hu : SL vB w S v u) (b : UInt8) (Q : List UInt8) (R : List Nat) (h : stepL u b = (Q, R)) (nQ nR : Nat) (hnQ : Q.length = nQ) (hnR : R.length = nR) :
    Calls Try.prog 47 #[v, .int .u8 (b.toNat : Int)] ((w.alloc x).alloc y) fun e w' => ∃ Aq cq Ar cr, e = .returned (.tuple #[.slice Aq nQ cq, .slice Ar nR cr]) ∧ BN w' (w.heap.size + 1 + 1) (.slice Aq nQ cq) Q ∧ RS w' w'.heap.size (.slice Ar nR cr) (ints R) ∧ Below (w.heap.size + 1 + 1) ((w.alloc x).alloc y) w' := by
  subst hnQ hnR
  have h2 := two_new w x y
  refine (stepr_any v u b _ (((hu.bs hS).below h2.1).more h2.1.size)).mono ?_
  rintro e w' ⟨v1, v2, rfl, hq, hr, hb⟩
  rw [h] at hq hr
  rw [h2.2] at hq hb
  obtain ⟨Aq, cq, rfl, _, _, -⟩ := hq.1.at_
  obtain ⟨Ar, cr, rfl, _, _, -⟩ := hr.at_
  have hl : (ints R).length = R.length := by simp [ints]
  rw [hl] at hr ⊢
  exact ⟨Aq, cq, Ar, cr, rfl, hq, hr, hb⟩
/-- The first rune, in memory. -/
theorem rune_first {w : World} {B n c : Nat} {A : Option Addr} {r : Nat} {R : List Nat} (h : RS w B (.slice A n c) (ints (r :: R))) : ∃ ad, A = some ad ∧ w.cell? ad = some (.int .i32 (r : Int)) := by
  obtain ⟨A', c', hv, _, _, h3⟩ := h
  simp only [Value.slice.injEq] at hv
  obtain ⟨ad, hA, _, hc⟩ := h3 (by simp [ints])
  have := hc 0 (Int.ofNat r) (by simp [ints])
  rw [show ad.add 0 = ad from by simp [Addr.add]] at this
  exact ⟨ad, hv.1.trans hA, this⟩

set_option maxHeartbeats 1000000 in
set_option maxRecDepth 100000 in
theorem vtr_go1 (vp vi vu : Value) (p : Pr) (b : UInt8) (S : Nat → Prop) (w : World) (hp : SL vI w S vp p.params) (hi : SL vB w S vi p.inter) (hu : SL vB w S vu p.utf) (hS : ∀ x, S x → x < w.heap.size) (hm : p.mode = 0) (hpl : 0 < p.utf.length) (h128 : 128 ≤ b.toNat) (Q : List UInt8) (R : List Nat) (hst : stepL p.utf b = (Q, R)) (hR : R.length = 0) :
    Calls Try.prog 44 #[.agg #[.int .i64 (p.mode : Int), .int .u8 (p.priv : Int), vp, vi, vu], .int .u8 (b.toNat : Int)] w (VtPost S ({ prM 0 with utf := Q }, printsL R) w) := by
  have HU := Lib.hid hu
  have HSS := Lib.hid hS
  have HST := Lib.hid hst
  have hlen := stepL_len p.utf b
  rw [hst] at hlen
  obtain ⟨hl1, hl2⟩ := hlen
  obtain ⟨nQ, hnQ⟩ : ∃ n, Q.length = n := ⟨_, rfl⟩
  obtain ⟨nR, hnR⟩ : ∃ n, R.length = n := ⟨_, rfl⟩
  have hl1' : nQ ≤ 3 := by rw [← hnQ]; exact hl1
  have hl2' : nR ≤ 2 := by rw [← hnR]; exact hl2
  have HNQ := Lib.hid hnQ
  have HNR := Lib.hid hnR
  obtain ⟨Ap, cp, rfl, p1, p2⟩ := hp.form
  obtain ⟨Ai, ci, rfl, i1, i2⟩ := hi.form
  obtain ⟨Au, cu, rfl, u1, u2⟩ := hu.form
  clear hp hi hu hS hst hl1 hl2
  have m0 : ((p.mode : Int) == 0) = true := beq_iff_eq.2 (by omega)
  have g128 : (128 : Int) ≤ (b.toNat : Int) := by omega
  clear hm
  have r0 : ((nR : Int) == 0) = true := beq_iff_eq.2 (by omega)
  clear hR
  clear hnQ hnR
  go_enter Try.func44, Try.ntmps44
  go_wp2_with (first
    | (go_at_call 47; (with_reducible refine (utfr_in w _ _ HSS.out HU.out b Q R HST.out nQ nR HNQ.out HNR.out).mono ?_); rintro e w4 ⟨Aq, cq, Ar, cr, rfl, hq, hr, hb4⟩; obtain ⟨k0, k1⟩ := two_keptB hb4; obtain ⟨c0, c1, c2, c3, c4, cf⟩ := five_cells k0; have HQ := Lib.hid hq; have HB4 := Lib.hid hb4; have HR := Lib.hid hr; clear hq hb4 hr k0 k1)
    | (go_at_call 49; (with_reducible refine (printsr_any _ R _ HR.out (by rw [HNR.out]; omega)).mono ?_); rintro e w5 ⟨v3, rfl, ho, hb5⟩; have hb45 := HB4.out.trans (hb5.mono (by have := HB4.out.size; rw [(two_new w _ _).2] at this; exact this)); obtain ⟨k0, k1⟩ := two_keptB hb45; obtain ⟨e0, e1, e2, e3, e4, ef⟩ := five_cells k1; have HB5 := Lib.hid hb5; have HB45 := Lib.hid hb45; have HO := Lib.hid ho; clear hb5 hb45 ho k0 k1))
  have h2 := two_new w (.cells #[Value.int .i64 (p.mode : Int), Value.int .u8 (p.priv : Int), Value.slice Ap p.params.length cp, Value.slice Ai p.inter.length ci, Value.slice Au p.utf.length cu] 30) (.cells #[Value.int .i64 0, Value.int .u8 0, Value.slice none 0 0, Value.slice none 0 0, Value.slice none 0 0] 30)
  have hz4 := HB4.out.size
  rw [h2.2] at hz4
  exact bodyPost_ret (v := .tuple #[.agg #[.int .i64 0, .int .u8 0, .slice none 0 0, .slice none 0 0, Value.slice Aq nQ cq], v3]) (by simp [results, Try.results44, go_sem, e0, e1, e2, e3, e4]) rfl (utf_post (h2.1.trans (HB45.out.mono (by omega))) HQ.out HB5.out HO.out hz4)
set_option maxHeartbeats 1000000 in
set_option maxRecDepth 100000 in
theorem vtr_go2 (vp vi vu : Value) (p : Pr) (b : UInt8) (S : Nat → Prop) (w : World) (hp : SL vI w S vp p.params) (hi : SL vB w S vi p.inter) (hu : SL vB w S vu p.utf) (hS : ∀ x, S x → x < w.heap.size) (hm : p.mode = 0) (hpl : 0 < p.utf.length) (h128 : 128 ≤ b.toNat) (Q : List UInt8) (r : Nat) (R : List Nat) (hst : stepL p.utf b = (Q, r :: R)) (hr0 : r ≠ 65533) :
    Calls Try.prog 44 #[.agg #[.int .i64 (p.mode : Int), .int .u8 (p.priv : Int), vp, vi, vu], .int .u8 (b.toNat : Int)] w (VtPost S ({ prM 0 with utf := Q }, printsL (r :: R)) w) := by
  have HU := Lib.hid hu
  have HSS := Lib.hid hS
  have HST := Lib.hid hst
  have hlen := stepL_len p.utf b
  rw [hst] at hlen
  obtain ⟨hl1, hl2⟩ := hlen
  obtain ⟨nQ, hnQ⟩ : ∃ n, Q.length = n := ⟨_, rfl⟩
  obtain ⟨nR, hnR⟩ : ∃ n, (r :: R).length = n := ⟨_, rfl⟩
  have hl1' : nQ ≤ 3 := by rw [← hnQ]; exact hl1
  have hl2' : nR ≤ 2 := by rw [← hnR]; exact hl2
  have HNQ := Lib.hid hnQ
  have HNR := Lib.hid hnR
  obtain ⟨Ap, cp, rfl, p1, p2⟩ := hp.form
  obtain ⟨Ai, ci, rfl, i1, i2⟩ := hi.form
  obtain ⟨Au, cu, rfl, u1, u2⟩ := hu.form
  clear hp hi hu hS hst hl1 hl2
  have m0 : ((p.mode : Int) == 0) = true := beq_iff_eq.2 (by omega)
  have g128 : (128 : Int) ≤ (b.toNat : Int) := by omega
  clear hm
  have n0 : ((r : Int) != 65533) = true := by simp; omega
  have nr0 : ((nR : Int) == 0) = false := beq_eq_false_iff_ne.2 (by simp at hnR; omega)
  have nr1 : 0 < nR := by simp at hnR; omega
  clear hnQ hnR
  go_enter Try.func44, Try.ntmps44
  go_wp2_with (first
    | (go_at_call 47; (with_reducible refine (utfr_in w _ _ HSS.out HU.out b Q (r :: R) HST.out nQ nR HNQ.out HNR.out).mono ?_); rintro e w4 ⟨Aq, cq, Ar, cr, rfl, hq, hr, hb4⟩; obtain ⟨k0, k1⟩ := two_keptB hb4; obtain ⟨c0, c1, c2, c3, c4, cf⟩ := five_cells k0; obtain ⟨ad, rfl, cr0⟩ := rune_first hr; have HQ := Lib.hid hq; have HB4 := Lib.hid hb4; have HR := Lib.hid hr; clear hq hb4 hr k0 k1)
    | (go_at_call 49; (with_reducible refine (printsr_any _ (r :: R) _ HR.out (by rw [HNR.out]; omega)).mono ?_); rintro e w5 ⟨v3, rfl, ho, hb5⟩; have hb45 := HB4.out.trans (hb5.mono (by have := HB4.out.size; rw [(two_new w _ _).2] at this; exact this)); obtain ⟨k0, k1⟩ := two_keptB hb45; obtain ⟨e0, e1, e2, e3, e4, ef⟩ := five_cells k1; have HB5 := Lib.hid hb5; have HB45 := Lib.hid hb45; have HO := Lib.hid ho; clear hb5 hb45 ho k0 k1))
  have h2 := two_new w (.cells #[Value.int .i64 (p.mode : Int), Value.int .u8 (p.priv : Int), Value.slice Ap p.params.length cp, Value.slice Ai p.inter.length ci, Value.slice Au p.utf.length cu] 30) (.cells #[Value.int .i64 0, Value.int .u8 0, Value.slice none 0 0, Value.slice none 0 0, Value.slice none 0 0] 30)
  have hz4 := HB4.out.size
  rw [h2.2] at hz4
  exact bodyPost_ret (v := .tuple #[.agg #[.int .i64 0, .int .u8 0, .slice none 0 0, .slice none 0 0, Value.slice Aq nQ cq], v3]) (by simp [results, Try.results44, go_sem, e0, e1, e2, e3, e4]) rfl (utf_post (h2.1.trans (HB45.out.mono (by omega))) HQ.out HB5.out HO.out hz4)
set_option maxHeartbeats 1000000 in
set_option maxRecDepth 100000 in
theorem vtr_go3 (vp vi vu : Value) (p : Pr) (b : UInt8) (S : Nat → Prop) (w : World) (hp : SL vI w S vp p.params) (hi : SL vB w S vi p.inter) (hu : SL vB w S vu p.utf) (hS : ∀ x, S x → x < w.heap.size) (hm : p.mode = 0) (hpl : 0 < p.utf.length) (h128 : 128 ≤ b.toNat) (Q : List UInt8) (hst : stepL p.utf b = (Q, [65533])) (hQ : Q.length = 0) (hf : formedB p.utf b = true) :
    Calls Try.prog 44 #[.agg #[.int .i64 (p.mode : Int), .int .u8 (p.priv : Int), vp, vi, vu], .int .u8 (b.toNat : Int)] w (VtPost S ({ prM 0 with utf := Q }, printsL [65533]) w) := by
  have HU := Lib.hid hu
  have HSS := Lib.hid hS
  have HST := Lib.hid hst
  have hlen := stepL_len p.utf b
  rw [hst] at hlen
  obtain ⟨hl1, hl2⟩ := hlen
  obtain ⟨nQ, hnQ⟩ : ∃ n, Q.length = n := ⟨_, rfl⟩
  obtain ⟨nR, hnR⟩ : ∃ n, [65533].length = n := ⟨_, rfl⟩
  have hl1' : nQ ≤ 3 := by rw [← hnQ]; exact hl1
  have hl2' : nR ≤ 2 := by rw [← hnR]; exact hl2
  have HNQ := Lib.hid hnQ
  have HNR := Lib.hid hnR
  obtain ⟨Ap, cp, rfl, p1, p2⟩ := hp.form
  obtain ⟨Ai, ci, rfl, i1, i2⟩ := hi.form
  obtain ⟨Au, cu, rfl, u1, u2⟩ := hu.form
  clear hp hi hu hS hst hl1 hl2
  have m0 : ((p.mode : Int) == 0) = true := beq_iff_eq.2 (by omega)
  have g128 : (128 : Int) ≤ (b.toNat : Int) := by omega
  clear hm
  have q0 : ((nQ : Int) == 0) = true := beq_iff_eq.2 (by omega)
  have nr0 : ((nR : Int) == 0) = false := beq_eq_false_iff_ne.2 (by simp at hnR; omega)
  have nr1 : ((nR : Int) == 1) = true := beq_iff_eq.2 (by simp at hnR; omega)
  have nr2 : 0 < nR := by simp at hnR; omega
  clear hQ
  have HF := Lib.hid hf
  clear hf
  clear hnQ hnR
  go_enter Try.func44, Try.ntmps44
  go_wp2_with (first
    | (go_at_call 47; (with_reducible refine (utfr_in w _ _ HSS.out HU.out b Q [65533] HST.out nQ nR HNQ.out HNR.out).mono ?_); rintro e w4 ⟨Aq, cq, Ar, cr, rfl, hq, hr, hb4⟩; obtain ⟨k0, k1⟩ := two_keptB hb4; obtain ⟨c0, c1, c2, c3, c4, cf⟩ := five_cells k0; obtain ⟨ad, rfl, cr0⟩ := rune_first hr; have HQ := Lib.hid hq; have HB4 := Lib.hid hb4; have HR := Lib.hid hr; clear hq hb4 hr k0 k1)
    | (go_at_call 48; (with_reducible refine (formedr_any _ p.utf b w.heap.size _ (((HU.out.bs HSS.out).below (two_new w _ _).1).below (HB4.out.mono (by omega)))).mono ?_); rintro e w5 ⟨rfl, rfl⟩; rw [HF.out])
    | (go_at_call 49; (with_reducible refine (printsr_any _ [65533] _ HR.out (by rw [HNR.out]; omega)).mono ?_); rintro e w5 ⟨v3, rfl, ho, hb5⟩; have hb45 := HB4.out.trans (hb5.mono (by have := HB4.out.size; rw [(two_new w _ _).2] at this; exact this)); obtain ⟨k0, k1⟩ := two_keptB hb45; obtain ⟨e0, e1, e2, e3, e4, ef⟩ := five_cells k1; have HB5 := Lib.hid hb5; have HB45 := Lib.hid hb45; have HO := Lib.hid ho; clear hb5 hb45 ho k0 k1))
  have h2 := two_new w (.cells #[Value.int .i64 (p.mode : Int), Value.int .u8 (p.priv : Int), Value.slice Ap p.params.length cp, Value.slice Ai p.inter.length ci, Value.slice Au p.utf.length cu] 30) (.cells #[Value.int .i64 0, Value.int .u8 0, Value.slice none 0 0, Value.slice none 0 0, Value.slice none 0 0] 30)
  have hz4 := HB4.out.size
  rw [h2.2] at hz4
  exact bodyPost_ret (v := .tuple #[.agg #[.int .i64 0, .int .u8 0, .slice none 0 0, .slice none 0 0, Value.slice Aq nQ cq], v3]) (by simp [results, Try.results44, go_sem, e0, e1, e2, e3, e4]) rfl (utf_post (h2.1.trans (HB45.out.mono (by omega))) HQ.out HB5.out HO.out hz4)
end Go.Proofs.Ytejemcpkmfhenaa

namespace Go.Proofs.Ytejemcpkmfhenaa
open Go.RowKit
set_option linter.unusedVariables false

theorem OA.set {w : World} {base : Nat} {v u : Value} {l : List Ac} {a : Addr} (h : OA w base (fun _ => False) v l) (hne : a.block < base) : OA (w.setCell a u) base (fun _ => False) v l := by
  obtain ⟨xs, h1, h2, h3⟩ := h
  exact ⟨xs, ownsRow_setCell_other h1 (fun e => by have := (World.ownsRow.lt h1 _ e).1; omega) u, h2.keep (fun _ hf => hf.elim), h3⟩

/-- A block that was there, behind a block more and an append onto a row from 'base' on. -/
theorem row_kept9 {w7 w9 : World} {base g : Nat} {o x : Obj} (h : w7.heap[g]? = some o) (hg : g < w7.heap.size) (hgb : g < base) (hb : Below base (w7.alloc x).drew w9) : w9.heap[g]? = some o := by
  refine (hb.block g hgb).trans ?_
  show (w7.heap.push x)[g]? = some o
  rw [Array.getElem?_push, if_neg (by omega)]
  exact h
theorem row_last9 {w7 w9 : World} {row : Option Nat} {x : Obj} (hg : (w7.alloc x).drew.grownBy w9 row) (hr : ∀ g, row = some g → g < w7.heap.size) : w9.heap[w7.heap.size]? = some x := by
  refine (hg.block _ (by show w7.heap.size < (w7.heap.push x).size; simp) (fun e => by have := hr _ e.symm; omega)).trans ?_
  show (w7.heap.push x)[w7.heap.size]? = some x
  rw [Array.getElem?_push, if_pos rfl]
/-- What a call within has answered, behind one block and an append onto a row of this call's own. -/
theorem fin_post9 {w w7 w9 : World} {x : Obj} {base lo : Nat} {row : Option Nat} {S T : Nat → Prop} {m pr : Int} {vp vi vu av : Value} {q : Pr} {l : List Ac} (hb : Below w.heap.size w w7) (hS : ∀ x, S x → x < w.heap.size) (hz : w.heap.size + 1 + 1 ≤ base) (hlo : base ≤ lo) (hz7 : base ≤ w7.heap.size)
    (hq : PV w7 (fun x => S x ∨ NewB w7 lo x) (.agg #[.int .i64 m, .int .u8 pr, vp, vi, vu]) q) (hb9 : Below base (w7.alloc x).drew w9) (hg9 : (w7.alloc x).drew.grownBy w9 row) (hT7 : ∀ x, (S x ∨ NewB w7 lo x) → x < w7.heap.size) (hrow : ∀ g, row = some g → ¬ (S g ∨ NewB w7 lo g)) (ho : OA w9 base T av l) (hT : ∀ y, T y → S y ∨ NewB w7 lo y) :
    VtPost S (q, l) w (.returned (.tuple #[.agg #[.int .i64 m, .int .u8 pr, vp, vi, vu], av])) (wset w w9 (.int .i64 m) (.int .u8 pr) vp vi vu) := by
  have hz9 : w7.heap.size + 1 ≤ w9.heap.size := by
    have := hg9.size
    have e : (w7.alloc x).drew.heap.size = w7.heap.size + 1 := by simp
    omega
  have hmono : ∀ y, (S y ∨ NewB w7 lo y) → (S y ∨ NewB w9 (w.heap.size + 1 + 1) y) := fun y hy => hy.imp id (fun h => ⟨by have := h.1; omega, by have := h.2; omega⟩)
  have hk : ∀ a : Addr, (S a.block ∨ NewB w7 lo a.block) → w9.cell? a = w7.cell? a := fun a ha => by
    have hlt := hT7 _ ha
    have e1 : w9.cell? a = (w7.alloc x).drew.cell? a := World.cell?_of_block (hg9.block a.block (by show a.block < (w7.heap.push x).size; simp; omega) (fun e => hrow _ e.symm ha))
    exact e1.trans (World.cell?_alloc_lt w7 x a hlt)
  have hbb : Below w.heap.size w w9 := hb.trans ((((Below.refl base w7).alloc hz7 x).drew.trans hb9).mono (by omega))
  exact hand_post (r := (q, l)) hbb hS (by omega) ((hq.keep hk).mono hmono) (ho.as.mono (fun y hy => ⟨by have := hy.1; omega, hy.2⟩) (fun y hy => hmono y (hT y hy)))

set_option maxHeartbeats 1000000 in
set_option maxRecDepth 100000 in
theorem vtr_br1 (vp vi vu : Value) (p : Pr) (b : UInt8) (S : Nat → Prop) (w : World) (hp : SL vI w S vp p.params) (hi : SL vB w S vi p.inter) (hu : SL vB w S vu p.utf) (hS : ∀ x, S x → x < w.heap.size) (hok : PrOk p) (hm : p.mode = 0) (hpl : 0 < p.utf.length) (Q : List UInt8) (R : List Nat) (hst : stepL p.utf b = (Q, R)) (h128 : ¬ 128 ≤ b.toNat) :
    Calls Try.prog 44 #[.agg #[.int .i64 (p.mode : Int), .int .u8 (p.priv : Int), vp, vi, vu], .int .u8 (b.toNat : Int)] w (VtPost S ((vtN { p with utf := [] } b).1, acP 65533 :: (vtN { p with utf := [] } b).2) w) := by
  have HP := Lib.hid hp
  have HI := Lib.hid hi
  have HU := Lib.hid hu
  have HSS := Lib.hid hS
  have HST := Lib.hid hst
  have HOK := Lib.hid (drop_ok p hok)
  have hvl := vtN_len { p with utf := [] } b
  obtain ⟨nQ, hnQ⟩ : ∃ n, Q.length = n := ⟨_, rfl⟩
  obtain ⟨nR, hnR⟩ : ∃ n, R.length = n := ⟨_, rfl⟩
  have HNQ := Lib.hid hnQ
  have HNR := Lib.hid hnR
  obtain ⟨Ap, cp, rfl, p1, p2⟩ := hp.form
  obtain ⟨Ai, ci, rfl, i1, i2⟩ := hi.form
  obtain ⟨Au, cu, rfl, u1, u2⟩ := hu.form
  clear hp hi hu hS hst hok
  have m0 : ((p.mode : Int) == 0) = true := beq_iff_eq.2 (by omega)
  have g128 : decide ((128 : Int) ≤ (b.toNat : Int)) = false := by simp; omega
  clear hm hnQ hnR
  go_enter Try.func44, Try.ntmps44
  go_wp2_with (first
    | (go_at_call 47; (with_reducible refine (utfr_in w _ _ HSS.out HU.out b Q R HST.out nQ nR HNQ.out HNR.out).mono ?_); rintro e w4 ⟨Aq, cq, Ar, cr, rfl, hq, hr, hb4⟩; obtain ⟨k0, k1⟩ := two_keptB hb4; obtain ⟨c0, c1, c2, c3, c4, cf⟩ := five_cells k0; have hz4 := hb4.size; rw [(two_new w _ _).2] at hz4; have K0 := Lib.hid k0; have K1 := Lib.hid k1; have HB4 := Lib.hid hb4; clear hq hb4 hr k0 k1)
    | (at_builtin; refine wpl_appA _ rfl (.tmp 60) (.tmp 62) rfl w4.heap.size (fun _ => False) _ (fun _ => False) (.slice none 0 0) _ [] [acP 65533] rfl rfl (OA.nil _ _ _) (AS.print w4 65533 _) (fun _ h => h.elim) (fun _ h => h.elim) (fun _ _ h => h) (by simp) (by simp) ?_; intro v5 w5 ho5 hg5 hb5 _; clear hg5; have b45 := ((Below.refl w4.heap.size w4).alloc (Nat.le_refl _) _).trans hb5; have hz5 := b45.size; obtain ⟨d0, d1, d2, d3, d4, df⟩ := five_cells ((b45.block _ (by omega)).trans K0.out); have HO5 := Lib.hid (OA.weak (S' := fun _ => False) ho5 (fun _ h => h.elim id id) (fun _ _ h => h)); have HB45 := Lib.hid b45; clear ho5 hb5 b45)
    | (go_at_call 50; fail))
  have h2 := two_new w (.cells #[Value.int .i64 (p.mode : Int), Value.int .u8 (p.priv : Int), Value.slice Ap p.params.length cp, Value.slice Ai p.inter.length ci, Value.slice Au p.utf.length cu] 30) (.cells #[Value.int .i64 0, Value.int .u8 0, Value.slice none 0 0, Value.slice none 0 0, Value.slice none 0 0] 30)
  have hbw4 : Below w.heap.size w w4 := h2.1.trans (HB4.out.mono (by omega))
  have hbw6 : Below w.heap.size w (w5.setCell ⟨w.heap.size, 4, none⟩ (.slice none 0 0)) := (hbw4.trans (HB45.out.mono (by omega))).setCell (Nat.le_refl _) _
  have hz6 : (w5.setCell ⟨w.heap.size, 4, none⟩ (.slice none 0 0)).heap.size = w5.heap.size := by simp
  have hk6 : (w5.setCell ⟨w.heap.size, 4, none⟩ (.slice none 0 0)).heap[w.heap.size + 1]? = some (.cells #[Value.int .i64 0, Value.int .u8 0, Value.slice none 0 0, Value.slice none 0 0, Value.slice none 0 0] 30) := (Below.heap_setCell _ _ _ _ (by simp)).trans ((HB45.out.block _ (by omega)).trans K1.out)
  have ho6 : OA (w5.setCell ⟨w.heap.size, 4, none⟩ (.slice none 0 0)) w4.heap.size (fun _ => False) v5 [acP 65533] := HO5.out.set (by show w.heap.size < w4.heap.size; omega)
  generalize w5.setCell ⟨w.heap.size, 4, none⟩ (.slice none 0 0) = w6 at *
  have hz64 : w4.heap.size ≤ w6.heap.size := by omega
  have hcal := vtNr_any (.slice Ap p.params.length cp) (.slice Ai p.inter.length ci) (.slice none 0 0) { p with utf := [] } b S w6 (HP.out.keep (fun q hq => hbw6.cell (HSS.out _ hq))) (HI.out.keep (fun q hq => hbw6.cell (HSS.out _ hq))) (SL.nil _ _ _) (fun x hx => Nat.lt_of_lt_of_le (HSS.out x hx) hbw6.size) HOK.out
  generalize hV : vtN { p with utf := [] } b = V at *
  clear hV
  refine hcal.mono ?_
  rintro e w7 ⟨qv, av, rfl, hq, ha, hb7⟩
  have hz7 := hb7.size
  have HQ := Lib.hid hq
  have HA := Lib.hid ha
  obtain ⟨v1, v2, v3, rfl, s1, s2, s3⟩ := hq
  obtain ⟨Aa, ca, rfl, _, _⟩ := s1.form
  obtain ⟨Ab, cb, rfl, _, _⟩ := s2.form
  obtain ⟨Ac, cc, rfl, _, _⟩ := s3.form
  have K7 := Lib.hid ((hb7.block _ (by omega)).trans hk6)
  have HBW7 := Lib.hid (hbw6.trans (hb7.mono (by omega)))
  have HO7 := Lib.hid (ho6.below (fun _ h => h.elim) hb7)
  have HG : Hid (∀ g, v5.ownBlock = some g → w4.heap.size ≤ g ∧ g < w6.heap.size) := fun g hg => ho6.lt g hg
  have HT : Hid (∀ x, (S x ∨ NewB w7 w6.heap.size x) → x < w7.heap.size) := fun x hx => by
    rcases hx with h | h
    · have := HSS.out x h; omega
    · exact h.2
  have HTg : Hid (∀ g, v5.ownBlock = some g → ¬ (S g ∨ NewB w7 w6.heap.size g)) := fun g hg hx => by
    have hgg := HG.out g hg
    rcases hx with h | h
    · have := HSS.out g h; omega
    · have := h.1; omega
  clear s1 s2 s3 ha hb7 hk6 ho6 hcal hbw6 d0 d1 d2 d3 d4 df c0 c1 c2 c3 c4 cf
  go_wp2
  have HKA : Hid (∀ (o : Obj) (q : Addr), q.block < w7.heap.size → (w7.alloc o).drew.cell? q = w7.cell? q) := fun o q hq => World.cell?_alloc_lt w7 o q hq
  go_region_law (refine step_appA rfl (.tmp 72) (.tmp 73) rfl w4.heap.size (fun _ => False) (NewB w7 w6.heap.size) (fun x => S x ∨ NewB w7 w6.heap.size x) v5 av [acP 65533] V.2 ?_ ?_ (OA.below HO7.out (fun _ h => h.elim) ((Below.refl _ _).alloc (Nat.le_refl _) _).drew) (HA.out.keep (fun q hq => HKA.out _ q hq.2) (fun q hq => HKA.out _ q (HT.out _ hq))) (fun _ h => h.elim) (fun x hx => by have := HT.out x hx; simp; omega) HTg.out (by simp; omega) (by simp; omega) ?_; go_simp; go_simp; intro v9 w9 ho9 hg9 hb9; obtain ⟨f0, f1, f2, f3, f4, ff⟩ := five_cells (row_kept9 K7.out (by omega) (by omega) hb9); obtain ⟨r0, r1, r2, r3, r4, rf⟩ := five_cells (row_last9 hg9 (fun g hg => by have := HG.out g hg; omega)))
  all_goals
    go_wp2
    exact bodyPost_ret (v := .tuple #[.agg #[.int .i64 (V.1.mode : Int), .int .u8 (V.1.priv : Int), Value.slice Aa V.1.params.length ca, Value.slice Ab V.1.inter.length cb, Value.slice Ac V.1.utf.length cc], v9]) (by simp [results, Try.results44, go_sem, f0, f1, f2, f3, f4]) rfl (fin_post9 HBW7.out HSS.out hz4 (by omega) (by omega) HQ.out hb9 hg9 HT.out HTg.out ho9 (fun y hy => hy.elim False.elim id))
set_option maxHeartbeats 1000000 in
set_option maxRecDepth 100000 in
theorem vtr_br2 (vp vi vu : Value) (p : Pr) (b : UInt8) (S : Nat → Prop) (w : World) (hp : SL vI w S vp p.params) (hi : SL vB w S vi p.inter) (hu : SL vB w S vu p.utf) (hS : ∀ x, S x → x < w.heap.size) (hok : PrOk p) (hm : p.mode = 0) (hpl : 0 < p.utf.length) (Q : List UInt8) (R : List Nat) (hst : stepL p.utf b = (Q, 65533 :: R)) (h128 : 128 ≤ b.toNat) (hR : R.length ≠ 0) :
    Calls Try.prog 44 #[.agg #[.int .i64 (p.mode : Int), .int .u8 (p.priv : Int), vp, vi, vu], .int .u8 (b.toNat : Int)] w (VtPost S ((vtN { p with utf := [] } b).1, acP 65533 :: (vtN { p with utf := [] } b).2) w) := by
  have HP := Lib.hid hp
  have HI := Lib.hid hi
  have HU := Lib.hid hu
  have HSS := Lib.hid hS
  have HST := Lib.hid hst
  have HOK := Lib.hid (drop_ok p hok)
  have hvl := vtN_len { p with utf := [] } b
  obtain ⟨nQ, hnQ⟩ : ∃ n, Q.length = n := ⟨_, rfl⟩
  obtain ⟨nR, hnR⟩ : ∃ n, (65533 :: R).length = n := ⟨_, rfl⟩
  have HNQ := Lib.hid hnQ
  have HNR := Lib.hid hnR
  obtain ⟨Ap, cp, rfl, p1, p2⟩ := hp.form
  obtain ⟨Ai, ci, rfl, i1, i2⟩ := hi.form
  obtain ⟨Au, cu, rfl, u1, u2⟩ := hu.form
  clear hp hi hu hS hst hok
  have m0 : ((p.mode : Int) == 0) = true := beq_iff_eq.2 (by omega)
  have g128 : (128 : Int) ≤ (b.toNat : Int) := by omega
  have nr0 : ((nR : Int) == 0) = false := beq_eq_false_iff_ne.2 (by simp at hnR; omega)
  have nr1 : ((nR : Int) == 1) = false := beq_eq_false_iff_ne.2 (by simp at hnR; omega)
  have nr2 : 0 < nR := by simp at hnR; omega
  clear hR
  clear hm hnQ hnR
  go_enter Try.func44, Try.ntmps44
  go_wp2_with (first
    | (go_at_call 47; (with_reducible refine (utfr_in w _ _ HSS.out HU.out b Q (65533 :: R) HST.out nQ nR HNQ.out HNR.out).mono ?_); rintro e w4 ⟨Aq, cq, Ar, cr, rfl, hq, hr, hb4⟩; obtain ⟨k0, k1⟩ := two_keptB hb4; obtain ⟨c0, c1, c2, c3, c4, cf⟩ := five_cells k0; obtain ⟨ad, rfl, cr0⟩ := rune_first hr; have hz4 := hb4.size; rw [(two_new w _ _).2] at hz4; have K0 := Lib.hid k0; have K1 := Lib.hid k1; have HB4 := Lib.hid hb4; clear hq hb4 hr k0 k1)
    | (at_builtin; refine wpl_appA _ rfl (.tmp 60) (.tmp 62) rfl w4.heap.size (fun _ => False) _ (fun _ => False) (.slice none 0 0) _ [] [acP 65533] rfl rfl (OA.nil _ _ _) (AS.print w4 65533 _) (fun _ h => h.elim) (fun _ h => h.elim) (fun _ _ h => h) (by simp) (by simp) ?_; intro v5 w5 ho5 hg5 hb5 _; clear hg5; have b45 := ((Below.refl w4.heap.size w4).alloc (Nat.le_refl _) _).trans hb5; have hz5 := b45.size; obtain ⟨d0, d1, d2, d3, d4, df⟩ := five_cells ((b45.block _ (by omega)).trans K0.out); have HO5 := Lib.hid (OA.weak (S' := fun _ => False) ho5 (fun _ h => h.elim id id) (fun _ _ h => h)); have HB45 := Lib.hid b45; clear ho5 hb5 b45)
    | (go_at_call 50; fail))
  have h2 := two_new w (.cells #[Value.int .i64 (p.mode : Int), Value.int .u8 (p.priv : Int), Value.slice Ap p.params.length cp, Value.slice Ai p.inter.length ci, Value.slice Au p.utf.length cu] 30) (.cells #[Value.int .i64 0, Value.int .u8 0, Value.slice none 0 0, Value.slice none 0 0, Value.slice none 0 0] 30)
  have hbw4 : Below w.heap.size w w4 := h2.1.trans (HB4.out.mono (by omega))
  have hbw6 : Below w.heap.size w (w5.setCell ⟨w.heap.size, 4, none⟩ (.slice none 0 0)) := (hbw4.trans (HB45.out.mono (by omega))).setCell (Nat.le_refl _) _
  have hz6 : (w5.setCell ⟨w.heap.size, 4, none⟩ (.slice none 0 0)).heap.size = w5.heap.size := by simp
  have hk6 : (w5.setCell ⟨w.heap.size, 4, none⟩ (.slice none 0 0)).heap[w.heap.size + 1]? = some (.cells #[Value.int .i64 0, Value.int .u8 0, Value.slice none 0 0, Value.slice none 0 0, Value.slice none 0 0] 30) := (Below.heap_setCell _ _ _ _ (by simp)).trans ((HB45.out.block _ (by omega)).trans K1.out)
  have ho6 : OA (w5.setCell ⟨w.heap.size, 4, none⟩ (.slice none 0 0)) w4.heap.size (fun _ => False) v5 [acP 65533] := HO5.out.set (by show w.heap.size < w4.heap.size; omega)
  generalize w5.setCell ⟨w.heap.size, 4, none⟩ (.slice none 0 0) = w6 at *
  have hz64 : w4.heap.size ≤ w6.heap.size := by omega
  have hcal := vtNr_any (.slice Ap p.params.length cp) (.slice Ai p.inter.length ci) (.slice none 0 0) { p with utf := [] } b S w6 (HP.out.keep (fun q hq => hbw6.cell (HSS.out _ hq))) (HI.out.keep (fun q hq => hbw6.cell (HSS.out _ hq))) (SL.nil _ _ _) (fun x hx => Nat.lt_of_lt_of_le (HSS.out x hx) hbw6.size) HOK.out
  generalize hV : vtN { p with utf := [] } b = V at *
  clear hV
  refine hcal.mono ?_
  rintro e w7 ⟨qv, av, rfl, hq, ha, hb7⟩
  have hz7 := hb7.size
  have HQ := Lib.hid hq
  have HA := Lib.hid ha
  obtain ⟨v1, v2, v3, rfl, s1, s2, s3⟩ := hq
  obtain ⟨Aa, ca, rfl, _, _⟩ := s1.form
  obtain ⟨Ab, cb, rfl, _, _⟩ := s2.form
  obtain ⟨Ac, cc, rfl, _, _⟩ := s3.form
  have K7 := Lib.hid ((hb7.block _ (by omega)).trans hk6)
  have HBW7 := Lib.hid (hbw6.trans (hb7.mono (by omega)))
  have HO7 := Lib.hid (ho6.below (fun _ h => h.elim) hb7)
  have HG : Hid (∀ g, v5.ownBlock = some g → w4.heap.size ≤ g ∧ g < w6.heap.size) := fun g hg => ho6.lt g hg
  have HT : Hid (∀ x, (S x ∨ NewB w7 w6.heap.size x) → x < w7.heap.size) := fun x hx => by
    rcases hx with h | h
    · have := HSS.out x h; omega
    · exact h.2
  have HTg : Hid (∀ g, v5.ownBlock = some g → ¬ (S g ∨ NewB w7 w6.heap.size g)) := fun g hg hx => by
    have hgg := HG.out g hg
    rcases hx with h | h
    · have := HSS.out g h; omega
    · have := h.1; omega
  clear s1 s2 s3 ha hb7 hk6 ho6 hcal hbw6 d0 d1 d2 d3 d4 df c0 c1 c2 c3 c4 cf
  go_wp2
  have HKA : Hid (∀ (o : Obj) (q : Addr), q.block < w7.heap.size → (w7.alloc o).drew.cell? q = w7.cell? q) := fun o q hq => World.cell?_alloc_lt w7 o q hq
  go_region_law (refine step_appA rfl (.tmp 72) (.tmp 73) rfl w4.heap.size (fun _ => False) (NewB w7 w6.heap.size) (fun x => S x ∨ NewB w7 w6.heap.size x) v5 av [acP 65533] V.2 ?_ ?_ (OA.below HO7.out (fun _ h => h.elim) ((Below.refl _ _).alloc (Nat.le_refl _) _).drew) (HA.out.keep (fun q hq => HKA.out _ q hq.2) (fun q hq => HKA.out _ q (HT.out _ hq))) (fun _ h => h.elim) (fun x hx => by have := HT.out x hx; simp; omega) HTg.out (by simp; omega) (by simp; omega) ?_; go_simp; go_simp; intro v9 w9 ho9 hg9 hb9; obtain ⟨f0, f1, f2, f3, f4, ff⟩ := five_cells (row_kept9 K7.out (by omega) (by omega) hb9); obtain ⟨r0, r1, r2, r3, r4, rf⟩ := five_cells (row_last9 hg9 (fun g hg => by have := HG.out g hg; omega)))
  all_goals
    go_wp2
    exact bodyPost_ret (v := .tuple #[.agg #[.int .i64 (V.1.mode : Int), .int .u8 (V.1.priv : Int), Value.slice Aa V.1.params.length ca, Value.slice Ab V.1.inter.length cb, Value.slice Ac V.1.utf.length cc], v9]) (by simp [results, Try.results44, go_sem, f0, f1, f2, f3, f4]) rfl (fin_post9 HBW7.out HSS.out hz4 (by omega) (by omega) HQ.out hb9 hg9 HT.out HTg.out ho9 (fun y hy => hy.elim False.elim id))
set_option maxHeartbeats 1000000 in
set_option maxRecDepth 100000 in
theorem vtr_br3 (vp vi vu : Value) (p : Pr) (b : UInt8) (S : Nat → Prop) (w : World) (hp : SL vI w S vp p.params) (hi : SL vB w S vi p.inter) (hu : SL vB w S vu p.utf) (hS : ∀ x, S x → x < w.heap.size) (hok : PrOk p) (hm : p.mode = 0) (hpl : 0 < p.utf.length) (Q : List UInt8) (hst : stepL p.utf b = (Q, [65533])) (h128 : 128 ≤ b.toNat) (hQ : Q.length ≠ 0) :
    Calls Try.prog 44 #[.agg #[.int .i64 (p.mode : Int), .int .u8 (p.priv : Int), vp, vi, vu], .int .u8 (b.toNat : Int)] w (VtPost S ((vtN { p with utf := [] } b).1, acP 65533 :: (vtN { p with utf := [] } b).2) w) := by
  have HP := Lib.hid hp
  have HI := Lib.hid hi
  have HU := Lib.hid hu
  have HSS := Lib.hid hS
  have HST := Lib.hid hst
  have HOK := Lib.hid (drop_ok p hok)
  have hvl := vtN_len { p with utf := [] } b
  obtain ⟨nQ, hnQ⟩ : ∃ n, Q.length = n := ⟨_, rfl⟩
  obtain ⟨nR, hnR⟩ : ∃ n, [65533].length = n := ⟨_, rfl⟩
  have HNQ := Lib.hid hnQ
  have HNR := Lib.hid hnR
  obtain ⟨Ap, cp, rfl, p1, p2⟩ := hp.form
  obtain ⟨Ai, ci, rfl, i1, i2⟩ := hi.form
  obtain ⟨Au, cu, rfl, u1, u2⟩ := hu.form
  clear hp hi hu hS hst hok
  have m0 : ((p.mode : Int) == 0) = true := beq_iff_eq.2 (by omega)
  have g128 : (128 : Int) ≤ (b.toNat : Int) := by omega
  have q0 : ((nQ : Int) == 0) = false := beq_eq_false_iff_ne.2 (by omega)
  have nr0 : ((nR : Int) == 0) = false := beq_eq_false_iff_ne.2 (by simp at hnR; omega)
  have nr1 : ((nR : Int) == 1) = true := beq_iff_eq.2 (by simp at hnR; omega)
  have nr2 : 0 < nR := by simp at hnR; omega
  clear hQ
  clear hm hnQ hnR
  go_enter Try.func44, Try.ntmps44
  go_wp2_with (first
    | (go_at_call 47; (with_reducible refine (utfr_in w _ _ HSS.out HU.out b Q [65533] HST.out nQ nR HNQ.out HNR.out).mono ?_); rintro e w4 ⟨Aq, cq, Ar, cr, rfl, hq, hr, hb4⟩; obtain ⟨k0, k1⟩ := two_keptB hb4; obtain ⟨c0, c1, c2, c3, c4, cf⟩ := five_cells k0; obtain ⟨ad, rfl, cr0⟩ := rune_first hr; have hz4 := hb4.size; rw [(two_new w _ _).2] at hz4; have K0 := Lib.hid k0; have K1 := Lib.hid k1; have HB4 := Lib.hid hb4; clear hq hb4 hr k0 k1)
    | (at_builtin; refine wpl_appA _ rfl (.tmp 60) (.tmp 62) rfl w4.heap.size (fun _ => False) _ (fun _ => False) (.slice none 0 0) _ [] [acP 65533] rfl rfl (OA.nil _ _ _) (AS.print w4 65533 _) (fun _ h => h.elim) (fun _ h => h.elim) (fun _ _ h => h) (by simp) (by simp) ?_; intro v5 w5 ho5 hg5 hb5 _; clear hg5; have b45 := ((Below.refl w4.heap.size w4).alloc (Nat.le_refl _) _).trans hb5; have hz5 := b45.size; obtain ⟨d0, d1, d2, d3, d4, df⟩ := five_cells ((b45.block _ (by omega)).trans K0.out); have HO5 := Lib.hid (OA.weak (S' := fun _ => False) ho5 (fun _ h => h.elim id id) (fun _ _ h => h)); have HB45 := Lib.hid b45; clear ho5 hb5 b45)
    | (go_at_call 50; fail))
  have h2 := two_new w (.cells #[Value.int .i64 (p.mode : Int), Value.int .u8 (p.priv : Int), Value.slice Ap p.params.length cp, Value.slice Ai p.inter.length ci, Value.slice Au p.utf.length cu] 30) (.cells #[Value.int .i64 0, Value.int .u8 0, Value.slice none 0 0, Value.slice none 0 0, Value.slice none 0 0] 30)
  have hbw4 : Below w.heap.size w w4 := h2.1.trans (HB4.out.mono (by omega))
  have hbw6 : Below w.heap.size w (w5.setCell ⟨w.heap.size, 4, none⟩ (.slice none 0 0)) := (hbw4.trans (HB45.out.mono (by omega))).setCell (Nat.le_refl _) _
  have hz6 : (w5.setCell ⟨w.heap.size, 4, none⟩ (.slice none 0 0)).heap.size = w5.heap.size := by simp
  have hk6 : (w5.setCell ⟨w.heap.size, 4, none⟩ (.slice none 0 0)).heap[w.heap.size + 1]? = some (.cells #[Value.int .i64 0, Value.int .u8 0, Value.slice none 0 0, Value.slice none 0 0, Value.slice none 0 0] 30) := (Below.heap_setCell _ _ _ _ (by simp)).trans ((HB45.out.block _ (by omega)).trans K1.out)
  have ho6 : OA (w5.setCell ⟨w.heap.size, 4, none⟩ (.slice none 0 0)) w4.heap.size (fun _ => False) v5 [acP 65533] := HO5.out.set (by show w.heap.size < w4.heap.size; omega)
  generalize w5.setCell ⟨w.heap.size, 4, none⟩ (.slice none 0 0) = w6 at *
  have hz64 : w4.heap.size ≤ w6.heap.size := by omega
  have hcal := vtNr_any (.slice Ap p.params.length cp) (.slice Ai p.inter.length ci) (.slice none 0 0) { p with utf := [] } b S w6 (HP.out.keep (fun q hq => hbw6.cell (HSS.out _ hq))) (HI.out.keep (fun q hq => hbw6.cell (HSS.out _ hq))) (SL.nil _ _ _) (fun x hx => Nat.lt_of_lt_of_le (HSS.out x hx) hbw6.size) HOK.out
  generalize hV : vtN { p with utf := [] } b = V at *
  clear hV
  refine hcal.mono ?_
  rintro e w7 ⟨qv, av, rfl, hq, ha, hb7⟩
  have hz7 := hb7.size
  have HQ := Lib.hid hq
  have HA := Lib.hid ha
  obtain ⟨v1, v2, v3, rfl, s1, s2, s3⟩ := hq
  obtain ⟨Aa, ca, rfl, _, _⟩ := s1.form
  obtain ⟨Ab, cb, rfl, _, _⟩ := s2.form
  obtain ⟨Ac, cc, rfl, _, _⟩ := s3.form
  have K7 := Lib.hid ((hb7.block _ (by omega)).trans hk6)
  have HBW7 := Lib.hid (hbw6.trans (hb7.mono (by omega)))
  have HO7 := Lib.hid (ho6.below (fun _ h => h.elim) hb7)
  have HG : Hid (∀ g, v5.ownBlock = some g → w4.heap.size ≤ g ∧ g < w6.heap.size) := fun g hg => ho6.lt g hg
  have HT : Hid (∀ x, (S x ∨ NewB w7 w6.heap.size x) → x < w7.heap.size) := fun x hx => by
    rcases hx with h | h
    · have := HSS.out x h; omega
    · exact h.2
  have HTg : Hid (∀ g, v5.ownBlock = some g → ¬ (S g ∨ NewB w7 w6.heap.size g)) := fun g hg hx => by
    have hgg := HG.out g hg
    rcases hx with h | h
    · have := HSS.out g h; omega
    · have := h.1; omega
  clear s1 s2 s3 ha hb7 hk6 ho6 hcal hbw6 d0 d1 d2 d3 d4 df c0 c1 c2 c3 c4 cf
  go_wp2
  have HKA : Hid (∀ (o : Obj) (q : Addr), q.block < w7.heap.size → (w7.alloc o).drew.cell? q = w7.cell? q) := fun o q hq => World.cell?_alloc_lt w7 o q hq
  go_region_law (refine step_appA rfl (.tmp 72) (.tmp 73) rfl w4.heap.size (fun _ => False) (NewB w7 w6.heap.size) (fun x => S x ∨ NewB w7 w6.heap.size x) v5 av [acP 65533] V.2 ?_ ?_ (OA.below HO7.out (fun _ h => h.elim) ((Below.refl _ _).alloc (Nat.le_refl _) _).drew) (HA.out.keep (fun q hq => HKA.out _ q hq.2) (fun q hq => HKA.out _ q (HT.out _ hq))) (fun _ h => h.elim) (fun x hx => by have := HT.out x hx; simp; omega) HTg.out (by simp; omega) (by simp; omega) ?_; go_simp; go_simp; intro v9 w9 ho9 hg9 hb9; obtain ⟨f0, f1, f2, f3, f4, ff⟩ := five_cells (row_kept9 K7.out (by omega) (by omega) hb9); obtain ⟨r0, r1, r2, r3, r4, rf⟩ := five_cells (row_last9 hg9 (fun g hg => by have := HG.out g hg; omega)))
  all_goals
    go_wp2
    exact bodyPost_ret (v := .tuple #[.agg #[.int .i64 (V.1.mode : Int), .int .u8 (V.1.priv : Int), Value.slice Aa V.1.params.length ca, Value.slice Ab V.1.inter.length cb, Value.slice Ac V.1.utf.length cc], v9]) (by simp [results, Try.results44, go_sem, f0, f1, f2, f3, f4]) rfl (fin_post9 HBW7.out HSS.out hz4 (by omega) (by omega) HQ.out hb9 hg9 HT.out HTg.out ho9 (fun y hy => hy.elim False.elim id))
set_option maxHeartbeats 1000000 in
set_option maxRecDepth 100000 in
theorem vtr_br4 (vp vi vu : Value) (p : Pr) (b : UInt8) (S : Nat → Prop) (w : World) (hp : SL vI w S vp p.params) (hi : SL vB w S vi p.inter) (hu : SL vB w S vu p.utf) (hS : ∀ x, S x → x < w.heap.size) (hok : PrOk p) (hm : p.mode = 0) (hpl : 0 < p.utf.length) (Q : List UInt8) (hst : stepL p.utf b = (Q, [65533])) (h128 : 128 ≤ b.toNat) (hQ : Q.length = 0) (hf : formedB p.utf b = false) :
    Calls Try.prog 44 #[.agg #[.int .i64 (p.mode : Int), .int .u8 (p.priv : Int), vp, vi, vu], .int .u8 (b.toNat : Int)] w (VtPost S ((vtN { p with utf := [] } b).1, acP 65533 :: (vtN { p with utf := [] } b).2) w) := by
  have HP := Lib.hid hp
  have HI := Lib.hid hi
  have HU := Lib.hid hu
  have HSS := Lib.hid hS
  have HST := Lib.hid hst
  have HOK := Lib.hid (drop_ok p hok)
  have hvl := vtN_len { p with utf := [] } b
  obtain ⟨nQ, hnQ⟩ : ∃ n, Q.length = n := ⟨_, rfl⟩
  obtain ⟨nR, hnR⟩ : ∃ n, [65533].length = n := ⟨_, rfl⟩
  have HNQ := Lib.hid hnQ
  have HNR := Lib.hid hnR
  obtain ⟨Ap, cp, rfl, p1, p2⟩ := hp.form
  obtain ⟨Ai, ci, rfl, i1, i2⟩ := hi.form
  obtain ⟨Au, cu, rfl, u1, u2⟩ := hu.form
  clear hp hi hu hS hst hok
  have m0 : ((p.mode : Int) == 0) = true := beq_iff_eq.2 (by omega)
  have g128 : (128 : Int) ≤ (b.toNat : Int) := by omega
  have q0 : ((nQ : Int) == 0) = true := beq_iff_eq.2 (by omega)
  have nr0 : ((nR : Int) == 0) = false := beq_eq_false_iff_ne.2 (by simp at hnR; omega)
  have nr1 : ((nR : Int) == 1) = true := beq_iff_eq.2 (by simp at hnR; omega)
  have nr2 : 0 < nR := by simp at hnR; omega
  clear hQ
  have HF := Lib.hid hf
  clear hf
  clear hm hnQ hnR
  go_enter Try.func44, Try.ntmps44
  go_wp2_with (first
    | (go_at_call 47; (with_reducible refine (utfr_in w _ _ HSS.out HU.out b Q [65533] HST.out nQ nR HNQ.out HNR.out).mono ?_); rintro e w4 ⟨Aq, cq, Ar, cr, rfl, hq, hr, hb4⟩; obtain ⟨k0, k1⟩ := two_keptB hb4; obtain ⟨c0, c1, c2, c3, c4, cf⟩ := five_cells k0; obtain ⟨ad, rfl, cr0⟩ := rune_first hr; have hz4 := hb4.size; rw [(two_new w _ _).2] at hz4; have K0 := Lib.hid k0; have K1 := Lib.hid k1; have HB4 := Lib.hid hb4; clear hq hb4 hr k0 k1)
    | (go_at_call 48; (with_reducible refine (formedr_any _ p.utf b w.heap.size _ (((HU.out.bs HSS.out).below (two_new w _ _).1).below (HB4.out.mono (by omega)))).mono ?_); rintro e w4b ⟨rfl, rfl⟩; rw [HF.out])
    | (at_builtin; refine wpl_appA _ rfl (.tmp 60) (.tmp 62) rfl w4.heap.size (fun _ => False) _ (fun _ => False) (.slice none 0 0) _ [] [acP 65533] rfl rfl (OA.nil _ _ _) (AS.print w4 65533 _) (fun _ h => h.elim) (fun _ h => h.elim) (fun _ _ h => h) (by simp) (by simp) ?_; intro v5 w5 ho5 hg5 hb5 _; clear hg5; have b45 := ((Below.refl w4.heap.size w4).alloc (Nat.le_refl _) _).trans hb5; have hz5 := b45.size; obtain ⟨d0, d1, d2, d3, d4, df⟩ := five_cells ((b45.block _ (by omega)).trans K0.out); have HO5 := Lib.hid (OA.weak (S' := fun _ => False) ho5 (fun _ h => h.elim id id) (fun _ _ h => h)); have HB45 := Lib.hid b45; clear ho5 hb5 b45)
    | (go_at_call 50; fail))
  have h2 := two_new w (.cells #[Value.int .i64 (p.mode : Int), Value.int .u8 (p.priv : Int), Value.slice Ap p.params.length cp, Value.slice Ai p.inter.length ci, Value.slice Au p.utf.length cu] 30) (.cells #[Value.int .i64 0, Value.int .u8 0, Value.slice none 0 0, Value.slice none 0 0, Value.slice none 0 0] 30)
  have hbw4 : Below w.heap.size w w4 := h2.1.trans (HB4.out.mono (by omega))
  have hbw6 : Below w.heap.size w (w5.setCell ⟨w.heap.size, 4, none⟩ (.slice none 0 0)) := (hbw4.trans (HB45.out.mono (by omega))).setCell (Nat.le_refl _) _
  have hz6 : (w5.setCell ⟨w.heap.size, 4, none⟩ (.slice none 0 0)).heap.size = w5.heap.size := by simp
  have hk6 : (w5.setCell ⟨w.heap.size, 4, none⟩ (.slice none 0 0)).heap[w.heap.size + 1]? = some (.cells #[Value.int .i64 0, Value.int .u8 0, Value.slice none 0 0, Value.slice none 0 0, Value.slice none 0 0] 30) := (Below.heap_setCell _ _ _ _ (by simp)).trans ((HB45.out.block _ (by omega)).trans K1.out)
  have ho6 : OA (w5.setCell ⟨w.heap.size, 4, none⟩ (.slice none 0 0)) w4.heap.size (fun _ => False) v5 [acP 65533] := HO5.out.set (by show w.heap.size < w4.heap.size; omega)
  generalize w5.setCell ⟨w.heap.size, 4, none⟩ (.slice none 0 0) = w6 at *
  have hz64 : w4.heap.size ≤ w6.heap.size := by omega
  have hcal := vtNr_any (.slice Ap p.params.length cp) (.slice Ai p.inter.length ci) (.slice none 0 0) { p with utf := [] } b S w6 (HP.out.keep (fun q hq => hbw6.cell (HSS.out _ hq))) (HI.out.keep (fun q hq => hbw6.cell (HSS.out _ hq))) (SL.nil _ _ _) (fun x hx => Nat.lt_of_lt_of_le (HSS.out x hx) hbw6.size) HOK.out
  generalize hV : vtN { p with utf := [] } b = V at *
  clear hV
  refine hcal.mono ?_
  rintro e w7 ⟨qv, av, rfl, hq, ha, hb7⟩
  have hz7 := hb7.size
  have HQ := Lib.hid hq
  have HA := Lib.hid ha
  obtain ⟨v1, v2, v3, rfl, s1, s2, s3⟩ := hq
  obtain ⟨Aa, ca, rfl, _, _⟩ := s1.form
  obtain ⟨Ab, cb, rfl, _, _⟩ := s2.form
  obtain ⟨Ac, cc, rfl, _, _⟩ := s3.form
  have K7 := Lib.hid ((hb7.block _ (by omega)).trans hk6)
  have HBW7 := Lib.hid (hbw6.trans (hb7.mono (by omega)))
  have HO7 := Lib.hid (ho6.below (fun _ h => h.elim) hb7)
  have HG : Hid (∀ g, v5.ownBlock = some g → w4.heap.size ≤ g ∧ g < w6.heap.size) := fun g hg => ho6.lt g hg
  have HT : Hid (∀ x, (S x ∨ NewB w7 w6.heap.size x) → x < w7.heap.size) := fun x hx => by
    rcases hx with h | h
    · have := HSS.out x h; omega
    · exact h.2
  have HTg : Hid (∀ g, v5.ownBlock = some g → ¬ (S g ∨ NewB w7 w6.heap.size g)) := fun g hg hx => by
    have hgg := HG.out g hg
    rcases hx with h | h
    · have := HSS.out g h; omega
    · have := h.1; omega
  clear s1 s2 s3 ha hb7 hk6 ho6 hcal hbw6 d0 d1 d2 d3 d4 df c0 c1 c2 c3 c4 cf
  go_wp2
  have HKA : Hid (∀ (o : Obj) (q : Addr), q.block < w7.heap.size → (w7.alloc o).drew.cell? q = w7.cell? q) := fun o q hq => World.cell?_alloc_lt w7 o q hq
  go_region_law (refine step_appA rfl (.tmp 72) (.tmp 73) rfl w4.heap.size (fun _ => False) (NewB w7 w6.heap.size) (fun x => S x ∨ NewB w7 w6.heap.size x) v5 av [acP 65533] V.2 ?_ ?_ (OA.below HO7.out (fun _ h => h.elim) ((Below.refl _ _).alloc (Nat.le_refl _) _).drew) (HA.out.keep (fun q hq => HKA.out _ q hq.2) (fun q hq => HKA.out _ q (HT.out _ hq))) (fun _ h => h.elim) (fun x hx => by have := HT.out x hx; simp; omega) HTg.out (by simp; omega) (by simp; omega) ?_; go_simp; go_simp; intro v9 w9 ho9 hg9 hb9; obtain ⟨f0, f1, f2, f3, f4, ff⟩ := five_cells (row_kept9 K7.out (by omega) (by omega) hb9); obtain ⟨r0, r1, r2, r3, r4, rf⟩ := five_cells (row_last9 hg9 (fun g hg => by have := HG.out g hg; omega)))
  all_goals
    go_wp2
    exact bodyPost_ret (v := .tuple #[.agg #[.int .i64 (V.1.mode : Int), .int .u8 (V.1.priv : Int), Value.slice Aa V.1.params.length ca, Value.slice Ab V.1.inter.length cb, Value.slice Ac V.1.utf.length cc], v9]) (by simp [results, Try.results44, go_sem, f0, f1, f2, f3, f4]) rfl (fin_post9 HBW7.out HSS.out hz4 (by omega) (by omega) HQ.out hb9 hg9 HT.out HTg.out ho9 (fun y hy => hy.elim False.elim id))
/-- The document's Step, at any state that may be. -/
theorem vtr_any (vp vi vu : Value) (p : Pr) (b : UInt8) (S : Nat → Prop) (w : World) (hp : SL vI w S vp p.params) (hi : SL vB w S vi p.inter) (hu : SL vB w S vu p.utf) (hS : ∀ x, S x → x < w.heap.size) (hok : PrOk p) :
    Calls Try.prog 44 #[.agg #[.int .i64 (p.mode : Int), .int .u8 (p.priv : Int), vp, vi, vu], .int .u8 (b.toNat : Int)] w (VtPost S (vtL p b) w) := by
  by_cases hc : p.mode = 0 ∧ 0 < p.utf.length
  · obtain ⟨Q, hQ⟩ : ∃ Q, (stepL p.utf b).1 = Q := ⟨_, rfl⟩
    obtain ⟨R, hR⟩ : ∃ R, (stepL p.utf b).2 = R := ⟨_, rfl⟩
    have hst : stepL p.utf b = (Q, R) := by rw [← hQ, ← hR]
    rw [show vtL p b = if goesB p.utf b = true then ({ prM 0 with utf := Q }, printsL R) else ((vtN { p with utf := [] } b).1, acP 65533 :: (vtN { p with utf := [] } b).2) from by unfold vtL; rw [if_pos hc, hQ, hR]]
    have hg : goesB p.utf b = (decide (128 ≤ b.toNat) && (decide (R.length = 0) || decide (R.getD 0 0 ≠ 65533) || (decide (R.length = 1) && decide (Q.length = 0) && formedB p.utf b))) := by unfold goesB; rw [hQ, hR]
    rw [hg]
    by_cases h128 : 128 ≤ b.toNat
    · rcases R with _ | ⟨r, R⟩
      · rw [if_pos (by simp [h128])]
        exact vtr_go1 vp vi vu p b S w hp hi hu hS hc.1 hc.2 h128 Q [] hst rfl
      · by_cases hr : r = 65533
        · subst hr
          rcases R with _ | ⟨r2, R⟩
          · by_cases hq : Q.length = 0
            · by_cases hf : formedB p.utf b = true
              · rw [if_pos (by simp [h128, hq, hf])]
                exact vtr_go3 vp vi vu p b S w hp hi hu hS hc.1 hc.2 h128 Q hst hq hf
              · rw [if_neg (by simp [h128, hq, hf])]
                exact vtr_br4 vp vi vu p b S w hp hi hu hS hok hc.1 hc.2 Q hst h128 hq (by simpa using hf)
            · rw [if_neg (by simp [h128, hq])]
              exact vtr_br3 vp vi vu p b S w hp hi hu hS hok hc.1 hc.2 Q hst h128 hq
          · rw [if_neg (by simp [h128])]
            exact vtr_br2 vp vi vu p b S w hp hi hu hS hok hc.1 hc.2 Q (r2 :: R) hst h128 (by simp)
        · rw [if_pos (by simp [h128, hr])]
          exact vtr_go2 vp vi vu p b S w hp hi hu hS hc.1 hc.2 h128 Q r R hst hr
    · rw [if_neg (by simp [h128])]
      exact vtr_br1 vp vi vu p b S w hp hi hu hS hok hc.1 hc.2 Q R hst h128
  · rw [show vtL p b = vtN p b from by unfold vtL; rw [if_neg hc]]
    exact vtr_none vp vi vu p b S w hp hi hu hS hok hc
end Go.Proofs.Ytejemcpkmfhenaa

namespace Go.Proofs.Ytejemcpkmfhenaa
open Go.RowKit
set_option linter.unusedVariables false
set_option linter.unusedSimpArgs false

/-- A slice that reads as the cells l; if it has any its block is one of S. -/
def CL (w : World) (S : Nat → Prop) (v : Value) (l : List Cl) : Prop :=
  ∃ A c, v = .slice A l.length c ∧ l.length ≤ c ∧ c ≤ maxLen ∧ (0 < l.length → ∃ ad, A = some ad ∧ S ad.block ∧ ∀ j b, l[j]? = some b → ThreeAt w (ad.add (j * 3)) b)
section
variable {w w' : World} {S S' : Nat → Prop} {v : Value} {l : List Cl}
theorem CL.keep (h : CL w S v l) (hk : ∀ q : Addr, S q.block → w'.cell? q = w.cell? q) : CL w' S v l := by
  obtain ⟨A, c, hv, h1, h2, h3⟩ := h
  refine ⟨A, c, hv, h1, h2, fun hl => ?_⟩
  obtain ⟨ad, hA, hb, hc⟩ := h3 hl
  exact ⟨ad, hA, hb, fun j b hj => (hc j b hj).keep fun p hp => hk p (by rw [hp, block_add]; exact hb)⟩
theorem CL.mono (h : CL w S v l) (hS : ∀ x, S x → S' x) : CL w S' v l := by
  obtain ⟨A, c, hv, h1, h2, h3⟩ := h
  refine ⟨A, c, hv, h1, h2, fun hl => ?_⟩
  obtain ⟨ad, hA, hb, hc⟩ := h3 hl
  exact ⟨ad, hA, hS _ hb, hc⟩
theorem CL.nil (w : World) (S : Nat → Prop) : CL w S (.slice none 0 0) [] := ⟨none, 0, rfl, by simp, by simp [maxLen], fun h => absurd h (by simp)⟩
theorem CL.form (h : CL w S v l) : ∃ A c, v = .slice A l.length c ∧ l.length ≤ c ∧ c ≤ 9223372036854775807 := by
  obtain ⟨A, c, hv, h1, h2, _⟩ := h
  unfold maxLen at h2
  exact ⟨A, c, hv, h1, by omega⟩
theorem CL.cs {B : Nat} (h : CL w S v l) (hS : ∀ x, S x → x < B) : CS w B v l := h.mono hS
theorem CL.cs' {B : Nat} (h : CL w S v l) (hS : ∀ x, S x → x < w.heap.size) (hb : Below w.heap.size w w') (hB : w'.heap.size ≤ B) : CS w' B v l :=
  (h.keep (fun q hq => hb.cell (hS _ hq))).cs (fun x hx => Nat.lt_of_lt_of_le (hS x hx) (Nat.le_trans hb.size hB))
end
theorem OT.sl {w : World} {base : Nat} {v : Value} {l : List Bool} (h : OT w base v l) : SL vT w (NewB w base) v l := by
  obtain ⟨A, c, hv, h1, h2, h3⟩ := h.bs
  refine ⟨A, c, hv, h1, h2, fun hl => ?_⟩
  obtain ⟨ad, hA, hb, hc⟩ := h3 hl
  subst hA
  exact ⟨ad, rfl, ⟨(World.ownsRow.lt h ad.block (by rw [hv]; rfl)).1, hb⟩, hc⟩
theorem OC.cl {w : World} {base : Nat} {v : Value} {l : List Cl} (h : OC w base v l) : CL w (NewB w base) v l := by
  obtain ⟨A, c, hv, h1, h2, h3⟩ := h.cs
  refine ⟨A, c, hv, h1, h2, fun hl => ?_⟩
  obtain ⟨ad, hA, hb, hc⟩ := h3 hl
  subst hA
  exact ⟨ad, rfl, ⟨(World.ownsRow.lt h ad.block (by rw [hv]; rfl)).1, hb⟩, hc⟩
/-- A screen's 24 values. -/
@[reducible] def vS (s : Sc) (vc vt vo vp vi vu : Value) : Array Value :=
  #[.int .i64 s.rows, .int .i64 s.cols, vc, .int .i64 s.y, .int .i64 s.x, .bool s.wrap, .int .u16 (s.attr : Int), .int .i64 s.top, .int .i64 s.bottom, vt, .int .i64 s.sy, .int .i64 s.sx, .int .u16 (s.sattr : Int), .bool s.auto, .bool s.shown, .bool s.alt, vo, .int .i64 s.oy, .int .i64 s.ox, .int .i64 (s.p.mode : Int), .int .u8 (s.p.priv : Int), vp, vi, vu]
/-- The slices of a screen: they lie in blocks of S. -/
def SSl (w : World) (S : Nat → Prop) (s : Sc) (vc vt vo vp vi vu : Value) : Prop :=
  CL w S vc s.cells ∧ SL vT w S vt s.tabs ∧ CL w S vo s.other ∧ SL vI w S vp s.p.params ∧ SL vB w S vi s.p.inter ∧ SL vB w S vu s.p.utf
def SCV (w : World) (S : Nat → Prop) (v : Value) (s : Sc) : Prop := ∃ vc vt vo vp vi vu, v = .agg (vS s vc vt vo vp vi vu) ∧ SSl w S s vc vt vo vp vi vu
section
variable {w w' : World} {S S' : Nat → Prop} {s : Sc} {vc vt vo vp vi vu : Value}
theorem SSl.keep (h : SSl w S s vc vt vo vp vi vu) (hk : ∀ q : Addr, S q.block → w'.cell? q = w.cell? q) : SSl w' S s vc vt vo vp vi vu := by
  obtain ⟨h1, h2, h3, h4, h5, h6⟩ := h
  exact ⟨h1.keep hk, h2.keep hk, h3.keep hk, h4.keep hk, h5.keep hk, h6.keep hk⟩
theorem SSl.mono (h : SSl w S s vc vt vo vp vi vu) (hS : ∀ x, S x → S' x) : SSl w S' s vc vt vo vp vi vu := by
  obtain ⟨h1, h2, h3, h4, h5, h6⟩ := h
  exact ⟨h1.mono hS, h2.mono hS, h3.mono hS, h4.mono hS, h5.mono hS, h6.mono hS⟩
theorem SSl.below {B : Nat} (h : SSl w S s vc vt vo vp vi vu) (hS : ∀ x, S x → x < B) (hb : Below B w w') : SSl w' S s vc vt vo vp vi vu := h.keep fun q hq => hb.cell (hS _ hq)
/-- Another screen of the same slices. -/
theorem SSl.like {s' : Sc} (h : SSl w S s vc vt vo vp vi vu) (h1 : s'.cells = s.cells) (h2 : s'.tabs = s.tabs) (h3 : s'.other = s.other) (h4 : s'.p = s.p) : SSl w S s' vc vt vo vp vi vu := by
  unfold SSl
  rw [h1, h2, h3, h4]
  exact h
end
theorem SCV.below {w w' : World} {S : Nat → Prop} {B : Nat} {v : Value} {s : Sc} (h : SCV w S v s) (hS : ∀ x, S x → x < B) (hb : Below B w w') : SCV w' S v s := by
  obtain ⟨vc, vt, vo, vp, vi, vu, hv, hs⟩ := h
  exact ⟨vc, vt, vo, vp, vi, vu, hv, hs.below hS hb⟩
theorem SCV.mono {w : World} {S S' : Nat → Prop} {v : Value} {s : Sc} (h : SCV w S v s) (hS : ∀ x, S x → S' x) : SCV w S' v s := by
  obtain ⟨vc, vt, vo, vp, vi, vu, hv, hs⟩ := h
  exact ⟨vc, vt, vo, vp, vi, vu, hv, hs.mono hS⟩
/-- Blocks of S, and those that were made since. -/
def Since (S : Nat → Prop) (w w' : World) (x : Nat) : Prop := S x ∨ NewB w' w.heap.size x
/-- What a call answers that tells a screen. -/
def ScPost (S : Nat → Prop) (s : Sc) (w : World) (e : Ending) (w' : World) : Prop := ∃ v, e = .returned v ∧ SCV w' (Since S w w') v s ∧ Below w.heap.size w w'

theorem scrSize : (Try.prog.info? 32).map (·.size) = some 24 := by kernel_rfl
theorem run_loadS {w : World} {g : Nat} {xs : Array Value} (h : w.heap[g]? = some (.cells xs 32)) (hn : xs.size = 24) : (Instr.loadAt 32 (.pointer (some ⟨g, 0, none⟩))).run Try.prog w = .ok (.agg xs) w := by
  simp only [Instr.loadAt, Instr.sureAddr, Sem.run_bind, Sem.run_pure, Result.andThen]
  exact run_loadVar_row _ g _ 32 xs (0, 0) _ h Try.underlying32 rfl (by rw [scrSize, hn])
theorem run_storeS {w : World} {g : Nat} {old xs : Array Value} (h : w.heap[g]? = some (.cells old 32)) (ho : old.size = 24) (hn : xs.size = 24) (h1 : xs.all (·.oneCell') = true) : (Instr.storeAt 32 (.pointer (some ⟨g, 0, none⟩)) (.agg xs)).run Try.prog w = .ok () (w.setRow g xs) := by
  simp only [Instr.storeAt, Instr.sureAddr, Sem.run_bind, Sem.run_pure, Result.andThen]
  exact run_storeVar_row _ g _ 32 old xs h (by rw [scrSize, hn]) (by rw [ho, hn]) h1
theorem heap_setRow_same {w : World} {g : Nat} {old xs : Array Value} {t : TypeId} (h : w.heap[g]? = some (.cells old t)) : (w.setRow g xs).heap[g]? = some (.cells xs t) := by
  simp [World.setRow, Array.getElem?_modify, h]
theorem heap_setRow_other {w : World} {g k : Nat} {xs : Array Value} (h : g ≠ k) : (w.setRow g xs).heap[k]? = w.heap[k]? := by
  simp [World.setRow, Array.getElem?_modify, h]
theorem size_setRow (w : World) (g : Nat) (xs : Array Value) : (w.setRow g xs).heap.size = w.heap.size := by simp [World.setRow]
theorem below_setRow {B : Nat} {w w' : World} (h : Below B w w') {g : Nat} (hg : B ≤ g) (xs : Array Value) : Below B w (w'.setRow g xs) :=
  ⟨h.os, h.tape, h.output, by rw [size_setRow]; exact h.size, fun i hi => (heap_setRow_other (by omega)).trans (h.block i hi)⟩
theorem resultS {fn : Func} {p : Tmp} (h : fn.results = #[.cell p 32]) {tmps : Array Value} {w : World} {g : Nat} {xs : Array Value} (ht : tmps.getD p undef = .pointer (some ⟨g, 0, none⟩)) (hg : w.heap[g]? = some (.cells xs 32)) (hn : xs.size = 24) :
    (results fn tmps).run Try.prog w = .ok (.agg xs) w := by
  simp only [results, h]
  have := run_loadVar_row (P := Try.prog) w g _ 32 xs (0, 0) _ hg Try.underlying32 rfl (by rw [scrSize, hn])
  have ht2 : tmps[p]?.getD undef = .pointer (some ⟨g, 0, none⟩) := by simpa using ht
  simp [ht2, asAddr, this]
theorem wpl_loadS {w : World} {ops : Array Oper} {rest : List Oper} {o : Oper} {a : Act} {Q : Exit → Act → World → Prop} (hgd : o.guard = none) (x : Operand) (ho : o.op = .load 32 x) {g : Nat} {xs : Array Value} (hx : a.eval x = .pointer (some ⟨g, 0, none⟩))
    (hg : w.heap[g]? = some (.cells xs 32)) (hn : xs.size = 24) (h : wpList Try.prog ops Q rest (a.put o.dst (.agg xs)) w) : wpList Try.prog ops Q (o :: rest) a w := by
  refine wpList_plain hgd fun K hK => ?_
  unfold Oper.wp execOp
  simp only [ho, hx, Sem.run_bind, run_loadS hg hn, Result.andThen_ok, Sem.run_pure]
  exact hK _ _ h
theorem wpl_storeS {w : World} {ops : Array Oper} {rest : List Oper} {o : Oper} {a : Act} {Q : Exit → Act → World → Prop} (hgd : o.guard = none) (x y : Operand) (ho : o.op = .store 32 x y) {g : Nat} {old xs : Array Value} (hx : a.eval x = .pointer (some ⟨g, 0, none⟩)) (hy : a.eval y = .agg xs)
    (hg : w.heap[g]? = some (.cells old 32)) (ho2 : old.size = 24) (hn : xs.size = 24) (h1 : xs.all (·.oneCell') = true) (h : wpList Try.prog ops Q rest (a.put o.dst undef) (w.setRow g xs)) : wpList Try.prog ops Q (o :: rest) a w := by
  refine wpList_plain hgd fun K hK => ?_
  unfold Oper.wp execOp
  simp only [ho, hx, hy, Sem.run_bind, run_storeS hg ho2 hn h1, Result.andThen_ok, Sem.run_pure]
  exact hK _ _ h
theorem vS_one (s : Sc) {vc vt vo vp vi vu : Value} {A1 A2 A3 A4 A5 A6 : Option Addr} {n1 n2 n3 n4 n5 n6 c1 c2 c3 c4 c5 c6 : Nat} (e1 : vc = .slice A1 n1 c1) (e2 : vt = .slice A2 n2 c2) (e3 : vo = .slice A3 n3 c3) (e4 : vp = .slice A4 n4 c4) (e5 : vi = .slice A5 n5 c5) (e6 : vu = .slice A6 n6 c6) : (vS s vc vt vo vp vi vu).all (·.oneCell') = true := by
  subst e1 e2 e3 e4 e5 e6
  simp [vS, Value.oneCell']
theorem SSl.one {w : World} {S : Nat → Prop} {s s' : Sc} {vc vt vo vp vi vu : Value} (h : SSl w S s vc vt vo vp vi vu) : (vS s' vc vt vo vp vi vu).all (·.oneCell') = true := by
  obtain ⟨h1, h2, h3, h4, h5, h6⟩ := h
  obtain ⟨A1, c1, e1, _⟩ := h1.form
  obtain ⟨A2, c2, e2, _⟩ := h2.form
  obtain ⟨A3, c3, e3, _⟩ := h3.form
  obtain ⟨A4, c4, e4, _⟩ := h4.form
  obtain ⟨A5, c5, e5, _⟩ := h5.form
  obtain ⟨A6, c6, e6, _⟩ := h6.form
  exact vS_one s' e1 e2 e3 e4 e5 e6
theorem all24 {x0 x1 x2 x3 x4 x5 x6 x7 x8 x9 x10 x11 x12 x13 x14 x15 x16 x17 x18 x19 x20 x21 x22 x23 : Value} (h0 : x0.oneCell' = true) (h1 : x1.oneCell' = true) (h2 : x2.oneCell' = true) (h3 : x3.oneCell' = true) (h4 : x4.oneCell' = true) (h5 : x5.oneCell' = true) (h6 : x6.oneCell' = true) (h7 : x7.oneCell' = true) (h8 : x8.oneCell' = true) (h9 : x9.oneCell' = true) (h10 : x10.oneCell' = true) (h11 : x11.oneCell' = true) (h12 : x12.oneCell' = true) (h13 : x13.oneCell' = true) (h14 : x14.oneCell' = true) (h15 : x15.oneCell' = true) (h16 : x16.oneCell' = true) (h17 : x17.oneCell' = true) (h18 : x18.oneCell' = true) (h19 : x19.oneCell' = true) (h20 : x20.oneCell' = true) (h21 : x21.oneCell' = true) (h22 : x22.oneCell' = true) (h23 : x23.oneCell' = true) : (#[x0, x1, x2, x3, x4, x5, x6, x7, x8, x9, x10, x11, x12, x13, x14, x15, x16, x17, x18, x19, x20, x21, x22, x23] : Array Value).all (·.oneCell') = true := by
  simp [h0, h1, h2, h3, h4, h5, h6, h7, h8, h9, h10, h11, h12, h13, h14, h15, h16, h17, h18, h19, h20, h21, h22, h23]
end Go.Proofs.Ytejemcpkmfhenaa

namespace Go.Proofs.Ytejemcpkmfhenaa
open Go.RowKit
set_option linter.unusedVariables false
set_option linter.unusedSimpArgs false

theorem heap_a1 (w : World) (x y : Obj) : ((w.alloc x).alloc y).heap[w.heap.size]? = some x := by
  show ((w.heap.push x).push y)[w.heap.size]? = some x
  simp [Array.getElem?_push]
theorem heap_a2 (w : World) (x y : Obj) : ((w.alloc x).alloc y).heap[w.heap.size + 1]? = some y := by
  show ((w.heap.push x).push y)[w.heap.size + 1]? = some y
  rw [Array.getElem?_push, if_pos (by simp)]
/-- The end of a walk that has stored a screen as its result. -/
theorem scEnd {w W : World} {S : Nat → Prop} {s : Sc} (g : Nat) (p : Tmp) {vc vt vo vp vi vu : Value} {fn : Func} {a : Act} {z : Array Value} (hfn : fn.results = #[.cell p 32]) (ht : a.tmps.getD p undef = .pointer (some ⟨g, 0, none⟩)) (hd : a.defers = [])
    (hz : W.heap[g]? = some (.cells z 32)) (hg : w.heap.size ≤ g) (hb : Below w.heap.size w W) (hS : ∀ x, S x → x < w.heap.size) (hs : SSl w S s vc vt vo vp vi vu) : bodyPost Try.prog fn (ScPost S s w) .ret a (W.setRow g (vS s vc vt vo vp vi vu)) := by
  refine bodyPost_ret (v := .agg (vS s vc vt vo vp vi vu)) (resultS hfn ht (heap_setRow_same hz) rfl) hd ?_
  have hb2 := below_setRow hb hg (vS s vc vt vo vp vi vu)
  exact ⟨_, rfl, ⟨_, _, _, _, _, _, rfl, (hs.below hS hb2).mono (fun x hx => .inl hx)⟩, hb2⟩
/-- The same of a screen with new cells. -/
theorem scEndC {w w4 W : World} {S : Nat → Prop} {s s0 : Sc} (g : Nat) (p : Tmp) {vc0 vc vt vo vp vi vu : Value} {fn : Func} {a : Act} {z : Array Value} (hfn : fn.results = #[.cell p 32]) (ht : a.tmps.getD p undef = .pointer (some ⟨g, 0, none⟩)) (hd : a.defers = [])
    (hz : W.heap[g]? = some (.cells z 32)) (hg : w.heap.size ≤ g) (hb : Below w.heap.size w W) (hS : ∀ x, S x → x < w.heap.size) (hs : SSl w S s0 vc0 vt vo vp vi vu) (e1 : s.tabs = s0.tabs) (e2 : s.other = s0.other) (e3 : s.p = s0.p)
    (base : Nat) (hbase : g < base) (hc : OC w4 base vc s.cells) (hk : ∀ b, base ≤ b → W.heap[b]? = w4.heap[b]?) (hz4 : w4.heap.size ≤ W.heap.size) : bodyPost Try.prog fn (ScPost S s w) .ret a (W.setRow g (vS s vc vt vo vp vi vu)) := by
  refine bodyPost_ret (v := .agg (vS s vc vt vo vp vi vu)) (resultS hfn ht (heap_setRow_same hz) rfl) hd ?_
  have hb2 := below_setRow hb hg (vS s vc vt vo vp vi vu)
  obtain ⟨h1, h2, h3, h4, h5, h6⟩ := (hs.below hS hb2).mono (S' := Since S w (W.setRow g (vS s vc vt vo vp vi vu))) (fun x hx => .inl hx)
  refine ⟨_, rfl, ⟨_, _, _, _, _, _, rfl, ?_⟩, hb2⟩
  unfold SSl
  rw [e1, e2, e3]
  refine ⟨(hc.cl.keep (fun q hq => World.cell?_of_block ((heap_setRow_other (by have := hq.1; omega)).trans (hk _ hq.1)))).mono (fun x hx => .inr ⟨by have := hx.1; omega, ?_⟩), h2, h3, h4, h5, h6⟩
  rw [size_setRow]
  have := hx.2
  omega
/-- The same of a screen that a call within has answered. -/
theorem scEndV {w w4 : World} {S S4 : Nat → Prop} {s : Sc} (g : Nat) (p : Tmp) {vc vt vo vp vi vu : Value} {fn : Func} {a : Act} {z : Array Value} (hfn : fn.results = #[.cell p 32]) (ht : a.tmps.getD p undef = .pointer (some ⟨g, 0, none⟩)) (hd : a.defers = [])
    (hz : w4.heap[g]? = some (.cells z 32)) (hg : w.heap.size ≤ g) (hb : Below w.heap.size w w4) (hS : ∀ x, S x → x < w.heap.size) (hs : SSl w4 S4 s vc vt vo vp vi vu) (h4 : ∀ x, S4 x → S x ∨ (g < x ∧ x < w4.heap.size)) : bodyPost Try.prog fn (ScPost S s w) .ret a (w4.setRow g (vS s vc vt vo vp vi vu)) := by
  refine bodyPost_ret (v := .agg (vS s vc vt vo vp vi vu)) (resultS hfn ht (heap_setRow_same hz) rfl) hd ?_
  have hb2 := below_setRow hb hg (vS s vc vt vo vp vi vu)
  refine ⟨_, rfl, ⟨_, _, _, _, _, _, rfl, (hs.keep (fun q hq => World.cell?_of_block (heap_setRow_other ?_))).mono (fun x hx => ?_)⟩, hb2⟩
  · rcases h4 _ hq with h | h
    · have := hS _ h; omega
    · omega
  · rcases h4 _ hx with h | h
    · exact .inl h
    · exact .inr ⟨by omega, by rw [size_setRow]; omega⟩
theorem cellR {w : World} {g : Nat} {xs : Array Value} {t : TypeId} (h : w.heap[g]? = some (.cells xs t)) (i : Nat) {v : Value} (hv : xs[i]? = some v) : w.cell? ⟨g, i, none⟩ = some v ∧ w.frozen? ⟨g, i, none⟩ = false :=
  ⟨by rw [cell_of_row w g i _ t _ h]; exact hv, by simp [World.frozen?, h]⟩
set_option maxHeartbeats 2000000 in
set_option maxRecDepth 100000 in
theorem downr_any (v : Value) (s : Sc) (r c : Nat) (S : Nat → Prop) (w : World) (hS : ∀ x, S x → x < w.heap.size) (h : SCV w S v s) (hi : ScIn s r c) : Calls Try.prog 62 #[v] w (ScPost S (downS s) w) := by
  have HSS := Lib.hid hS
  clear hS
  obtain ⟨vc, vt, vo, vp, vi, vu, rfl, hs⟩ := h
  have HS := Lib.hid hs
  obtain ⟨g1, g2, g3, g4, g5, g6⟩ := hs
  obtain ⟨A1, k1, rfl, p1, q1⟩ := g1.form
  obtain ⟨A2, k2, rfl, p2, q2⟩ := g2.form
  obtain ⟨A3, k3, rfl, p3, q3⟩ := g3.form
  obtain ⟨A4, k4, rfl, p4, q4⟩ := g4.form
  obtain ⟨A5, k5, rfl, p5, q5⟩ := g5.form
  obtain ⟨A6, k6, rfl, p6, q6⟩ := g6.form
  clear g1 g2 g3 g4 g5 g6
  have HI := Lib.hid hi
  have y0 := hi.y0
  have y1 := hi.y1
  have hr := hi.rows
  have hlen : s.cells.length ≤ 1000000 := by rw [hi.g.n]; exact rc_le hi.g.r2 hi.g.c2
  have hr2 := hi.g.r2
  clear hi
  have HR := Lib.hid hr
  have hr3 : s.rows ≤ 1000 := by omega
  have hr4 : 1 ≤ s.rows := by omega
  clear hr
  by_cases hb : s.y = s.bottom
  · have hb1 : (s.y == s.bottom) = true := by simpa using hb
    have e : downS s = { s with wrap := false, cells := upL s.cells s.cols s.top s.bottom 1 } := by unfold downS; rw [if_pos hb]
    rw [e]
    have HBB := Lib.hid hb
    clear e hb
    have h2 := two_new w (.cells #[.int .i64 s.rows, .int .i64 s.cols, .slice A1 s.cells.length k1, .int .i64 s.y, .int .i64 s.x, .bool false, .int .u16 (s.attr : Int), .int .i64 s.top, .int .i64 s.bottom, .slice A2 s.tabs.length k2, .int .i64 s.sy, .int .i64 s.sx, .int .u16 (s.sattr : Int), .bool s.auto, .bool s.shown, .bool s.alt, .slice A3 s.other.length k3, .int .i64 s.oy, .int .i64 s.ox, .int .i64 (s.p.mode : Int), .int .u8 (s.p.priv : Int), .slice A4 s.p.params.length k4, .slice A5 s.p.inter.length k5, .slice A6 s.p.utf.length k6] 32) (.cells #[.int .i64 0, .int .i64 0, .slice none 0 0, .int .i64 0, .int .i64 0, .bool false, .int .u16 0, .int .i64 0, .int .i64 0, .slice none 0 0, .int .i64 0, .int .i64 0, .int .u16 0, .bool false, .bool false, .bool false, .slice none 0 0, .int .i64 0, .int .i64 0, .int .i64 0, .int .u8 0, .slice none 0 0, .slice none 0 0, .slice none 0 0] 32)
    have HC := Lib.hid (HS.out.1.cs' HSS.out h2.1 (Nat.le_refl _))
    have H2 := Lib.hid h2
    clear h2
    go_enter Try.func62, Try.ntmps62
    go_upto_region 6 with fail
    ((with_reducible refine (Up_any _ s.cells s.cols s.top s.bottom 1 _ HC.out (by omega)).mono ?_); rintro e w4 ⟨v4, rfl, o4, b4⟩; have hb4 : Below (w.heap.size + 1 + 1) _ w4 := (by rw [← H2.out.2]; exact b4); obtain ⟨k0, k1⟩ := two_keptB hb4; obtain ⟨c2, f2⟩ := cellR k0 2 rfl; have K0 := Lib.hid k0; have K1 := Lib.hid k1; rw [H2.out.2] at o4; have O4 := Lib.hid o4; have B4 := Lib.hid (H2.out.1.trans (hb4.mono (by omega))); have Z4 := b4.size; rw [H2.out.2] at Z4; clear o4 b4 hb4 k0 k1)
    obtain ⟨A7, k7, rfl, p7, q7⟩ := O4.out.cs.form
    go_upto_region 6 with fail
    refine wp_region_lit ?_
    refine wpl_loadS rfl (.tmp 1) rfl rfl ((heap_setCell_same _ _ 2 _ _ _ K0.out).trans rfl) rfl ?_
    refine wpl_storeS rfl (.tmp 2) (.tmp 29) rfl rfl rfl ((heap_setCell_other _ _ _ _ (by simp)).trans K1.out) rfl rfl (all24 rfl rfl rfl rfl rfl rfl rfl rfl rfl rfl rfl rfl rfl rfl rfl rfl rfl rfl rfl rfl rfl rfl rfl rfl) ?_
    go_wp2
    refine scEndC (w.heap.size + 1) 2 Try.results62 ?_ ?_ ((heap_setCell_other _ _ _ _ (by simp)).trans K1.out) (by omega) (B4.out.setCell (by simp) _) HSS.out HS.out ?_ ?_ ?_ (w.heap.size + 1 + 1) (by omega) O4.out (fun b hb => heap_setCell_other _ _ _ _ (by simp; omega)) (by simp)
    all_goals rfl
  · have hb1 : (s.y == s.bottom) = false := by simpa using hb
    by_cases hb2 : s.y < s.rows - 1
    · have e : downS s = { s with wrap := false, y := s.y + 1 } := by unfold downS; rw [if_neg hb, if_pos hb2]
      rw [e]
      clear e
      go_enter Try.func62, Try.ntmps62
      go_upto_region 6 with fail
      refine wp_region_lit ?_
      refine wpl_loadS rfl (.tmp 1) rfl rfl (heap_a1 w _ _) rfl ?_
      refine wpl_storeS rfl (.tmp 2) (.tmp 29) rfl rfl rfl (heap_a2 w _ _) rfl rfl (all24 rfl rfl rfl rfl rfl rfl rfl rfl rfl rfl rfl rfl rfl rfl rfl rfl rfl rfl rfl rfl rfl rfl rfl rfl) ?_
      go_wp2
      refine scEnd (w.heap.size + 1) 2 Try.results62 ?_ ?_ (heap_a2 w _ _) (by omega) (two_new w _ _).1 HSS.out (HS.out.like ?_ ?_ ?_ ?_)
      all_goals rfl
    · have hb3 : decide (s.y < s.rows - 1) = false := by simpa using hb2
      have e : downS s = { s with wrap := false } := by unfold downS; rw [if_neg hb, if_neg (by omega)]
      rw [e]
      clear e
      go_enter Try.func62, Try.ntmps62
      go_upto_region 6 with fail
      refine wp_region_lit ?_
      refine wpl_loadS rfl (.tmp 1) rfl rfl (heap_a1 w _ _) rfl ?_
      refine wpl_storeS rfl (.tmp 2) (.tmp 29) rfl rfl rfl (heap_a2 w _ _) rfl rfl (all24 rfl rfl rfl rfl rfl rfl rfl rfl rfl rfl rfl rfl rfl rfl rfl rfl rfl rfl rfl rfl rfl rfl rfl rfl) ?_
      go_wp2
      refine scEnd (w.heap.size + 1) 2 Try.results62 ?_ ?_ (heap_a2 w _ _) (by omega) (two_new w _ _).1 HSS.out (HS.out.like ?_ ?_ ?_ ?_)
      all_goals rfl
end Go.Proofs.Ytejemcpkmfhenaa

namespace Go.Proofs.Ytejemcpkmfhenaa
open Go.RowKit
set_option linter.unusedVariables false
set_option linter.unusedSimpArgs false

theorem minmax_if (y m : Int) : (if m < (if y < 0 then 0 else y) then m else (if y < 0 then 0 else y)) = min (max y 0) m := by
  by_cases h : y < 0
  · simp only [h, if_true]
    split <;> omega
  · simp only [h, if_false]
    split <;> omega
set_option maxHeartbeats 2000000 in
set_option maxRecDepth 100000 in
theorem tor_any (v : Value) (s : Sc) (y x : Int) (S : Nat → Prop) (w : World) (hS : ∀ x, S x → x < w.heap.size) (h : SCV w S v s) (hr1 : 1 ≤ s.rows) (hr2 : s.rows ≤ 1000) (hc1 : 1 ≤ s.cols) (hc2 : s.cols ≤ 1000) : Calls Try.prog 64 #[v, .int .i64 y, .int .i64 x] w (ScPost S (toS s y x) w) := by
  have HSS := Lib.hid hS
  clear hS
  obtain ⟨vc, vt, vo, vp, vi, vu, rfl, hs⟩ := h
  have HS := Lib.hid hs
  obtain ⟨g1, g2, g3, g4, g5, g6⟩ := hs
  obtain ⟨A1, k1, rfl, p1, q1⟩ := g1.form
  obtain ⟨A2, k2, rfl, p2, q2⟩ := g2.form
  obtain ⟨A3, k3, rfl, p3, q3⟩ := g3.form
  obtain ⟨A4, k4, rfl, p4, q4⟩ := g4.form
  obtain ⟨A5, k5, rfl, p5, q5⟩ := g5.form
  obtain ⟨A6, k6, rfl, p6, q6⟩ := g6.form
  clear g1 g2 g3 g4 g5 g6
  unfold toS
  go_enter Try.func64, Try.ntmps64
  go_upto_region 2 with fail
  rw [minmax_if, minmax_if]
  generalize (if y < 0 then 0 else y) = qy
  generalize (if x < 0 then 0 else x) = qx
  refine wp_region_lit ?_
  refine wpl_loadS rfl (.tmp 3) rfl rfl (heap_a1 w _ _) rfl ?_
  refine wpl_storeS rfl (.tmp 6) (.tmp 22) rfl rfl rfl (heap_a2 w _ _) rfl rfl (all24 rfl rfl rfl rfl rfl rfl rfl rfl rfl rfl rfl rfl rfl rfl rfl rfl rfl rfl rfl rfl rfl rfl rfl rfl) ?_
  go_wp2
  refine scEnd (w.heap.size + 1) 6 Try.results64 ?_ ?_ (heap_a2 w _ _) (by omega) (two_new w _ _).1 HSS.out (HS.out.like ?_ ?_ ?_ ?_)
  all_goals rfl
theorem paramr_any (v : Value) (l : List Int) (i : Nat) (u : Int) (S : Nat → Prop) (w : World) (h : SL vI w S v l) (hl : l.length ≤ 1048576) (hi : i < 1000) : Calls Try.prog 63 #[v, .int .i64 (i : Int), .int .i64 u] w fun e w' => e = .returned (.int .i64 (paramL l i u)) ∧ w = w' := by
  obtain ⟨A, c, rfl, h1, h2⟩ := h.form
  have H := Lib.hid h
  clear h
  by_cases hlt : i < l.length
  · obtain ⟨x, hx⟩ : ∃ x, l[i]? = some x := ⟨_, List.getElem?_eq_getElem hlt⟩
    have hg : l.getD i 0 = x := by simp [List.getD, hx]
    obtain ⟨A', c', hv, _, _, h3⟩ := H.out
    simp only [Value.slice.injEq] at hv
    obtain ⟨ad, hA, _, hcell⟩ := h3 (by omega)
    have e1 := hcell i x hx
    rw [← hv.1] at hA
    subst hA
    unfold vI at e1
    have HG := Lib.hid hg
    clear hcell hg hx hv h3
    by_cases hz : x = 0
    · subst hz
      go_enter Try.func63, Try.ntmps63
      go_wp2
      go_ret
      exact ⟨by unfold paramL; rw [HG.out]; rfl, rfl⟩
    · have hz1 : (x == 0) = false := by simpa using hz
      go_enter Try.func63, Try.ntmps63
      go_wp2
      go_ret
      exact ⟨by unfold paramL; rw [HG.out, if_neg hz]; rfl, rfl⟩
  · have hg : l.getD i 0 = 0 := by simp [List.getD, List.getElem?_eq_none (show l.length ≤ i by omega)]
    have HG := Lib.hid hg
    clear hg
    go_enter Try.func63, Try.ntmps63
    go_wp2
    go_ret
    exact ⟨by unfold paramL; rw [HG.out]; rfl, rfl⟩
end Go.Proofs.Ytejemcpkmfhenaa

namespace Go.Proofs.Ytejemcpkmfhenaa
open Go.RowKit
set_option linter.unusedVariables false
set_option linter.unusedSimpArgs false

theorem Blank_any (rows cols : Int) (w : World) (h : sizeOk rows cols = true) : Calls Try.prog 25 #[.int .i64 rows, .int .i64 cols] w (CellsPost (blankL rows cols) w) := by
  unfold blankL
  rw [if_pos h]
  unfold sizeOk at h
  rw [decide_eq_true_eq] at h
  obtain ⟨r, rfl⟩ : ∃ r : Nat, rows = r := ⟨rows.toNat, by omega⟩
  obtain ⟨c, rfl⟩ : ∃ c : Nat, cols = c := ⟨cols.toNat, by omega⟩
  simp only [Int.toNat_natCast]
  exact Blank_yes r c w (by omega) (by omega) (by omega) (by omega)
theorem sizeOk_mk {rows cols : Int} (h1 : 1 ≤ rows) (h2 : rows ≤ 1000) (h3 : 1 ≤ cols) (h4 : cols ≤ 1000) : sizeOk rows cols = true := by
  unfold sizeOk
  rw [decide_eq_true_eq]
  exact ⟨h1, h2, h3, h4⟩
set_option maxHeartbeats 2000000 in
set_option maxRecDepth 100000 in
theorem moder_7 (v : Value) (s : Sc) (k : Int) (on : Bool) (S : Nat → Prop) (w : World) (hS : ∀ x, S x → x < w.heap.size) (h : SCV w S v s) (hk : k = 7) : Calls Try.prog 54 #[v, .int .i64 k, .bool on] w (ScPost S { s with auto := on } w) := by
  have HSS := Lib.hid hS
  clear hS
  obtain ⟨vc, vt, vo, vp, vi, vu, rfl, hs⟩ := h
  have HS := Lib.hid hs
  obtain ⟨g1, g2, g3, g4, g5, g6⟩ := hs
  obtain ⟨A1, k1, rfl, p1, q1⟩ := g1.form
  obtain ⟨A2, k2, rfl, p2, q2⟩ := g2.form
  obtain ⟨A3, k3, rfl, p3, q3⟩ := g3.form
  obtain ⟨A4, k4, rfl, p4, q4⟩ := g4.form
  obtain ⟨A5, k5, rfl, p5, q5⟩ := g5.form
  obtain ⟨A6, k6, rfl, p6, q6⟩ := g6.form
  clear g1 g2 g3 g4 g5 g6
  subst hk
  go_enter Try.func54, Try.ntmps54
  go_upto_region 11 with fail
  refine wp_region_lit ?_
  refine wpl_loadS rfl (.tmp 3) rfl rfl (heap_a1 w _ _) rfl ?_
  refine wpl_storeS rfl (.tmp 6) (.tmp 70) rfl rfl rfl (heap_a2 w _ _) rfl rfl (all24 rfl rfl rfl rfl rfl rfl rfl rfl rfl rfl rfl rfl rfl rfl rfl rfl rfl rfl rfl rfl rfl rfl rfl rfl) ?_
  go_wp2
  refine scEnd (w.heap.size + 1) 6 Try.results54 ?_ ?_ (heap_a2 w _ _) (by omega) (two_new w _ _).1 HSS.out (HS.out.like ?_ ?_ ?_ ?_)
  all_goals rfl
set_option maxHeartbeats 2000000 in
set_option maxRecDepth 100000 in
theorem moder_25 (v : Value) (s : Sc) (k : Int) (on : Bool) (S : Nat → Prop) (w : World) (hS : ∀ x, S x → x < w.heap.size) (h : SCV w S v s) (hk : k = 25) : Calls Try.prog 54 #[v, .int .i64 k, .bool on] w (ScPost S { s with shown := on } w) := by
  have HSS := Lib.hid hS
  clear hS
  obtain ⟨vc, vt, vo, vp, vi, vu, rfl, hs⟩ := h
  have HS := Lib.hid hs
  obtain ⟨g1, g2, g3, g4, g5, g6⟩ := hs
  obtain ⟨A1, k1, rfl, p1, q1⟩ := g1.form
  obtain ⟨A2, k2, rfl, p2, q2⟩ := g2.form
  obtain ⟨A3, k3, rfl, p3, q3⟩ := g3.form
  obtain ⟨A4, k4, rfl, p4, q4⟩ := g4.form
  obtain ⟨A5, k5, rfl, p5, q5⟩ := g5.form
  obtain ⟨A6, k6, rfl, p6, q6⟩ := g6.form
  clear g1 g2 g3 g4 g5 g6
  subst hk
  go_enter Try.func54, Try.ntmps54
  go_upto_region 11 with fail
  refine wp_region_lit ?_
  refine wpl_loadS rfl (.tmp 3) rfl rfl (heap_a1 w _ _) rfl ?_
  refine wpl_storeS rfl (.tmp 6) (.tmp 70) rfl rfl rfl (heap_a2 w _ _) rfl rfl (all24 rfl rfl rfl rfl rfl rfl rfl rfl rfl rfl rfl rfl rfl rfl rfl rfl rfl rfl rfl rfl rfl rfl rfl rfl) ?_
  go_wp2
  refine scEnd (w.heap.size + 1) 6 Try.results54 ?_ ?_ (heap_a2 w _ _) (by omega) (two_new w _ _).1 HSS.out (HS.out.like ?_ ?_ ?_ ?_)
  all_goals rfl
set_option maxHeartbeats 2000000 in
set_option maxRecDepth 100000 in
theorem moder_no (v : Value) (s : Sc) (k : Int) (on : Bool) (S : Nat → Prop) (w : World) (hS : ∀ x, S x → x < w.heap.size) (h : SCV w S v s) (k7 : ¬ k = 7) (k25 : ¬ k = 25) (k1049 : ¬ k = 1049) : Calls Try.prog 54 #[v, .int .i64 k, .bool on] w (ScPost S s w) := by
  have HSS := Lib.hid hS
  clear hS
  obtain ⟨vc, vt, vo, vp, vi, vu, rfl, hs⟩ := h
  have HS := Lib.hid hs
  obtain ⟨g1, g2, g3, g4, g5, g6⟩ := hs
  obtain ⟨A1, k1, rfl, p1, q1⟩ := g1.form
  obtain ⟨A2, k2, rfl, p2, q2⟩ := g2.form
  obtain ⟨A3, k3, rfl, p3, q3⟩ := g3.form
  obtain ⟨A4, k4, rfl, p4, q4⟩ := g4.form
  obtain ⟨A5, k5, rfl, p5, q5⟩ := g5.form
  obtain ⟨A6, k6, rfl, p6, q6⟩ := g6.form
  clear g1 g2 g3 g4 g5 g6
  have n1 : (k == 7) = false := by simpa using k7
  have n2 : (k == 25) = false := by simpa using k25
  have n3 : (k == 1049) = false := by simpa using k1049
  go_enter Try.func54, Try.ntmps54
  go_upto_region 11 with fail
  refine wp_region_lit ?_
  refine wpl_loadS rfl (.tmp 3) rfl rfl (heap_a1 w _ _) rfl ?_
  refine wpl_storeS rfl (.tmp 6) (.tmp 70) rfl rfl rfl (heap_a2 w _ _) rfl rfl (all24 rfl rfl rfl rfl rfl rfl rfl rfl rfl rfl rfl rfl rfl rfl rfl rfl rfl rfl rfl rfl rfl rfl rfl rfl) ?_
  go_wp2
  refine scEnd (w.heap.size + 1) 6 Try.results54 ?_ ?_ (heap_a2 w _ _) (by omega) (two_new w _ _).1 HSS.out (HS.out.like ?_ ?_ ?_ ?_)
  all_goals rfl
set_option maxHeartbeats 2000000 in
set_option maxRecDepth 100000 in
theorem moder_same_true (v : Value) (s : Sc) (k : Int) (on : Bool) (S : Nat → Prop) (w : World) (hS : ∀ x, S x → x < w.heap.size) (h : SCV w S v s) (hk : k = 1049) (ho : on = true) (ha : s.alt = true) : Calls Try.prog 54 #[v, .int .i64 k, .bool on] w (ScPost S s w) := by
  have HSS := Lib.hid hS
  clear hS
  obtain ⟨vc, vt, vo, vp, vi, vu, rfl, hs⟩ := h
  have HS := Lib.hid hs
  obtain ⟨g1, g2, g3, g4, g5, g6⟩ := hs
  obtain ⟨A1, k1, rfl, p1, q1⟩ := g1.form
  obtain ⟨A2, k2, rfl, p2, q2⟩ := g2.form
  obtain ⟨A3, k3, rfl, p3, q3⟩ := g3.form
  obtain ⟨A4, k4, rfl, p4, q4⟩ := g4.form
  obtain ⟨A5, k5, rfl, p5, q5⟩ := g5.form
  obtain ⟨A6, k6, rfl, p6, q6⟩ := g6.form
  clear g1 g2 g3 g4 g5 g6
  subst hk ho
  have ha2 := ha
  clear ha
  go_enter Try.func54, Try.ntmps54
  go_upto_region 11 with fail
  refine wp_region_lit ?_
  refine wpl_loadS rfl (.tmp 3) rfl rfl (heap_a1 w _ _) rfl ?_
  refine wpl_storeS rfl (.tmp 6) (.tmp 70) rfl rfl rfl (heap_a2 w _ _) rfl rfl (all24 rfl rfl rfl rfl rfl rfl rfl rfl rfl rfl rfl rfl rfl rfl rfl rfl rfl rfl rfl rfl rfl rfl rfl rfl) ?_
  go_wp2
  refine scEnd (w.heap.size + 1) 6 Try.results54 ?_ ?_ (heap_a2 w _ _) (by omega) (two_new w _ _).1 HSS.out (HS.out.like ?_ ?_ ?_ ?_)
  all_goals rfl
set_option maxHeartbeats 2000000 in
set_option maxRecDepth 100000 in
theorem moder_same_false (v : Value) (s : Sc) (k : Int) (on : Bool) (S : Nat → Prop) (w : World) (hS : ∀ x, S x → x < w.heap.size) (h : SCV w S v s) (hk : k = 1049) (ho : on = false) (ha : s.alt = false) : Calls Try.prog 54 #[v, .int .i64 k, .bool on] w (ScPost S s w) := by
  have HSS := Lib.hid hS
  clear hS
  obtain ⟨vc, vt, vo, vp, vi, vu, rfl, hs⟩ := h
  have HS := Lib.hid hs
  obtain ⟨g1, g2, g3, g4, g5, g6⟩ := hs
  obtain ⟨A1, k1, rfl, p1, q1⟩ := g1.form
  obtain ⟨A2, k2, rfl, p2, q2⟩ := g2.form
  obtain ⟨A3, k3, rfl, p3, q3⟩ := g3.form
  obtain ⟨A4, k4, rfl, p4, q4⟩ := g4.form
  obtain ⟨A5, k5, rfl, p5, q5⟩ := g5.form
  obtain ⟨A6, k6, rfl, p6, q6⟩ := g6.form
  clear g1 g2 g3 g4 g5 g6
  subst hk ho
  have ha2 := ha
  clear ha
  go_enter Try.func54, Try.ntmps54
  go_upto_region 11 with fail
  refine wp_region_lit ?_
  refine wpl_loadS rfl (.tmp 3) rfl rfl (heap_a1 w _ _) rfl ?_
  refine wpl_storeS rfl (.tmp 6) (.tmp 70) rfl rfl rfl (heap_a2 w _ _) rfl rfl (all24 rfl rfl rfl rfl rfl rfl rfl rfl rfl rfl rfl rfl rfl rfl rfl rfl rfl rfl rfl rfl rfl rfl rfl rfl) ?_
  go_wp2
  refine scEnd (w.heap.size + 1) 6 Try.results54 ?_ ?_ (heap_a2 w _ _) (by omega) (two_new w _ _).1 HSS.out (HS.out.like ?_ ?_ ?_ ?_)
  all_goals rfl
set_option maxHeartbeats 2000000 in
set_option maxRecDepth 100000 in
theorem moder_off (v : Value) (s : Sc) (k : Int) (on : Bool) (S : Nat → Prop) (w : World) (hS : ∀ x, S x → x < w.heap.size) (h : SCV w S v s) (hk : k = 1049) (ho : on = false) (ha : s.alt = true) : Calls Try.prog 54 #[v, .int .i64 k, .bool on] w (ScPost S { s with cells := s.other, y := s.oy, x := s.ox, alt := false, wrap := false, other := [], oy := 0, ox := 0 } w) := by
  have HSS := Lib.hid hS
  clear hS
  obtain ⟨vc, vt, vo, vp, vi, vu, rfl, hs⟩ := h
  have HS := Lib.hid hs
  obtain ⟨g1, g2, g3, g4, g5, g6⟩ := hs
  obtain ⟨A1, k1, rfl, p1, q1⟩ := g1.form
  obtain ⟨A2, k2, rfl, p2, q2⟩ := g2.form
  obtain ⟨A3, k3, rfl, p3, q3⟩ := g3.form
  obtain ⟨A4, k4, rfl, p4, q4⟩ := g4.form
  obtain ⟨A5, k5, rfl, p5, q5⟩ := g5.form
  obtain ⟨A6, k6, rfl, p6, q6⟩ := g6.form
  clear g1 g2 g3 g4 g5 g6
  subst hk ho
  go_enter Try.func54, Try.ntmps54
  go_upto_region 11 with fail
  refine wp_region_lit ?_
  refine wpl_loadS rfl (.tmp 3) rfl rfl (heap_a1 w _ _) rfl ?_
  refine wpl_storeS rfl (.tmp 6) (.tmp 70) rfl rfl rfl (heap_a2 w _ _) rfl rfl (all24 rfl rfl rfl rfl rfl rfl rfl rfl rfl rfl rfl rfl rfl rfl rfl rfl rfl rfl rfl rfl rfl rfl rfl rfl) ?_
  go_wp2
  refine scEnd (w.heap.size + 1) 6 Try.results54 ?_ ?_ (heap_a2 w _ _) (by omega) (two_new w _ _).1 HSS.out (⟨HS.out.2.2.1, HS.out.2.1, CL.nil _ _, HS.out.2.2.2⟩)
  all_goals rfl
set_option maxHeartbeats 2000000 in
set_option maxRecDepth 100000 in
theorem moder_on (v : Value) (s : Sc) (k : Int) (on : Bool) (S : Nat → Prop) (w : World) (hS : ∀ x, S x → x < w.heap.size) (h : SCV w S v s) (hk : k = 1049) (ho : on = true) (ha : s.alt = false) (hz : sizeOk s.rows s.cols = true) : Calls Try.prog 54 #[v, .int .i64 k, .bool on] w (ScPost S { s with other := s.cells, oy := s.y, ox := s.x, alt := true, wrap := false, cells := blankL s.rows s.cols } w) := by
  have HSS := Lib.hid hS
  clear hS
  obtain ⟨vc, vt, vo, vp, vi, vu, rfl, hs⟩ := h
  have HS := Lib.hid hs
  obtain ⟨g1, g2, g3, g4, g5, g6⟩ := hs
  obtain ⟨A1, k1, rfl, p1, q1⟩ := g1.form
  obtain ⟨A2, k2, rfl, p2, q2⟩ := g2.form
  obtain ⟨A3, k3, rfl, p3, q3⟩ := g3.form
  obtain ⟨A4, k4, rfl, p4, q4⟩ := g4.form
  obtain ⟨A5, k5, rfl, p5, q5⟩ := g5.form
  obtain ⟨A6, k6, rfl, p6, q6⟩ := g6.form
  clear g1 g2 g3 g4 g5 g6
  subst hk ho
  have h2 := two_new w (.cells #[.int .i64 s.rows, .int .i64 s.cols, .slice A1 s.cells.length k1, .int .i64 s.y, .int .i64 s.x, .bool false, .int .u16 (s.attr : Int), .int .i64 s.top, .int .i64 s.bottom, .slice A2 s.tabs.length k2, .int .i64 s.sy, .int .i64 s.sx, .int .u16 (s.sattr : Int), .bool s.auto, .bool s.shown, .bool true, .slice A1 s.cells.length k1, .int .i64 s.y, .int .i64 s.x, .int .i64 (s.p.mode : Int), .int .u8 (s.p.priv : Int), .slice A4 s.p.params.length k4, .slice A5 s.p.inter.length k5, .slice A6 s.p.utf.length k6] 32) (.cells #[.int .i64 0, .int .i64 0, .slice none 0 0, .int .i64 0, .int .i64 0, .bool false, .int .u16 0, .int .i64 0, .int .i64 0, .slice none 0 0, .int .i64 0, .int .i64 0, .int .u16 0, .bool false, .bool false, .bool false, .slice none 0 0, .int .i64 0, .int .i64 0, .int .i64 0, .int .u8 0, .slice none 0 0, .slice none 0 0, .slice none 0 0] 32)
  have HZ := Lib.hid hz
  have H2 := Lib.hid h2
  have HS1 : Hid (SSl w S { s with other := s.cells, oy := s.y, ox := s.x, alt := true, wrap := false } (.slice A1 s.cells.length k1) (.slice A2 s.tabs.length k2) (.slice A1 s.cells.length k1) (.slice A4 s.p.params.length k4) (.slice A5 s.p.inter.length k5) (.slice A6 s.p.utf.length k6)) := ⟨HS.out.1, HS.out.2.1, HS.out.1, HS.out.2.2.2⟩
  have HS0 := HS
  clear HS
  have HS := HS1
  clear h2 hz
  go_enter Try.func54, Try.ntmps54
  go_upto_region 11 with fail
  ((with_reducible refine (Blank_any s.rows s.cols _ HZ.out).mono ?_); rintro e w4 ⟨v4, rfl, o4, b4⟩; have hb4 : Below (w.heap.size + 1 + 1) _ w4 := (by rw [← H2.out.2]; exact b4); obtain ⟨k0, k1⟩ := two_keptB hb4; obtain ⟨c2, f2⟩ := cellR k0 2 rfl; have K0 := Lib.hid k0; have K1 := Lib.hid k1; rw [H2.out.2] at o4; have O4 := Lib.hid o4; have B4 := Lib.hid (H2.out.1.trans (hb4.mono (by omega))); have Z4 := b4.size; rw [H2.out.2] at Z4; clear o4 b4 hb4 k0 k1)
  obtain ⟨A7, k7, rfl, p7, q7⟩ := O4.out.cs.form
  go_upto_region 11 with fail
  refine wp_region_lit ?_
  refine wpl_loadS rfl (.tmp 3) rfl rfl ((heap_setCell_same _ _ 2 _ _ _ K0.out).trans rfl) rfl ?_
  refine wpl_storeS rfl (.tmp 6) (.tmp 70) rfl rfl rfl ((heap_setCell_other _ _ _ _ (by simp)).trans K1.out) rfl rfl (all24 rfl rfl rfl rfl rfl rfl rfl rfl rfl rfl rfl rfl rfl rfl rfl rfl rfl rfl rfl rfl rfl rfl rfl rfl) ?_
  go_wp2
  refine scEndC (w.heap.size + 1) 6 Try.results54 ?_ ?_ ((heap_setCell_other _ _ _ _ (by simp)).trans K1.out) (by omega) (B4.out.setCell (by simp) _) HSS.out HS.out ?_ ?_ ?_ (w.heap.size + 1 + 1) (by omega) O4.out (fun b hb => heap_setCell_other _ _ _ _ (by simp; omega)) (by simp)
  all_goals rfl
theorem moder_any (v : Value) (s : Sc) (k : Int) (on : Bool) (S : Nat → Prop) (w : World) (hS : ∀ x, S x → x < w.heap.size) (h : SCV w S v s) (hz : sizeOk s.rows s.cols = true) : Calls Try.prog 54 #[v, .int .i64 k, .bool on] w (ScPost S (modeS s k on) w) := by
  unfold modeS
  by_cases h7 : k = 7
  · rw [if_pos h7]; exact moder_7 v s k on S w hS h h7
  rw [if_neg h7]
  by_cases h25 : k = 25
  · rw [if_pos h25]; exact moder_25 v s k on S w hS h h25
  rw [if_neg h25]
  by_cases hk : k = 1049
  · cases ho : on with
    | true =>
      cases ha : s.alt with
      | true => rw [if_neg (by simp), if_neg (by simp)]; exact moder_same_true v s k true S w hS h hk rfl ha
      | false => rw [if_pos ⟨hk, rfl, rfl⟩]; exact moder_on v s k true S w hS h hk rfl ha hz
    | false =>
      cases ha : s.alt with
      | true => rw [if_neg (by simp), if_pos ⟨hk, rfl, rfl⟩]; exact moder_off v s k false S w hS h hk rfl ha
      | false => rw [if_neg (by simp), if_neg (by simp)]; exact moder_same_false v s k false S w hS h hk rfl ha
  · rw [if_neg (by simp [hk]), if_neg (by simp [hk])]
    exact moder_no v s k on S w hS h h7 h25 hk
end Go.Proofs.Ytejemcpkmfhenaa

namespace Go.Proofs.Ytejemcpkmfhenaa
open Go.RowKit
set_option linter.unusedVariables false
set_option linter.unusedSimpArgs false

set_option maxHeartbeats 2000000 in
set_option maxRecDepth 100000 in
theorem controlr_down (v : Value) (s : Sc) (b : Int) (r c : Nat) (S : Nat → Prop) (w : World) (hS : ∀ x, S x → x < w.heap.size) (h : SCV w S v s) (hi : ScIn s r c) (hb : b = 10 ∨ b = 11 ∨ b = 12) : Calls Try.prog 52 #[v, .int .u8 b] w (ScPost S (downS s) w) := by
  have HSS := Lib.hid hS
  clear hS
  obtain ⟨vc, vt, vo, vp, vi, vu, rfl, hs⟩ := h
  have HS := Lib.hid hs
  obtain ⟨g1, g2, g3, g4, g5, g6⟩ := hs
  obtain ⟨A1, k1, rfl, p1, q1⟩ := g1.form
  obtain ⟨A2, k2, rfl, p2, q2⟩ := g2.form
  obtain ⟨A3, k3, rfl, p3, q3⟩ := g3.form
  obtain ⟨A4, k4, rfl, p4, q4⟩ := g4.form
  obtain ⟨A5, k5, rfl, p5, q5⟩ := g5.form
  obtain ⟨A6, k6, rfl, p6, q6⟩ := g6.form
  clear g1 g2 g3 g4 g5 g6
  have HI := Lib.hid hi
  have x0 := hi.x0
  have x1 := hi.x1
  have hcl := hi.cols
  have c2 := hi.g.c2
  have c3 : s.cols ≤ 1000 := by omega
  have c4 : s.x < s.cols := by omega
  clear hi hcl
  have h2 := two_new w (.cells #[.int .i64 s.rows, .int .i64 s.cols, .slice A1 s.cells.length k1, .int .i64 s.y, .int .i64 s.x, .bool s.wrap, .int .u16 (s.attr : Int), .int .i64 s.top, .int .i64 s.bottom, .slice A2 s.tabs.length k2, .int .i64 s.sy, .int .i64 s.sx, .int .u16 (s.sattr : Int), .bool s.auto, .bool s.shown, .bool s.alt, .slice A3 s.other.length k3, .int .i64 s.oy, .int .i64 s.ox, .int .i64 (s.p.mode : Int), .int .u8 (s.p.priv : Int), .slice A4 s.p.params.length k4, .slice A5 s.p.inter.length k5, .slice A6 s.p.utf.length k6] 32) (.cells #[.int .i64 0, .int .i64 0, .slice none 0 0, .int .i64 0, .int .i64 0, .bool false, .int .u16 0, .int .i64 0, .int .i64 0, .slice none 0 0, .int .i64 0, .int .i64 0, .int .u16 0, .bool false, .bool false, .bool false, .slice none 0 0, .int .i64 0, .int .i64 0, .int .i64 0, .int .u8 0, .slice none 0 0, .slice none 0 0, .slice none 0 0] 32)
  have HS2 : Hid (∀ x, S x → x < _) := fun x hx => Nat.lt_of_lt_of_le (HSS.out x hx) h2.1.size
  have H2 := Lib.hid h2
  have HV := Lib.hid (show SCV _ S (.agg (vS s (.slice A1 s.cells.length k1) (.slice A2 s.tabs.length k2) (.slice A3 s.other.length k3) (.slice A4 s.p.params.length k4) (.slice A5 s.p.inter.length k5) (.slice A6 s.p.utf.length k6))) s from ⟨_, _, _, _, _, _, rfl, HS.out.below HSS.out h2.1⟩)
  clear h2
  rcases hb with rfl | rfl | rfl
  all_goals
    go_enter Try.func52, Try.ntmps52
    go_upto_region 13 with fail
    refine wp_region_lit ?_
    refine wpl_loadS rfl (.tmp 2) rfl rfl (heap_a1 w _ _) rfl ?_
    go_wp2_with fail
    ((with_reducible refine (downr_any _ s r c S _ HS2.out HV.out HI.out).mono ?_); rintro e w4 ⟨v4, rfl, hv4, b4⟩)
    have hb4 : Below (w.heap.size + 1 + 1) _ w4 := (by rw [← H2.out.2]; exact b4)
    obtain ⟨e0, e1⟩ := two_keptB hb4
    have z4 := b4.size
    rw [H2.out.2] at z4
    obtain ⟨uc, ut, uo, up, ui, uu, rfl, hs4⟩ := hv4
    rename_i K hK
    refine hK _ _ ?_
    refine wpl_storeS rfl (.tmp 4) (.tmp 51) rfl rfl rfl e1 rfl rfl hs4.one ?_
    go_wp2
    refine scEndV (w.heap.size + 1) 4 Try.results52 rfl rfl e1 (by omega) (H2.out.1.trans (hb4.mono (by omega))) HSS.out hs4 (fun x hx => ?_)
    rcases hx with h | h
    · exact .inl h
    · have := h.1
      rw [H2.out.2] at this
      exact .inr ⟨by omega, h.2⟩
theorem max_if (x : Int) : (if x < 0 then 0 else x) = max x 0 := by split <;> omega
set_option maxHeartbeats 2000000 in
set_option maxRecDepth 100000 in
theorem controlr_8 (v : Value) (s : Sc) (b : Int) (r c : Nat) (S : Nat → Prop) (w : World) (hS : ∀ x, S x → x < w.heap.size) (h : SCV w S v s) (hi : ScIn s r c) (hb : b = 8) : Calls Try.prog 52 #[v, .int .u8 b] w (ScPost S { s with x := max (s.x - 1) 0, wrap := false } w) := by
  have HSS := Lib.hid hS
  clear hS
  obtain ⟨vc, vt, vo, vp, vi, vu, rfl, hs⟩ := h
  have HS := Lib.hid hs
  obtain ⟨g1, g2, g3, g4, g5, g6⟩ := hs
  obtain ⟨A1, k1, rfl, p1, q1⟩ := g1.form
  obtain ⟨A2, k2, rfl, p2, q2⟩ := g2.form
  obtain ⟨A3, k3, rfl, p3, q3⟩ := g3.form
  obtain ⟨A4, k4, rfl, p4, q4⟩ := g4.form
  obtain ⟨A5, k5, rfl, p5, q5⟩ := g5.form
  obtain ⟨A6, k6, rfl, p6, q6⟩ := g6.form
  clear g1 g2 g3 g4 g5 g6
  have HI := Lib.hid hi
  have x0 := hi.x0
  have x1 := hi.x1
  have hcl := hi.cols
  have c2 := hi.g.c2
  have c3 : s.cols ≤ 1000 := by omega
  have c4 : s.x < s.cols := by omega
  clear hi hcl
  subst hb
  go_enter Try.func52, Try.ntmps52
  go_upto_region 16 with fail
  rw [max_if]
  refine wp_region_lit ?_
  refine wpl_loadS rfl (.tmp 2) rfl rfl (heap_a1 w _ _) rfl ?_
  refine wpl_storeS rfl (.tmp 4) (.tmp 56) rfl rfl rfl (heap_a2 w _ _) rfl rfl (all24 rfl rfl rfl rfl rfl rfl rfl rfl rfl rfl rfl rfl rfl rfl rfl rfl rfl rfl rfl rfl rfl rfl rfl rfl) ?_
  go_wp2
  refine scEnd (w.heap.size + 1) 4 Try.results52 ?_ ?_ (heap_a2 w _ _) (by omega) (two_new w _ _).1 HSS.out (HS.out.like ?_ ?_ ?_ ?_)
  all_goals rfl
set_option maxHeartbeats 2000000 in
set_option maxRecDepth 100000 in
theorem controlr_13 (v : Value) (s : Sc) (b : Int) (r c : Nat) (S : Nat → Prop) (w : World) (hS : ∀ x, S x → x < w.heap.size) (h : SCV w S v s) (hi : ScIn s r c) (hb : b = 13) : Calls Try.prog 52 #[v, .int .u8 b] w (ScPost S { s with x := 0, wrap := false } w) := by
  have HSS := Lib.hid hS
  clear hS
  obtain ⟨vc, vt, vo, vp, vi, vu, rfl, hs⟩ := h
  have HS := Lib.hid hs
  obtain ⟨g1, g2, g3, g4, g5, g6⟩ := hs
  obtain ⟨A1, k1, rfl, p1, q1⟩ := g1.form
  obtain ⟨A2, k2, rfl, p2, q2⟩ := g2.form
  obtain ⟨A3, k3, rfl, p3, q3⟩ := g3.form
  obtain ⟨A4, k4, rfl, p4, q4⟩ := g4.form
  obtain ⟨A5, k5, rfl, p5, q5⟩ := g5.form
  obtain ⟨A6, k6, rfl, p6, q6⟩ := g6.form
  clear g1 g2 g3 g4 g5 g6
  have HI := Lib.hid hi
  have x0 := hi.x0
  have x1 := hi.x1
  have hcl := hi.cols
  have c2 := hi.g.c2
  have c3 : s.cols ≤ 1000 := by omega
  have c4 : s.x < s.cols := by omega
  clear hi hcl
  subst hb
  go_enter Try.func52, Try.ntmps52
  go_upto_region 16 with fail
  refine wp_region_lit ?_
  refine wpl_loadS rfl (.tmp 2) rfl rfl (heap_a1 w _ _) rfl ?_
  refine wpl_storeS rfl (.tmp 4) (.tmp 56) rfl rfl rfl (heap_a2 w _ _) rfl rfl (all24 rfl rfl rfl rfl rfl rfl rfl rfl rfl rfl rfl rfl rfl rfl rfl rfl rfl rfl rfl rfl rfl rfl rfl rfl) ?_
  go_wp2
  refine scEnd (w.heap.size + 1) 4 Try.results52 ?_ ?_ (heap_a2 w _ _) (by omega) (two_new w _ _).1 HSS.out (HS.out.like ?_ ?_ ?_ ?_)
  all_goals rfl
set_option maxHeartbeats 2000000 in
set_option maxRecDepth 100000 in
theorem controlr_no (v : Value) (s : Sc) (b : Int) (r c : Nat) (S : Nat → Prop) (w : World) (hS : ∀ x, S x → x < w.heap.size) (h : SCV w S v s) (hi : ScIn s r c) (hb : ¬ (b = 8 ∨ b = 9 ∨ b = 10 ∨ b = 11 ∨ b = 12 ∨ b = 13)) : Calls Try.prog 52 #[v, .int .u8 b] w (ScPost S s w) := by
  have HSS := Lib.hid hS
  clear hS
  obtain ⟨vc, vt, vo, vp, vi, vu, rfl, hs⟩ := h
  have HS := Lib.hid hs
  obtain ⟨g1, g2, g3, g4, g5, g6⟩ := hs
  obtain ⟨A1, k1, rfl, p1, q1⟩ := g1.form
  obtain ⟨A2, k2, rfl, p2, q2⟩ := g2.form
  obtain ⟨A3, k3, rfl, p3, q3⟩ := g3.form
  obtain ⟨A4, k4, rfl, p4, q4⟩ := g4.form
  obtain ⟨A5, k5, rfl, p5, q5⟩ := g5.form
  obtain ⟨A6, k6, rfl, p6, q6⟩ := g6.form
  clear g1 g2 g3 g4 g5 g6
  have HI := Lib.hid hi
  have x0 := hi.x0
  have x1 := hi.x1
  have hcl := hi.cols
  have c2 := hi.g.c2
  have c3 : s.cols ≤ 1000 := by omega
  have c4 : s.x < s.cols := by omega
  clear hi hcl
  have n8 : (b == 8) = false := by simp; omega
  have n9 : (b == 9) = false := by simp; omega
  have n10 : (b == 10) = false := by simp; omega
  have n11 : (b == 11) = false := by simp; omega
  have n12 : (b == 12) = false := by simp; omega
  have n13 : (b == 13) = false := by simp; omega
  clear hb
  go_enter Try.func52, Try.ntmps52
  go_upto_region 16 with fail
  refine wp_region_lit ?_
  refine wpl_loadS rfl (.tmp 2) rfl rfl (heap_a1 w _ _) rfl ?_
  refine wpl_storeS rfl (.tmp 4) (.tmp 56) rfl rfl rfl (heap_a2 w _ _) rfl rfl (all24 rfl rfl rfl rfl rfl rfl rfl rfl rfl rfl rfl rfl rfl rfl rfl rfl rfl rfl rfl rfl rfl rfl rfl rfl) ?_
  go_wp2
  refine scEnd (w.heap.size + 1) 4 Try.results52 ?_ ?_ (heap_a2 w _ _) (by omega) (two_new w _ _).1 HSS.out (HS.out.like ?_ ?_ ?_ ?_)
  all_goals rfl
theorem min_if (x m : Int) : (if m < x then m else x) = min x m := by split <;> omega
theorem SL.getT {w : World} {S : Nat → Prop} {A : Option Addr} {n c : Nat} {l : List Bool} (h : SL vT w S (.slice A n c) l) (k : Nat) (hk : k < l.length) : ∃ ad, A = some ad ∧ S ad.block ∧ w.cell? (ad.add k) = some (.bool (l.getD k true)) := by
  obtain ⟨A', c', hv, _, _, h3⟩ := h
  simp only [Value.slice.injEq] at hv
  obtain ⟨ad, hA, hb, hc⟩ := h3 (by omega)
  have hx : l[k]? = some (l.getD k true) := by simp [List.getD, List.getElem?_eq_getElem hk]
  exact ⟨ad, hv.1.trans hA, hb, hc k _ hx⟩
set_option maxHeartbeats 2000000 in
set_option maxRecDepth 100000 in
theorem controlr_9 (v : Value) (s : Sc) (b : Int) (r c : Nat) (S : Nat → Prop) (w : World) (hS : ∀ x, S x → x < w.heap.size) (h : SCV w S v s) (hi : ScIn s r c) (hb : b = 9) : Calls Try.prog 52 #[v, .int .u8 b] w (ScPost S { s with wrap := false, x := tabX s } w) := by
  have HSS := Lib.hid hS
  clear hS
  obtain ⟨vc, vt, vo, vp, vi, vu, rfl, hs⟩ := h
  have HS := Lib.hid hs
  obtain ⟨g1, g2, g3, g4, g5, g6⟩ := hs
  obtain ⟨A1, k1, rfl, p1, q1⟩ := g1.form
  obtain ⟨A2, k2, rfl, p2, q2⟩ := g2.form
  obtain ⟨A3, k3, rfl, p3, q3⟩ := g3.form
  obtain ⟨A4, k4, rfl, p4, q4⟩ := g4.form
  obtain ⟨A5, k5, rfl, p5, q5⟩ := g5.form
  obtain ⟨A6, k6, rfl, p6, q6⟩ := g6.form
  clear g1 g2 g3 g4 g5 g6
  have HI := Lib.hid hi
  have x0 := hi.x0
  have x1 := hi.x1
  have hcl := hi.cols
  have c2 := hi.g.c2
  have c3 : s.cols ≤ 1000 := by omega
  have c4 : s.x < s.cols := by omega
  have ht := hi.tabs
  have ht2 : (s.tabs.length : Int) = s.cols := by omega
  have HT := Lib.hid ht2
  clear hi hcl ht ht2
  subst hb
  unfold tabX
  obtain ⟨N, hN⟩ : ∃ N, N = nextTab s.tabs (s.cols - (s.x + 1)).toNat (s.x + 1).toNat := ⟨_, rfl⟩
  rw [← hN]
  have HN := Lib.hid hN
  obtain ⟨M, hM⟩ : ∃ M, M = min (N : Int) (s.cols - 1) := ⟨_, rfl⟩
  rw [← hM]
  have HM := Lib.hid hM
  clear hM
  obtain ⟨xx, hxx⟩ : ∃ xx : Nat, (xx : Int) = s.x + 1 := ⟨(s.x + 1).toNat, by omega⟩
  have HX := Lib.hid hxx
  clear hN hxx
  go_enter Try.func52, Try.ntmps52
  go_wp2
  go_loopg [21] (s.cols - (s.x + 1)).toNat (fun g s21 wx => ∃ x : Nat, (x : Int) + (g : Int) = s.cols ∧ s.x + 1 ≤ x ∧ nextTab s.tabs g x = N ∧ wx = (w.alloc (.cells #[.int .i64 s.rows, .int .i64 s.cols, .slice A1 s.cells.length k1, .int .i64 s.y, .int .i64 (x : Int), .bool false, .int .u16 (s.attr : Int), .int .i64 s.top, .int .i64 s.bottom, .slice A2 s.tabs.length k2, .int .i64 s.sy, .int .i64 s.sx, .int .u16 (s.sattr : Int), .bool s.auto, .bool s.shown, .bool s.alt, .slice A3 s.other.length k3, .int .i64 s.oy, .int .i64 s.ox, .int .i64 (s.p.mode : Int), .int .u8 (s.p.priv : Int), .slice A4 s.p.params.length k4, .slice A5 s.p.inter.length k5, .slice A6 s.p.utf.length k6] 32)).alloc (.cells #[.int .i64 0, .int .i64 0, .slice none 0 0, .int .i64 0, .int .i64 0, .bool false, .int .u16 0, .int .i64 0, .int .i64 0, .slice none 0 0, .int .i64 0, .int .i64 0, .int .u16 0, .bool false, .bool false, .bool false, .slice none 0 0, .int .i64 0, .int .i64 0, .int .i64 0, .int .u8 0, .slice none 0 0, .slice none 0 0, .slice none 0 0] 32))
  case atStart =>
    refine ⟨xx, by have := HX.out; omega, by have := HX.out; omega, ?_, ?_⟩
    · rw [HN.out, show (s.x + 1).toNat = xx by have := HX.out; omega]
    · rw [HX.out]
  case round =>
    obtain ⟨x, hxg, hx1, hnt, rfl⟩ := hrel
    have HNT := Lib.hid hnt
    clear hnt
    cases gk with
    | zero =>
      have hxc : (x : Int) = s.cols := by omega
      have hno : ¬ (x : Int) < s.cols := by omega
      have HXC := Lib.hid hxc
      clear hxc hxg
      go_upto_region 16 with fail
      have e : N = x := HNT.out.symm
      have e2 : s.cols - 1 = M := by have := HM.out; have := HXC.out; omega
      rw [e2]
      refine wp_region_lit ?_
      refine wpl_loadS rfl (.tmp 2) rfl rfl (heap_a1 w _ _) rfl ?_
      refine wpl_storeS rfl (.tmp 4) (.tmp 56) rfl rfl rfl (heap_a2 w _ _) rfl rfl (all24 rfl rfl rfl rfl rfl rfl rfl rfl rfl rfl rfl rfl rfl rfl rfl rfl rfl rfl rfl rfl rfl rfl rfl rfl) ?_
      go_wp2
      refine scEnd (w.heap.size + 1) 4 Try.results52 ?_ ?_ (heap_a2 w _ _) (by omega) (two_new w _ _).1 HSS.out (HS.out.like ?_ ?_ ?_ ?_)
      all_goals rfl
    | succ g =>
      have hlt : (x : Int) < s.cols := by omega
      have hxl : x < s.tabs.length := by have := HT.out; omega
      obtain ⟨ad, hA, hSb, e0⟩ := HS.out.2.1.getT x hxl
      subst hA
      have tb : (ad.add x).block < w.heap.size := by rw [block_add]; exact HSS.out _ hSb
      have tb2 : (ad.add x).block < w.heap.size + 1 := by omega
      have hs1 := HNT.out
      unfold nextTab at hs1
      cases ht : s.tabs.getD x true with
      | true =>
        rw [ht] at e0 hs1
        have e : N = x := by simpa using hs1.symm
        have e2 : (x : Int) = M := by have := HM.out; omega
        have E2 := Lib.hid e2
        clear hs1 e ht hxg e2
        go_upto_region 16 with fail
        rw [E2.out]
        refine wp_region_lit ?_
        refine wpl_loadS rfl (.tmp 2) rfl rfl (heap_a1 w _ _) rfl ?_
        refine wpl_storeS rfl (.tmp 4) (.tmp 56) rfl rfl rfl (heap_a2 w _ _) rfl rfl (all24 rfl rfl rfl rfl rfl rfl rfl rfl rfl rfl rfl rfl rfl rfl rfl rfl rfl rfl rfl rfl rfl rfl rfl rfl) ?_
        go_wp2
        refine scEnd (w.heap.size + 1) 4 Try.results52 ?_ ?_ (heap_a2 w _ _) (by omega) (two_new w _ _).1 HSS.out (HS.out.like ?_ ?_ ?_ ?_)
        all_goals rfl
      | false =>
        rw [ht] at e0 hs1
        have hs2 : nextTab s.tabs g (x + 1) = N := by simpa using hs1
        have HS1 := Lib.hid hs2
        clear hs2
        have HXG := Lib.hid hxg
        clear hs1 ht hxg
        go_wp2
        go_roundg g
        case measure => omega
        case rel => exact ⟨x + 1, by have := HXG.out; omega, by omega, HS1.out, by rw [show ((x + 1 : Nat) : Int) = (x : Int) + 1 by omega]⟩
theorem controlr_any (v : Value) (s : Sc) (b : Nat) (r c : Nat) (S : Nat → Prop) (w : World) (hS : ∀ x, S x → x < w.heap.size) (h : SCV w S v s) (hi : ScIn s r c) : Calls Try.prog 52 #[v, .int .u8 (b : Int)] w (ScPost S (controlS s b) w) := by
  unfold controlS
  by_cases h8 : b = 8
  · rw [if_pos h8]; exact controlr_8 v s b r c S w hS h hi (by omega)
  rw [if_neg h8]
  by_cases h9 : b = 9
  · rw [if_pos h9]; exact controlr_9 v s b r c S w hS h hi (by omega)
  rw [if_neg h9]
  by_cases hd : b = 10 ∨ b = 11 ∨ b = 12
  · rw [if_pos hd]; exact controlr_down v s b r c S w hS h hi (by omega)
  rw [if_neg hd]
  by_cases h13 : b = 13
  · rw [if_pos h13]; exact controlr_13 v s b r c S w hS h hi (by omega)
  rw [if_neg h13]
  exact controlr_no v s b r c S w hS h hi (by omega)
end Go.Proofs.Ytejemcpkmfhenaa

namespace Go.Proofs.Ytejemcpkmfhenaa
open Go.RowKit
set_option linter.unusedVariables false
set_option linter.unusedSimpArgs false

def NewPost (s : Sc) (w : World) (e : Ending) (w' : World) : Prop := ∃ v, e = .returned (.tuple #[v, .int .i64 0]) ∧ SCV w' (NewB w' w.heap.size) v s ∧ Below w.heap.size w w'
theorem run_eqlNil (w : World) (a : Addr) (n c : Nat) : (binOp .eql 22 (.slice (some a) n c) (.slice none 0 0)).run Try.prog w = .ok (.bool false) w := by
  have := run_equal_slice_nil w 22 42 (some a) n c Try.underlying22
  simp [binOp, this]
theorem run_eqlNil' (w : World) : (binOp .eql 22 (.slice none 0 0) (.slice none 0 0)).run Try.prog w = .ok (.bool true) w := by
  have := run_equal_slice_nil w 22 42 none 0 0 Try.underlying22
  simp [binOp, this]
def tabsUp (c x : Nat) : List Bool := (List.range c).map fun i => decide (i % 8 = 0 ∧ i < x)
theorem tabsUp_zero (c : Nat) : tabsUp c 0 = List.replicate c false := by
  apply List.ext_getElem?
  intro i
  by_cases h : i < c
  · simp [tabsUp, h]
  · simp [tabsUp, h]
theorem tabsUp_set (c x : Nat) (h8 : x % 8 = 0) : (tabsUp c x).set x true = tabsUp c (x + 8) := by
  apply List.ext_getElem?
  intro i
  rw [List.getElem?_set]
  by_cases h : i < c
  · by_cases e : x = i
    · subst e
      simp [tabsUp, h, h8]
    · rw [if_neg e]
      simp only [tabsUp, List.getElem?_map, List.getElem?_range h, Option.map_some]
      congr 1
      rw [decide_eq_decide]
      constructor
      · intro ⟨a, b⟩; exact ⟨a, by omega⟩
      · intro ⟨a, b⟩; exact ⟨a, by omega⟩
  · by_cases e : x = i
    · subst e
      simp [tabsUp, h]
    · rw [if_neg e]
      simp [tabsUp, h]
theorem tabsUp_all (c x : Nat) (h : c ≤ x) : tabsUp c x = newTabs c := by
  apply List.ext_getElem?
  intro i
  by_cases hi : i < c
  · simp only [tabsUp, newTabs, List.getElem?_map, List.getElem?_range hi, Option.map_some]
    congr 1
    rw [decide_eq_decide]
    constructor
    · intro ⟨a, b⟩; exact a
    · intro a; exact ⟨a, by omega⟩
  · simp [tabsUp, newTabs, hi]
def NewRel (c : Nat) (w4 W5 : World) (i : Value) (wr : World) : Prop :=
  ∃ x : Nat, x % 8 = 0 ∧ x < c + 8 ∧ i = .int .i64 (x : Int) ∧ OT wr w4.heap.size (.slice (some ⟨w4.heap.size, 0, none⟩) c c) (tabsUp c x) ∧ wr.heap.size = W5.heap.size ∧ (∀ b, b ≠ w4.heap.size → wr.heap[b]? = W5.heap[b]?) ∧ Below w4.heap.size W5 wr
theorem resultS2 {fn : Func} {p q : Tmp} (h : fn.results = #[.cell p 32, .tmp q]) {tmps : Array Value} {w : World} {g : Nat} {xs : Array Value} {u : Value} (ht : tmps.getD p undef = .pointer (some ⟨g, 0, none⟩)) (hu : tmps.getD q undef = u) (hg : w.heap[g]? = some (.cells xs 32)) (hn : xs.size = 24) :
    (results fn tmps).run Try.prog w = .ok (.tuple #[.agg xs, u]) w := by
  simp only [results, h]
  have := run_loadVar_row (P := Try.prog) w g _ 32 xs (0, 0) _ hg Try.underlying32 rfl (by rw [scrSize, hn])
  have ht2 : tmps[p]?.getD undef = .pointer (some ⟨g, 0, none⟩) := by simpa using ht
  have hu2 : tmps[q]?.getD undef = u := by simpa using hu
  simp [ht2, hu2, asAddr, this]
set_option maxHeartbeats 2000000 in
set_option maxRecDepth 100000 in
theorem Newr_yes (r c : Nat) (w : World) (r1 : 1 ≤ r) (r2 : r ≤ 1000) (c1 : 1 ≤ c) (c2 : c ≤ 1000) : Calls Try.prog 26 #[.int .i64 (r : Int), .int .i64 (c : Int)] w (NewPost (newS r c) w) := by
  have hrc := rc_le r2 c2
  have hpos : 1 ≤ r * c := Nat.mul_pos r1 c1
  have hmk := run_makeT c (by omega)
  go_enter Try.func26, Try.ntmps26
  go_upto_region 4 with fail
  (with_reducible refine (Blank_yes r c _ r1 r2 c1 c2).mono ?_); rintro e w4 ⟨v4, rfl, o4, b4⟩
  have h1 : (w.alloc (.cells #[.int .i64 0, .int .i64 0, .slice none 0 0, .int .i64 0, .int .i64 0, .bool false, .int .u16 0, .int .i64 0, .int .i64 0, .slice none 0 0, .int .i64 0, .int .i64 0, .int .u16 0, .bool false, .bool false, .bool false, .slice none 0 0, .int .i64 0, .int .i64 0, .int .i64 0, .int .u8 0, .slice none 0 0, .slice none 0 0, .slice none 0 0] 32)).heap.size = w.heap.size + 1 := by simp
  rw [h1] at o4 b4
  obtain ⟨gb, cap, rfl, hg1, hg2, hg3, hg4⟩ := o4.open_ (by rw [List.length_replicate]; omega)
  have hnil := run_eqlNil w4 ⟨gb, 0, none⟩ (r * c) cap
  have HO := Lib.hid o4
  have HB := Lib.hid b4
  have hz4 := b4.size
  rw [h1] at hz4
  rw [List.length_replicate]
  clear o4 b4 h1
  go_upto_region 4 with fail
  clear hnil
  refine wp_region_lit ?_
  iterate 9 (refine wpList_plain rfl fun K hK => ?_; go_simp; refine hK _ _ ?_; clear hK K)
  refine wpl_storeS rfl (.tmp 7) (.tmp 22) rfl rfl rfl (heap_a2 w4 _ _) rfl rfl (all24 rfl rfl rfl rfl rfl rfl rfl rfl rfl rfl rfl rfl rfl rfl rfl rfl rfl rfl rfl rfl rfl rfl rfl rfl) ?_
  go_simp
  rw [IntWalk.i64_in ((r : Int) - 1) (by omega)]
  obtain ⟨W5, hW5⟩ : ∃ W5, W5 = ((w4.alloc (.cells (madeCells #[.bool false] c) 4)).alloc (.cells #[.int .i64 0, .int .i64 0, .slice none 0 0, .int .i64 0, .int .i64 0, .bool false, .int .u16 0, .int .i64 0, .int .i64 0, .slice none 0 0, .int .i64 0, .int .i64 0, .int .u16 0, .bool false, .bool false, .bool false, .slice none 0 0, .int .i64 0, .int .i64 0, .int .i64 0, .int .u8 0, .slice none 0 0, .slice none 0 0, .slice none 0 0] 32)).setRow (w4.heap.size + 1) #[.int .i64 (r : Int), .int .i64 (c : Int), .slice (some ⟨gb, 0, none⟩) (r * c) cap, .int .i64 0, .int .i64 0, .bool false, .int .u16 0, .int .i64 0, .int .i64 ((r : Int) - 1), .slice (some ⟨w4.heap.size, 0, none⟩) c c, .int .i64 0, .int .i64 0, .int .u16 0, .bool true, .bool true, .bool false, .slice none 0 0, .int .i64 0, .int .i64 0, .int .i64 0, .int .u8 0, .slice none 0 0, .slice none 0 0, .slice none 0 0] := ⟨_, rfl⟩
  rw [← hW5]
  have k5 : W5.heap[w4.heap.size + 1]? = some (.cells #[.int .i64 (r : Int), .int .i64 (c : Int), .slice (some ⟨gb, 0, none⟩) (r * c) cap, .int .i64 0, .int .i64 0, .bool false, .int .u16 0, .int .i64 0, .int .i64 ((r : Int) - 1), .slice (some ⟨w4.heap.size, 0, none⟩) c c, .int .i64 0, .int .i64 0, .int .u16 0, .bool true, .bool true, .bool false, .slice none 0 0, .int .i64 0, .int .i64 0, .int .i64 0, .int .u8 0, .slice none 0 0, .slice none 0 0, .slice none 0 0] 32) := by rw [hW5]; exact heap_setRow_same (heap_a2 w4 _ _)
  have z5 : W5.heap.size = w4.heap.size + 1 + 1 := by rw [hW5, size_setRow]; simp
  have b5 : Below w4.heap.size w4 W5 := by rw [hW5]; exact below_setRow (two_new w4 _ _).1 (by omega) _
  have t5 : OT W5 w4.heap.size (.slice (some ⟨w4.heap.size, 0, none⟩) c c) (List.replicate c false) := by
    rw [hW5]
    refine World.ownsRow.kept (World.ownsRow.alloc (OT.made w4 c (by omega)) _) (row := some (w4.heap.size + 1)) ⟨rfl, rfl, rfl, by rw [size_setRow]; exact Nat.le_refl _, fun k hk hne => heap_setRow_other (fun e => hne (by rw [e]))⟩ (Or.inr ?_)
    simp [Value.ownBlock]
  have K5 := Lib.hid k5
  have B5 := Lib.hid b5
  have T5 := Lib.hid t5
  have HW5 := Lib.hid hW5
  have Z5 := Lib.hid z5
  clear hmk k5 b5 t5 hW5 z5
  go_wp2
  go_loopw [8] (fun i wr => NewRel c w4 W5 i wr) (fun i _ => c + 8 - (intOf i).toNat)
  case atStart => exact ⟨0, by omega, by omega, rfl, by rw [tabsUp_zero]; exact T5.out, rfl, fun _ _ => rfl, Below.refl _ _⟩
  case round =>
    obtain ⟨x, hx8, hxc, rfl, ht, hz, hk, hb⟩ := hrel
    obtain ⟨c9, f9⟩ := cellR ((hk (w4.heap.size + 1) (by omega)).trans K5.out) 9 rfl
    have HT := Lib.hid ht
    have HK := Lib.hid hk
    have HBR := Lib.hid hb
    have HZ := Lib.hid hz
    have hx8' := Lib.hid hx8
    clear ht hk hb hz hx8
    by_cases hlt : x < c
    · obtain ⟨q, s0, f0⟩ := HT.out.spot x hlt
      have hgx : w4.heap.size < wr.heap.size := by rw [HZ.out, Z5.out]; omega
      go_wp2
      go_roundw
      case rel =>
        refine ⟨x + 8, by have := hx8'.out; omega, by omega, by go_num, ?_, by simpa using HZ.out, fun b hb => ?_, HBR.out.setCell (by simp) _⟩
        · have := HT.out.put x true
          rw [tabsUp_set c x hx8'.out] at this
          exact this
        · rw [heap_setCell_other _ _ _ _ (by simpa using hb)]
          exact HK.out b hb
      case measure => simp [intOf]; omega
    · have hres : wr.heap[w.heap.size]? = some (.cells #[.int .i64 0, .int .i64 0, .slice none 0 0, .int .i64 0, .int .i64 0, .bool false, .int .u16 0, .int .i64 0, .int .i64 0, .slice none 0 0, .int .i64 0, .int .i64 0, .int .u16 0, .bool false, .bool false, .bool false, .slice none 0 0, .int .i64 0, .int .i64 0, .int .i64 0, .int .u8 0, .slice none 0 0, .slice none 0 0, .slice none 0 0] 32) := by
        rw [HK.out _ (by omega), HW5.out, heap_setRow_other (by omega)]
        refine ((two_new w4 _ _).1.block _ (by omega)).trans ((HB.out.block _ (by omega)).trans ?_)
        exact heap_alloc_new w _
      have hvar := (HK.out (w4.heap.size + 1) (by omega)).trans K5.out
      have HR := Lib.hid hres
      have HV := Lib.hid hvar
      clear hres hvar c9 f9
      go_upto_region 9 with fail
      refine wp_region_lit ?_
      refine wpl_loadS rfl (.tmp 7) rfl rfl HV.out rfl ?_
      refine wpl_storeS rfl (.tmp 4) (.tmp 32) rfl rfl rfl HR.out rfl rfl (all24 rfl rfl rfl rfl rfl rfl rfl rfl rfl rfl rfl rfl rfl rfl rfl rfl rfl rfl rfl rfl rfl rfl rfl rfl) ?_
      go_wp2
      have hx9 : tabsUp c x = newTabs c := tabsUp_all c x (by omega)
      have hbl : blankL (r : Int) (c : Int) = List.replicate (r * c) blankC := by
        unfold blankL
        rw [if_pos (sizeOk_mk (by omega) (by omega) (by omega) (by omega))]
        simp
      have hB0 : Below w.heap.size w wr := (((Below.refl w.heap.size w).alloc (Nat.le_refl _) _).trans (HB.out.mono (by omega))).trans (((B5.out.trans HBR.out)).mono (by omega))
      refine bodyPost_ret (v := .tuple #[.agg #[.int .i64 (r : Int), .int .i64 (c : Int), .slice (some ⟨gb, 0, none⟩) (r * c) cap, .int .i64 0, .int .i64 0, .bool false, .int .u16 0, .int .i64 0, .int .i64 ((r : Int) - 1), .slice (some ⟨w4.heap.size, 0, none⟩) c c, .int .i64 0, .int .i64 0, .int .u16 0, .bool true, .bool true, .bool false, .slice none 0 0, .int .i64 0, .int .i64 0, .int .i64 0, .int .u8 0, .slice none 0 0, .slice none 0 0, .slice none 0 0], .int .i64 0]) (resultS2 Try.results26 rfl rfl (heap_setRow_same HR.out) rfl) rfl ?_
      refine ⟨_, rfl, ⟨_, _, _, _, _, _, rfl, ?_, ?_, CL.nil _ _, SL.nil _ _ _, SL.nil _ _ _, SL.nil _ _ _⟩, below_setRow hB0 (Nat.le_refl _) _⟩
      · show CL _ _ _ (blankL (r : Int) (c : Int))
        rw [hbl]
        have ho2 := HO.out
        rw [List.length_replicate] at ho2
        refine (ho2.cl.keep (fun q hq => World.cell?_of_block ?_)).mono (fun x hx => ⟨by have := hx.1; omega, ?_⟩)
        · have h1 := hq.1
          have h2 := hq.2
          rw [heap_setRow_other (by omega), HK.out _ (by omega)]
          exact B5.out.block _ h2
        · rw [size_setRow, HZ.out, Z5.out]
          have := hx.2
          omega
      · show SL vT _ _ _ (newTabs (c : Int).toNat)
        rw [Int.toNat_natCast, ← hx9]
        refine (HT.out.sl.keep (fun q hq => World.cell?_of_block (heap_setRow_other ?_))).mono (fun x hx => ⟨by have := hx.1; omega, by rw [size_setRow]; exact hx.2⟩)
        have := hq.1
        omega
end Go.Proofs.Ytejemcpkmfhenaa

namespace Go.Proofs.Ytejemcpkmfhenaa
open Go.RowKit
set_option linter.unusedVariables false
set_option linter.unusedSimpArgs false

theorem Newr_any (rows cols : Int) (w : World) (h : sizeOk rows cols = true) : Calls Try.prog 26 #[.int .i64 rows, .int .i64 cols] w (NewPost (newS rows cols) w) := by
  unfold sizeOk at h
  rw [decide_eq_true_eq] at h
  obtain ⟨r, rfl⟩ : ∃ r : Nat, rows = r := ⟨rows.toNat, by omega⟩
  obtain ⟨c, rfl⟩ : ∃ c : Nat, cols = c := ⟨cols.toNat, by omega⟩
  exact Newr_yes r c w (by omega) (by omega) (by omega) (by omega)
set_option maxHeartbeats 2000000 in
set_option maxRecDepth 100000 in
theorem escaper_55 (v : Value) (s : Sc) (b : Int) (r c : Nat) (S : Nat → Prop) (w : World) (hS : ∀ x, S x → x < w.heap.size) (h : SCV w S v s) (hi : ScIn s r c) (hb : b = 55) : Calls Try.prog 53 #[v, .int .u8 b] w (ScPost S { s with sy := s.y, sx := s.x, sattr := s.attr } w) := by
  have HSS := Lib.hid hS
  clear hS
  obtain ⟨vc, vt, vo, vp, vi, vu, rfl, hs⟩ := h
  have HS := Lib.hid hs
  obtain ⟨g1, g2, g3, g4, g5, g6⟩ := hs
  obtain ⟨A1, k1, rfl, p1, q1⟩ := g1.form
  obtain ⟨A2, k2, rfl, p2, q2⟩ := g2.form
  obtain ⟨A3, k3, rfl, p3, q3⟩ := g3.form
  obtain ⟨A4, k4, rfl, p4, q4⟩ := g4.form
  obtain ⟨A5, k5, rfl, p5, q5⟩ := g5.form
  obtain ⟨A6, k6, rfl, p6, q6⟩ := g6.form
  clear g1 g2 g3 g4 g5 g6
  have HI := Lib.hid hi
  have y0 := hi.y0
  have y1 := hi.y1
  have x0 := hi.x0
  have x1 := hi.x1
  have hcl := hi.cols
  have hrl := hi.rows
  have c2 := hi.g.c2
  have r2 := hi.g.r2
  have hlen : s.cells.length ≤ 1000000 := by rw [hi.g.n]; exact rc_le hi.g.r2 hi.g.c2
  have c3 : s.cols ≤ 1000 := by omega
  have r3 : s.rows ≤ 1000 := by omega
  have r4 : 1 ≤ s.rows := by omega
  have c4 : s.x < s.cols := by omega
  have htl : (s.tabs.length : Int) = s.cols := by rw [hcl, hi.tabs]
  have HTL := Lib.hid htl
  clear hi hcl hrl htl
  subst hb
  go_enter Try.func53, Try.ntmps53
  go_upto_region 22 with fail
  refine wp_region_lit ?_
  refine wpl_loadS rfl (.tmp 2) rfl rfl (heap_a1 w _ _) rfl ?_
  refine wpl_storeS rfl (.tmp 4) (.tmp 84) rfl rfl rfl (heap_a2 w _ _) rfl rfl (all24 rfl rfl rfl rfl rfl rfl rfl rfl rfl rfl rfl rfl rfl rfl rfl rfl rfl rfl rfl rfl rfl rfl rfl rfl) ?_
  go_wp2
  refine scEnd (w.heap.size + 1) 4 Try.results53 ?_ ?_ (heap_a2 w _ _) (by omega) (two_new w _ _).1 HSS.out (HS.out.like ?_ ?_ ?_ ?_)
  all_goals rfl
set_option maxHeartbeats 2000000 in
set_option maxRecDepth 100000 in
theorem escaper_56 (v : Value) (s : Sc) (b : Int) (r c : Nat) (S : Nat → Prop) (w : World) (hS : ∀ x, S x → x < w.heap.size) (h : SCV w S v s) (hi : ScIn s r c) (hb : b = 56) : Calls Try.prog 53 #[v, .int .u8 b] w (ScPost S { s with y := s.sy, x := s.sx, attr := s.sattr, wrap := false } w) := by
  have HSS := Lib.hid hS
  clear hS
  obtain ⟨vc, vt, vo, vp, vi, vu, rfl, hs⟩ := h
  have HS := Lib.hid hs
  obtain ⟨g1, g2, g3, g4, g5, g6⟩ := hs
  obtain ⟨A1, k1, rfl, p1, q1⟩ := g1.form
  obtain ⟨A2, k2, rfl, p2, q2⟩ := g2.form
  obtain ⟨A3, k3, rfl, p3, q3⟩ := g3.form
  obtain ⟨A4, k4, rfl, p4, q4⟩ := g4.form
  obtain ⟨A5, k5, rfl, p5, q5⟩ := g5.form
  obtain ⟨A6, k6, rfl, p6, q6⟩ := g6.form
  clear g1 g2 g3 g4 g5 g6
  have HI := Lib.hid hi
  have y0 := hi.y0
  have y1 := hi.y1
  have x0 := hi.x0
  have x1 := hi.x1
  have hcl := hi.cols
  have hrl := hi.rows
  have c2 := hi.g.c2
  have r2 := hi.g.r2
  have hlen : s.cells.length ≤ 1000000 := by rw [hi.g.n]; exact rc_le hi.g.r2 hi.g.c2
  have c3 : s.cols ≤ 1000 := by omega
  have r3 : s.rows ≤ 1000 := by omega
  have r4 : 1 ≤ s.rows := by omega
  have c4 : s.x < s.cols := by omega
  have htl : (s.tabs.length : Int) = s.cols := by rw [hcl, hi.tabs]
  have HTL := Lib.hid htl
  clear hi hcl hrl htl
  subst hb
  go_enter Try.func53, Try.ntmps53
  go_upto_region 22 with fail
  refine wp_region_lit ?_
  refine wpl_loadS rfl (.tmp 2) rfl rfl (heap_a1 w _ _) rfl ?_
  refine wpl_storeS rfl (.tmp 4) (.tmp 84) rfl rfl rfl (heap_a2 w _ _) rfl rfl (all24 rfl rfl rfl rfl rfl rfl rfl rfl rfl rfl rfl rfl rfl rfl rfl rfl rfl rfl rfl rfl rfl rfl rfl rfl) ?_
  go_wp2
  refine scEnd (w.heap.size + 1) 4 Try.results53 ?_ ?_ (heap_a2 w _ _) (by omega) (two_new w _ _).1 HSS.out (HS.out.like ?_ ?_ ?_ ?_)
  all_goals rfl
set_option maxHeartbeats 2000000 in
set_option maxRecDepth 100000 in
theorem escaper_68 (v : Value) (s : Sc) (b : Int) (r c : Nat) (S : Nat → Prop) (w : World) (hS : ∀ x, S x → x < w.heap.size) (h : SCV w S v s) (hi : ScIn s r c) (hb : b = 68) : Calls Try.prog 53 #[v, .int .u8 b] w (ScPost S (downS s) w) := by
  have HSS := Lib.hid hS
  clear hS
  obtain ⟨vc, vt, vo, vp, vi, vu, rfl, hs⟩ := h
  have HS := Lib.hid hs
  obtain ⟨g1, g2, g3, g4, g5, g6⟩ := hs
  obtain ⟨A1, k1, rfl, p1, q1⟩ := g1.form
  obtain ⟨A2, k2, rfl, p2, q2⟩ := g2.form
  obtain ⟨A3, k3, rfl, p3, q3⟩ := g3.form
  obtain ⟨A4, k4, rfl, p4, q4⟩ := g4.form
  obtain ⟨A5, k5, rfl, p5, q5⟩ := g5.form
  obtain ⟨A6, k6, rfl, p6, q6⟩ := g6.form
  clear g1 g2 g3 g4 g5 g6
  have HI := Lib.hid hi
  have y0 := hi.y0
  have y1 := hi.y1
  have x0 := hi.x0
  have x1 := hi.x1
  have hcl := hi.cols
  have hrl := hi.rows
  have c2 := hi.g.c2
  have r2 := hi.g.r2
  have hlen : s.cells.length ≤ 1000000 := by rw [hi.g.n]; exact rc_le hi.g.r2 hi.g.c2
  have c3 : s.cols ≤ 1000 := by omega
  have r3 : s.rows ≤ 1000 := by omega
  have r4 : 1 ≤ s.rows := by omega
  have c4 : s.x < s.cols := by omega
  have htl : (s.tabs.length : Int) = s.cols := by rw [hcl, hi.tabs]
  have HTL := Lib.hid htl
  clear hi hcl hrl htl
  subst hb
  have h2 := two_new w (.cells #[.int .i64 s.rows, .int .i64 s.cols, .slice A1 s.cells.length k1, .int .i64 s.y, .int .i64 s.x, .bool s.wrap, .int .u16 (s.attr : Int), .int .i64 s.top, .int .i64 s.bottom, .slice A2 s.tabs.length k2, .int .i64 s.sy, .int .i64 s.sx, .int .u16 (s.sattr : Int), .bool s.auto, .bool s.shown, .bool s.alt, .slice A3 s.other.length k3, .int .i64 s.oy, .int .i64 s.ox, .int .i64 (s.p.mode : Int), .int .u8 (s.p.priv : Int), .slice A4 s.p.params.length k4, .slice A5 s.p.inter.length k5, .slice A6 s.p.utf.length k6] 32) (.cells #[.int .i64 0, .int .i64 0, .slice none 0 0, .int .i64 0, .int .i64 0, .bool false, .int .u16 0, .int .i64 0, .int .i64 0, .slice none 0 0, .int .i64 0, .int .i64 0, .int .u16 0, .bool false, .bool false, .bool false, .slice none 0 0, .int .i64 0, .int .i64 0, .int .i64 0, .int .u8 0, .slice none 0 0, .slice none 0 0, .slice none 0 0] 32)
  have HS2 : Hid (∀ x, S x → x < _) := fun x hx => Nat.lt_of_lt_of_le (HSS.out x hx) h2.1.size
  have H2 := Lib.hid h2
  have HV := Lib.hid (show SCV _ S (.agg (vS s (.slice A1 s.cells.length k1) (.slice A2 s.tabs.length k2) (.slice A3 s.other.length k3) (.slice A4 s.p.params.length k4) (.slice A5 s.p.inter.length k5) (.slice A6 s.p.utf.length k6))) s from ⟨_, _, _, _, _, _, rfl, HS.out.below HSS.out h2.1⟩)
  clear h2
  go_enter Try.func53, Try.ntmps53
  go_upto_region 7 with fail
  refine wp_region_lit ?_
  refine wpl_loadS rfl (.tmp 2) rfl rfl (heap_a1 w _ _) rfl ?_
  go_wp2_with fail
  ((with_reducible refine (downr_any _ s r c S _ HS2.out HV.out HI.out).mono ?_); rintro e w4 ⟨v4, rfl, hv4, b4⟩)
  have hb4 : Below (w.heap.size + 1 + 1) _ w4 := (by rw [← H2.out.2]; exact b4)
  obtain ⟨e0, e1⟩ := two_keptB hb4
  have z4 := b4.size
  rw [H2.out.2] at z4
  obtain ⟨uc, ut, uo, up, ui, uu, rfl, hs4⟩ := hv4
  rename_i K hK
  refine hK _ _ ?_
  refine wpl_storeS rfl (.tmp 4) (.tmp 32) rfl rfl rfl e1 rfl rfl hs4.one ?_
  go_wp2
  refine scEndV (w.heap.size + 1) 4 Try.results53 rfl rfl e1 (by omega) (H2.out.1.trans (hb4.mono (by omega))) HSS.out hs4 (fun x hx => ?_)
  rcases hx with h | h
  · exact .inl h
  · have := h.1
    rw [H2.out.2] at this
    exact .inr ⟨by omega, h.2⟩
set_option maxHeartbeats 2000000 in
set_option maxRecDepth 100000 in
theorem escaper_no (v : Value) (s : Sc) (b : Int) (r c : Nat) (S : Nat → Prop) (w : World) (hS : ∀ x, S x → x < w.heap.size) (h : SCV w S v s) (hi : ScIn s r c) (hb : ¬ (b = 55 ∨ b = 56 ∨ b = 68 ∨ b = 69 ∨ b = 77 ∨ b = 72 ∨ b = 99)) : Calls Try.prog 53 #[v, .int .u8 b] w (ScPost S s w) := by
  have HSS := Lib.hid hS
  clear hS
  obtain ⟨vc, vt, vo, vp, vi, vu, rfl, hs⟩ := h
  have HS := Lib.hid hs
  obtain ⟨g1, g2, g3, g4, g5, g6⟩ := hs
  obtain ⟨A1, k1, rfl, p1, q1⟩ := g1.form
  obtain ⟨A2, k2, rfl, p2, q2⟩ := g2.form
  obtain ⟨A3, k3, rfl, p3, q3⟩ := g3.form
  obtain ⟨A4, k4, rfl, p4, q4⟩ := g4.form
  obtain ⟨A5, k5, rfl, p5, q5⟩ := g5.form
  obtain ⟨A6, k6, rfl, p6, q6⟩ := g6.form
  clear g1 g2 g3 g4 g5 g6
  have HI := Lib.hid hi
  have y0 := hi.y0
  have y1 := hi.y1
  have x0 := hi.x0
  have x1 := hi.x1
  have hcl := hi.cols
  have hrl := hi.rows
  have c2 := hi.g.c2
  have r2 := hi.g.r2
  have hlen : s.cells.length ≤ 1000000 := by rw [hi.g.n]; exact rc_le hi.g.r2 hi.g.c2
  have c3 : s.cols ≤ 1000 := by omega
  have r3 : s.rows ≤ 1000 := by omega
  have r4 : 1 ≤ s.rows := by omega
  have c4 : s.x < s.cols := by omega
  have htl : (s.tabs.length : Int) = s.cols := by rw [hcl, hi.tabs]
  have HTL := Lib.hid htl
  clear hi hcl hrl htl
  have n55 : (b == 55) = false := by simp; omega
  have n56 : (b == 56) = false := by simp; omega
  have n68 : (b == 68) = false := by simp; omega
  have n69 : (b == 69) = false := by simp; omega
  have n77 : (b == 77) = false := by simp; omega
  have n72 : (b == 72) = false := by simp; omega
  have n99 : (b == 99) = false := by simp; omega
  clear hb
  go_enter Try.func53, Try.ntmps53
  go_upto_region 22 with fail
  refine wp_region_lit ?_
  refine wpl_loadS rfl (.tmp 2) rfl rfl (heap_a1 w _ _) rfl ?_
  refine wpl_storeS rfl (.tmp 4) (.tmp 84) rfl rfl rfl (heap_a2 w _ _) rfl rfl (all24 rfl rfl rfl rfl rfl rfl rfl rfl rfl rfl rfl rfl rfl rfl rfl rfl rfl rfl rfl rfl rfl rfl rfl rfl) ?_
  go_wp2
  refine scEnd (w.heap.size + 1) 4 Try.results53 ?_ ?_ (heap_a2 w _ _) (by omega) (two_new w _ _).1 HSS.out (HS.out.like ?_ ?_ ?_ ?_)
  all_goals rfl
set_option maxHeartbeats 2000000 in
set_option maxRecDepth 100000 in
theorem escaper_69 (v : Value) (s : Sc) (b : Int) (r c : Nat) (S : Nat → Prop) (w : World) (hS : ∀ x, S x → x < w.heap.size) (h : SCV w S v s) (hi : ScIn s r c) (hb : b = 69) : Calls Try.prog 53 #[v, .int .u8 b] w (ScPost S (crS s) w) := by
  have HSS := Lib.hid hS
  clear hS
  obtain ⟨vc, vt, vo, vp, vi, vu, rfl, hs⟩ := h
  have HS := Lib.hid hs
  obtain ⟨g1, g2, g3, g4, g5, g6⟩ := hs
  obtain ⟨A1, k1, rfl, p1, q1⟩ := g1.form
  obtain ⟨A2, k2, rfl, p2, q2⟩ := g2.form
  obtain ⟨A3, k3, rfl, p3, q3⟩ := g3.form
  obtain ⟨A4, k4, rfl, p4, q4⟩ := g4.form
  obtain ⟨A5, k5, rfl, p5, q5⟩ := g5.form
  obtain ⟨A6, k6, rfl, p6, q6⟩ := g6.form
  clear g1 g2 g3 g4 g5 g6
  have HI := Lib.hid hi
  have y0 := hi.y0
  have y1 := hi.y1
  have x0 := hi.x0
  have x1 := hi.x1
  have hcl := hi.cols
  have hrl := hi.rows
  have c2 := hi.g.c2
  have r2 := hi.g.r2
  have hlen : s.cells.length ≤ 1000000 := by rw [hi.g.n]; exact rc_le hi.g.r2 hi.g.c2
  have c3 : s.cols ≤ 1000 := by omega
  have r3 : s.rows ≤ 1000 := by omega
  have r4 : 1 ≤ s.rows := by omega
  have c4 : s.x < s.cols := by omega
  have htl : (s.tabs.length : Int) = s.cols := by rw [hcl, hi.tabs]
  have HTL := Lib.hid htl
  clear hi hcl hrl htl
  subst hb
  have h2 := two_new w (.cells #[.int .i64 s.rows, .int .i64 s.cols, .slice A1 s.cells.length k1, .int .i64 s.y, .int .i64 s.x, .bool s.wrap, .int .u16 (s.attr : Int), .int .i64 s.top, .int .i64 s.bottom, .slice A2 s.tabs.length k2, .int .i64 s.sy, .int .i64 s.sx, .int .u16 (s.sattr : Int), .bool s.auto, .bool s.shown, .bool s.alt, .slice A3 s.other.length k3, .int .i64 s.oy, .int .i64 s.ox, .int .i64 (s.p.mode : Int), .int .u8 (s.p.priv : Int), .slice A4 s.p.params.length k4, .slice A5 s.p.inter.length k5, .slice A6 s.p.utf.length k6] 32) (.cells #[.int .i64 0, .int .i64 0, .slice none 0 0, .int .i64 0, .int .i64 0, .bool false, .int .u16 0, .int .i64 0, .int .i64 0, .slice none 0 0, .int .i64 0, .int .i64 0, .int .u16 0, .bool false, .bool false, .bool false, .slice none 0 0, .int .i64 0, .int .i64 0, .int .i64 0, .int .u8 0, .slice none 0 0, .slice none 0 0, .slice none 0 0] 32)
  have HS2 : Hid (∀ x, S x → x < _) := fun x hx => Nat.lt_of_lt_of_le (HSS.out x hx) h2.1.size
  have H2 := Lib.hid h2
  have HV := Lib.hid (show SCV _ S (.agg (vS s (.slice A1 s.cells.length k1) (.slice A2 s.tabs.length k2) (.slice A3 s.other.length k3) (.slice A4 s.p.params.length k4) (.slice A5 s.p.inter.length k5) (.slice A6 s.p.utf.length k6))) s from ⟨_, _, _, _, _, _, rfl, HS.out.below HSS.out h2.1⟩)
  clear h2
  go_enter Try.func53, Try.ntmps53
  go_upto_region 9 with fail
  refine wp_region_lit ?_
  refine wpl_loadS rfl (.tmp 2) rfl rfl (heap_a1 w _ _) rfl ?_
  go_wp2_with fail
  ((with_reducible refine (downr_any _ s r c S _ HS2.out HV.out HI.out).mono ?_); rintro e w4 ⟨v4, rfl, hv4, b4⟩)
  have hb4 : Below (w.heap.size + 1 + 1) _ w4 := (by rw [← H2.out.2]; exact b4)
  obtain ⟨e0, e1⟩ := two_keptB hb4
  have z4 := b4.size
  rw [H2.out.2] at z4
  obtain ⟨uc, ut, uo, up, ui, uu, rfl, hs4⟩ := hv4
  rename_i K hK
  refine hK _ _ ?_
  refine wpl_storeS rfl (.tmp 2) (.tmp 36) rfl rfl rfl e0 rfl rfl hs4.one ?_
  clear hK
  obtain ⟨W5, hW5⟩ : ∃ W5, W5 = w4.setRow w.heap.size (vS (downS s) uc ut uo up ui uu) := ⟨_, rfl⟩
  rw [← hW5]
  have k5 : W5.heap[w.heap.size]? = some (.cells (vS (downS s) uc ut uo up ui uu) 32) := by rw [hW5]; exact heap_setRow_same e0
  have o5 : ∀ b, b ≠ w.heap.size → W5.heap[b]? = w4.heap[b]? := fun b hb => by rw [hW5]; exact heap_setRow_other (fun e => hb e.symm)
  have z5 : W5.heap.size = w4.heap.size := by rw [hW5, size_setRow]
  have b5 : Below w.heap.size w W5 := by rw [hW5]; exact below_setRow (H2.out.1.trans (hb4.mono (by omega))) (Nat.le_refl _) _
  obtain ⟨cx, fx⟩ := cellR k5 4 rfl
  have K5 := Lib.hid k5
  have O5 := Lib.hid o5
  have B5 := Lib.hid b5
  have Z5 := Lib.hid z5
  have HS4 := Lib.hid hs4
  have E1 := Lib.hid e1
  clear k5 o5 b5 z5 hs4 hW5 e0 e1 b4 hb4
  go_simp
  go_upto_region 22 with fail
  refine wp_region_lit ?_
  refine wpl_loadS rfl (.tmp 2) rfl rfl ((heap_setCell_same _ _ 4 _ _ _ K5.out).trans rfl) rfl ?_
  have e1 : (W5.setCell ⟨w.heap.size, 4, none⟩ (.int .i64 0)).heap[w.heap.size + 1]? = some (.cells #[.int .i64 0, .int .i64 0, .slice none 0 0, .int .i64 0, .int .i64 0, .bool false, .int .u16 0, .int .i64 0, .int .i64 0, .slice none 0 0, .int .i64 0, .int .i64 0, .int .u16 0, .bool false, .bool false, .bool false, .slice none 0 0, .int .i64 0, .int .i64 0, .int .i64 0, .int .u8 0, .slice none 0 0, .slice none 0 0, .slice none 0 0] 32) := (heap_setCell_other _ _ _ _ (by simp)).trans ((O5.out _ (by omega)).trans E1.out)
  have hsW : SSl (W5.setCell ⟨w.heap.size, 4, none⟩ (.int .i64 0)) _ (crS s) uc ut uo up ui uu := (HS4.out.keep (fun q hq => World.cell?_of_block ((heap_setCell_other _ _ _ _ (by
    rcases hq with h | h
    · have := HSS.out _ h; simp; omega
    · have := h.1; rw [H2.out.2] at this; simp; omega)).trans (O5.out _ (by
    rcases hq with h | h
    · have := HSS.out _ h; omega
    · have := h.1; rw [H2.out.2] at this; omega))))).like rfl rfl rfl rfl
  refine wpl_storeS rfl (.tmp 4) (.tmp 84) rfl rfl rfl e1 rfl rfl (hsW.one (s' := crS s)) ?_
  go_wp2
  refine scEndV (w.heap.size + 1) 4 Try.results53 rfl rfl e1 (by omega) (B5.out.setCell (by simp) _) HSS.out hsW (fun x hx => ?_)
  rcases hx with h | h
  · exact .inl h
  · have h1 := h.1
    have h3 := h.2
    rw [H2.out.2] at h1
    exact .inr ⟨by omega, by simp; rw [Z5.out]; omega⟩
set_option maxHeartbeats 2000000 in
set_option maxRecDepth 100000 in
theorem escaper_77up (v : Value) (s : Sc) (b : Int) (r c : Nat) (S : Nat → Prop) (w : World) (hS : ∀ x, S x → x < w.heap.size) (h : SCV w S v s) (hi : ScIn s r c) (hb : b = 77) (hy : ¬ s.y = s.top) (hy2 : 0 < s.y) : Calls Try.prog 53 #[v, .int .u8 b] w (ScPost S { s with wrap := false, y := s.y - 1 } w) := by
  have HSS := Lib.hid hS
  clear hS
  obtain ⟨vc, vt, vo, vp, vi, vu, rfl, hs⟩ := h
  have HS := Lib.hid hs
  obtain ⟨g1, g2, g3, g4, g5, g6⟩ := hs
  obtain ⟨A1, k1, rfl, p1, q1⟩ := g1.form
  obtain ⟨A2, k2, rfl, p2, q2⟩ := g2.form
  obtain ⟨A3, k3, rfl, p3, q3⟩ := g3.form
  obtain ⟨A4, k4, rfl, p4, q4⟩ := g4.form
  obtain ⟨A5, k5, rfl, p5, q5⟩ := g5.form
  obtain ⟨A6, k6, rfl, p6, q6⟩ := g6.form
  clear g1 g2 g3 g4 g5 g6
  have HI := Lib.hid hi
  have y0 := hi.y0
  have y1 := hi.y1
  have x0 := hi.x0
  have x1 := hi.x1
  have hcl := hi.cols
  have hrl := hi.rows
  have c2 := hi.g.c2
  have r2 := hi.g.r2
  have hlen : s.cells.length ≤ 1000000 := by rw [hi.g.n]; exact rc_le hi.g.r2 hi.g.c2
  have c3 : s.cols ≤ 1000 := by omega
  have r3 : s.rows ≤ 1000 := by omega
  have r4 : 1 ≤ s.rows := by omega
  have c4 : s.x < s.cols := by omega
  have htl : (s.tabs.length : Int) = s.cols := by rw [hcl, hi.tabs]
  have HTL := Lib.hid htl
  clear hi hcl hrl htl
  subst hb
  have hy3 : (s.y == s.top) = false := by simpa using hy
  go_enter Try.func53, Try.ntmps53
  go_upto_region 22 with fail
  refine wp_region_lit ?_
  refine wpl_loadS rfl (.tmp 2) rfl rfl (heap_a1 w _ _) rfl ?_
  refine wpl_storeS rfl (.tmp 4) (.tmp 84) rfl rfl rfl (heap_a2 w _ _) rfl rfl (all24 rfl rfl rfl rfl rfl rfl rfl rfl rfl rfl rfl rfl rfl rfl rfl rfl rfl rfl rfl rfl rfl rfl rfl rfl) ?_
  go_wp2
  refine scEnd (w.heap.size + 1) 4 Try.results53 ?_ ?_ (heap_a2 w _ _) (by omega) (two_new w _ _).1 HSS.out (HS.out.like ?_ ?_ ?_ ?_)
  all_goals rfl
set_option maxHeartbeats 2000000 in
set_option maxRecDepth 100000 in
theorem escaper_77st (v : Value) (s : Sc) (b : Int) (r c : Nat) (S : Nat → Prop) (w : World) (hS : ∀ x, S x → x < w.heap.size) (h : SCV w S v s) (hi : ScIn s r c) (hb : b = 77) (hy : ¬ s.y = s.top) (hy2 : ¬ 0 < s.y) : Calls Try.prog 53 #[v, .int .u8 b] w (ScPost S { s with wrap := false } w) := by
  have HSS := Lib.hid hS
  clear hS
  obtain ⟨vc, vt, vo, vp, vi, vu, rfl, hs⟩ := h
  have HS := Lib.hid hs
  obtain ⟨g1, g2, g3, g4, g5, g6⟩ := hs
  obtain ⟨A1, k1, rfl, p1, q1⟩ := g1.form
  obtain ⟨A2, k2, rfl, p2, q2⟩ := g2.form
  obtain ⟨A3, k3, rfl, p3, q3⟩ := g3.form
  obtain ⟨A4, k4, rfl, p4, q4⟩ := g4.form
  obtain ⟨A5, k5, rfl, p5, q5⟩ := g5.form
  obtain ⟨A6, k6, rfl, p6, q6⟩ := g6.form
  clear g1 g2 g3 g4 g5 g6
  have HI := Lib.hid hi
  have y0 := hi.y0
  have y1 := hi.y1
  have x0 := hi.x0
  have x1 := hi.x1
  have hcl := hi.cols
  have hrl := hi.rows
  have c2 := hi.g.c2
  have r2 := hi.g.r2
  have hlen : s.cells.length ≤ 1000000 := by rw [hi.g.n]; exact rc_le hi.g.r2 hi.g.c2
  have c3 : s.cols ≤ 1000 := by omega
  have r3 : s.rows ≤ 1000 := by omega
  have r4 : 1 ≤ s.rows := by omega
  have c4 : s.x < s.cols := by omega
  have htl : (s.tabs.length : Int) = s.cols := by rw [hcl, hi.tabs]
  have HTL := Lib.hid htl
  clear hi hcl hrl htl
  subst hb
  have hy3 : (s.y == s.top) = false := by simpa using hy
  have hy4 : decide (0 < s.y) = false := by simpa using hy2
  go_enter Try.func53, Try.ntmps53
  go_upto_region 22 with fail
  refine wp_region_lit ?_
  refine wpl_loadS rfl (.tmp 2) rfl rfl (heap_a1 w _ _) rfl ?_
  refine wpl_storeS rfl (.tmp 4) (.tmp 84) rfl rfl rfl (heap_a2 w _ _) rfl rfl (all24 rfl rfl rfl rfl rfl rfl rfl rfl rfl rfl rfl rfl rfl rfl rfl rfl rfl rfl rfl rfl rfl rfl rfl rfl) ?_
  go_wp2
  refine scEnd (w.heap.size + 1) 4 Try.results53 ?_ ?_ (heap_a2 w _ _) (by omega) (two_new w _ _).1 HSS.out (HS.out.like ?_ ?_ ?_ ?_)
  all_goals rfl
set_option maxHeartbeats 2000000 in
set_option maxRecDepth 100000 in
theorem escaper_77dn (v : Value) (s : Sc) (b : Int) (r c : Nat) (S : Nat → Prop) (w : World) (hS : ∀ x, S x → x < w.heap.size) (h : SCV w S v s) (hi : ScIn s r c) (hb : b = 77) (hy : s.y = s.top) : Calls Try.prog 53 #[v, .int .u8 b] w (ScPost S { s with wrap := false, cells := downL s.cells s.cols s.top s.bottom 1 } w) := by
  have HSS := Lib.hid hS
  clear hS
  obtain ⟨vc, vt, vo, vp, vi, vu, rfl, hs⟩ := h
  have HS := Lib.hid hs
  obtain ⟨g1, g2, g3, g4, g5, g6⟩ := hs
  obtain ⟨A1, k1, rfl, p1, q1⟩ := g1.form
  obtain ⟨A2, k2, rfl, p2, q2⟩ := g2.form
  obtain ⟨A3, k3, rfl, p3, q3⟩ := g3.form
  obtain ⟨A4, k4, rfl, p4, q4⟩ := g4.form
  obtain ⟨A5, k5, rfl, p5, q5⟩ := g5.form
  obtain ⟨A6, k6, rfl, p6, q6⟩ := g6.form
  clear g1 g2 g3 g4 g5 g6
  have HI := Lib.hid hi
  have y0 := hi.y0
  have y1 := hi.y1
  have x0 := hi.x0
  have x1 := hi.x1
  have hcl := hi.cols
  have hrl := hi.rows
  have c2 := hi.g.c2
  have r2 := hi.g.r2
  have hlen : s.cells.length ≤ 1000000 := by rw [hi.g.n]; exact rc_le hi.g.r2 hi.g.c2
  have c3 : s.cols ≤ 1000 := by omega
  have r3 : s.rows ≤ 1000 := by omega
  have r4 : 1 ≤ s.rows := by omega
  have c4 : s.x < s.cols := by omega
  have htl : (s.tabs.length : Int) = s.cols := by rw [hcl, hi.tabs]
  have HTL := Lib.hid htl
  clear hi hcl hrl htl
  subst hb
  have hy3 : (s.y == s.top) = true := by simpa using hy
  have HY := Lib.hid hy
  clear hy
  have h2 := two_new w (.cells #[.int .i64 s.rows, .int .i64 s.cols, .slice A1 s.cells.length k1, .int .i64 s.y, .int .i64 s.x, .bool false, .int .u16 (s.attr : Int), .int .i64 s.top, .int .i64 s.bottom, .slice A2 s.tabs.length k2, .int .i64 s.sy, .int .i64 s.sx, .int .u16 (s.sattr : Int), .bool s.auto, .bool s.shown, .bool s.alt, .slice A3 s.other.length k3, .int .i64 s.oy, .int .i64 s.ox, .int .i64 (s.p.mode : Int), .int .u8 (s.p.priv : Int), .slice A4 s.p.params.length k4, .slice A5 s.p.inter.length k5, .slice A6 s.p.utf.length k6] 32) (.cells #[.int .i64 0, .int .i64 0, .slice none 0 0, .int .i64 0, .int .i64 0, .bool false, .int .u16 0, .int .i64 0, .int .i64 0, .slice none 0 0, .int .i64 0, .int .i64 0, .int .u16 0, .bool false, .bool false, .bool false, .slice none 0 0, .int .i64 0, .int .i64 0, .int .i64 0, .int .u8 0, .slice none 0 0, .slice none 0 0, .slice none 0 0] 32)
  have HC := Lib.hid (HS.out.1.cs' HSS.out h2.1 (Nat.le_refl _))
  have H2 := Lib.hid h2
  clear h2
  go_enter Try.func53, Try.ntmps53
  go_upto_region 22 with fail
  ((with_reducible refine (Down_any _ s.cells s.cols s.top s.bottom 1 _ HC.out (by omega)).mono ?_); rintro e w4 ⟨v4, rfl, o4, b4⟩; have hb4 : Below (w.heap.size + 1 + 1) _ w4 := (by rw [← H2.out.2]; exact b4); obtain ⟨k0, k1⟩ := two_keptB hb4; obtain ⟨c2, f2⟩ := cellR k0 2 rfl; have K0 := Lib.hid k0; have K1 := Lib.hid k1; rw [H2.out.2] at o4; have O4 := Lib.hid o4; have B4 := Lib.hid (H2.out.1.trans (hb4.mono (by omega))); have Z4 := b4.size; rw [H2.out.2] at Z4; clear o4 b4 hb4 k0 k1)
  obtain ⟨A7, k7, rfl, p7, q7⟩ := O4.out.cs.form
  go_upto_region 22 with fail
  refine wp_region_lit ?_
  refine wpl_loadS rfl (.tmp 2) rfl rfl ((heap_setCell_same _ _ 2 _ _ _ K0.out).trans rfl) rfl ?_
  refine wpl_storeS rfl (.tmp 4) (.tmp 84) rfl rfl rfl ((heap_setCell_other _ _ _ _ (by simp)).trans K1.out) rfl rfl (all24 rfl rfl rfl rfl rfl rfl rfl rfl rfl rfl rfl rfl rfl rfl rfl rfl rfl rfl rfl rfl rfl rfl rfl rfl) ?_
  go_wp2
  refine scEndC (w.heap.size + 1) 4 Try.results53 ?_ ?_ ((heap_setCell_other _ _ _ _ (by simp)).trans K1.out) (by omega) (B4.out.setCell (by simp) _) HSS.out HS.out ?_ ?_ ?_ (w.heap.size + 1 + 1) (by omega) O4.out (fun b hb => heap_setCell_other _ _ _ _ (by simp; omega)) (by simp)
  all_goals rfl
end Go.Proofs.Ytejemcpkmfhenaa
