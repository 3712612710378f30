/- What is proved here: parts of layer 10's proofs. -/
import Derived.Test.YthepofkdgbcifaaGreatS16
namespace Go.Proofs.YthepofkdgbcifaaGreat
open Go.RowKit
set_option linter.unusedVariables false
set_option linter.unusedSimpArgs false
set_option maxHeartbeats 8000000
set_option maxRecDepth 100000
def fixB (m : Int) (s : Sc) (m' : Int) (t : Sc) : Bool := decide (s.rows = t.rows) && (decide (s.cols = t.cols) && (decide (s.y = t.y) && (decide (s.x = t.x) && (decide (s.wrap = t.wrap) && (decide (s.auto = t.auto) && (decide (s.shown = t.shown) && (decide (s.alt = t.alt) && (decide ((s.attr : Int) = (t.attr : Int)) && (decide ((s.sattr : Int) = (t.sattr : Int)) && (decide (s.top = t.top) && (decide (s.bottom = t.bottom) && (decide (s.sy = t.sy) && (decide (s.sx = t.sx) && (decide (s.oy = t.oy) && (decide (s.ox = t.ox) && (decide (m = m') && (decide ((s.p.priv : Int) = (t.p.priv : Int)) && (true))))))))))))))))))
theorem ite_bool (P : Prop) [Decidable P] (b : Bool) (w : World) : (if P then (Result.ok (Next.value (Value.bool b)) w : Result Next) else Result.ok (Next.value (Value.bool false)) w) = Result.ok (Next.value (Value.bool (decide P && b))) w := by
 by_cases h : P <;> simp [h]
theorem fixB_self (m : Int) (s : Sc) : fixB m s m s = true := by simp [fixB]
theorem ex_eqF {ρ : Operand → Value} {x y : Operand} {m m' : Int} {s t : Sc} (h1 : ρ x = .agg (fixV m s)) (h2 : ρ y = .agg (fixV m' t)) (o : Oper) (ho : o.op = .binOp .eql 61 x y 61) (w : World) : (execOp ρ o).run Tryz.prog w = .ok (.value (.bool (fixB m s m' t))) w := by
 obtain ⟨dst, op, ty, pos, after, guard⟩ := o
 simp only at ho
 subst ho
 unfold execOp
 simp only [h1, h2]
 go_simp
 simp only [ite_bool]
 rfl
theorem and6 {a c1 c2 c3 c4 c5 c6 : Bool} {P1 P2 P3 P4 P5 P6 : Prop} (h1 : a = true → (c1 = true ↔ P1)) (h2 : (a && c1) = true → (c2 = true ↔ P2)) (h3 : (a && c1 && c2) = true → (c3 = true ↔ P3)) (h4 : (a && c1 && c2 && c3) = true → (c4 = true ↔ P4)) (h5 : (a && c1 && c2 && c3 && c4) = true → (c5 = true ↔ P5)) (h6 : (a && c1 && c2 && c3 && c4 && c5) = true → (c6 = true ↔ P6)) : (a && c1 && c2 && c3 && c4 && c5 && c6) = true ↔ (a = true ∧ P1 ∧ P2 ∧ P3 ∧ P4 ∧ P5 ∧ P6) := by
 cases a <;> cases c1 <;> cases c2 <;> cases c3 <;> cases c4 <;> cases c5 <;> cases c6 <;> simp_all
theorem exec_pickG {P : Program} {ρ : Operand → Value} {c x : Operand} {b d : Bool} (hc : ρ c = .bool b) (hx : ρ x = bif b then .bool d else undef) (o : Oper) (ho : o.op = .pick c x (.const (.bool false))) (w : World) (hk : ρ (.const (.bool false)) = .bool false) : (execOp ρ o).run P w = .ok (.value (.bool (b && d))) w := by
 refine exec_pick b _ hc ?_ o ho w
 rw [hx, hk]
 cases b <;> rfl
theorem ex_fieldQ2 {g i : Nat} {ρ : Operand → Value} {x : Operand} (h : ρ x = .pointer (some ⟨g, i, none⟩)) (o : Oper) (ho : o.op = .fieldAddr 28 x 2) (w : World) : (execOp ρ o).run Tryz.prog w = .ok (.value (.pointer (some ⟨g, i + 2, none⟩))) w := by
 obtain ⟨dst, op, ty, pos, after, guard⟩ := o
 simp only at ho
 subst ho
 unfold execOp
 simp only [h]
 go_simp
theorem ex_fieldQ3 {g i : Nat} {ρ : Operand → Value} {x : Operand} (h : ρ x = .pointer (some ⟨g, i, none⟩)) (o : Oper) (ho : o.op = .fieldAddr 28 x 3) (w : World) : (execOp ρ o).run Tryz.prog w = .ok (.value (.pointer (some ⟨g, i + 3, none⟩))) w := by
 obtain ⟨dst, op, ty, pos, after, guard⟩ := o
 simp only at ho
 subst ho
 unfold execOp
 simp only [h]
 go_simp
theorem ex_fieldQ4 {g i : Nat} {ρ : Operand → Value} {x : Operand} (h : ρ x = .pointer (some ⟨g, i, none⟩)) (o : Oper) (ho : o.op = .fieldAddr 28 x 4) (w : World) : (execOp ρ o).run Tryz.prog w = .ok (.value (.pointer (some ⟨g, i + 4, none⟩))) w := by
 obtain ⟨dst, op, ty, pos, after, guard⟩ := o
 simp only at ho
 subst ho
 unfold execOp
 simp only [h]
 go_simp
theorem ex_loadIQ {ρ : Operand → Value} {x : Operand} {ad : Addr} {A : Option Addr} {n k : Nat} (h : ρ x = .pointer (some ad)) (o : Oper) (ho : o.op = .load 25 x) (w : World) (hc : w.cell? ad = some (.slice A n k)) : (execOp ρ o).run Tryz.prog w = .ok (.value (.slice A n k)) w := by
 obtain ⟨dst, op, ty, pos, after, guard⟩ := o
 simp only at ho
 subst ho
 unfold execOp
 simp only [h]
 go_simp
theorem ex_loadBQ {ρ : Operand → Value} {x : Operand} {ad : Addr} {A : Option Addr} {n k : Nat} (h : ρ x = .pointer (some ad)) (o : Oper) (ho : o.op = .load 26 x) (w : World) (hc : w.cell? ad = some (.slice A n k)) : (execOp ρ o).run Tryz.prog w = .ok (.value (.slice A n k)) w := by
 obtain ⟨dst, op, ty, pos, after, guard⟩ := o
 simp only at ho
 subst ho
 unfold execOp
 simp only [h]
 go_simp
section
variable {P : Program} {ops : Array Oper} {Q : Exit → Act → World → Prop} {S : World → Prop} {rest : List (Nat × Bool)} {a b : Act} {w : World} {n : Nat} {D : List Nat} {L : List (Nat × Value)}
theorem St.evalg {j : Nat} {v : Value} {c : Bool} (h : St n D a b L) (hl : L.lookup j = some (bif c then v else undef)) (hc : c = true) : b.eval (.tmp j) = v := by
 rw [h.eval hl, hc]
 rfl
theorem op_parts {i d k : Nat} {op : Op} (ho : (ops[i]?).map (fun o => (o.dst, o.op, o.guard)) = some (some d, op, some (k, true))) : (ops[i]?).map (fun o => (o.dst, o.guard)) = some (some d, some (k, true)) := by
 cases hi : ops[i]? with
 | none => rw [hi] at ho; cases ho
 | some o => rw [hi] at ho; simp only [Option.map_some, Option.some.injEq, Prod.mk.injEq] at ho ⊢; exact ⟨ho.1, ho.2.2⟩
theorem St.gpure (h : St n D a b L) (i d : Nat) (op : Op) (k tt : Nat) (c : Bool) (v : Value) (ho : (ops[i]?).map (fun o => (o.dst, o.op, o.guard)) = some (some d, op, some (k, true))) (h2 : (ops[k]?).bind (·.dst) = some tt) (h3 : L.lookup tt = some (.bool c)) (hx : c = true → ∀ o : Oper, o.op = op → ∀ w, S w → (execOp b.eval o).run P w = .ok (.value v) w) (hS : S w) (hd : d < n) (h1 : D.contains d = true)
  (hr : ∀ b', St n D a b' ((d, bif c then v else undef) :: L) → RunH P ops Q S rest b' w) : RunH P ops Q S ((i, true) :: rest) b w := by
 cases c with
 | true => exact h.pure i d op (some (k, true)) v ho (h.asked k true tt h2 h3) (hx rfl) hS hd h1 hr
 | false => exact h.idle i d k true tt (op_parts ho) h2 h3 hS hd h1 hr
theorem St.gcall {B : Nat} {W0 : World} {R : Prop} (h : St n D a b L) (i d f : Nat) (args : Array Operand) (tys : Array TypeId) (k tt : Nat) (c : Bool) (vals : Array Value) (ho : (ops[i]?).map (fun o => (o.dst, o.op, o.guard)) = some (some d, .call { callee := .value (.func f), args := args, argTypes := tys }, some (k, true))) (h2 : (ops[k]?).bind (·.dst) = some tt) (h3 : L.lookup tt = some (.bool c))
  (hv : c = true → args.map b.eval = vals) (hf : isGo P f = true) (hd : d < n) (h1 : D.contains d = true) (hB : Below B W0 w) (hS9 : ∀ x, Below B W0 x → S x) (hc : Calls P f vals w fun e w' => (∃ r, e = .returned (.bool r) ∧ (r = true ↔ R)) ∧ Below w.heap.size w w') (hBw : B ≤ w.heap.size)
  (hr : ∀ b' w' r, St n D a b' ((d, bif c then .bool r else undef) :: L) → (c = true → (r = true ↔ R)) → Below B W0 w' → RunH P ops Q S rest b' w') : RunH P ops Q S ((i, false) :: rest) b w := by
 cases c with
 | true =>
  refine h.call i d f args tys (some (k, true)) vals ho (h.asked k true tt h2 h3) (hv rfl) hf hd h1 (hc.mono ?_)
  rintro e w' ⟨⟨r, rfl, hiff⟩, hb⟩
  have hb2 := hB.trans (hb.mono hBw)
  exact ⟨_, rfl, hS9 _ hb2, fun b' hst => hr b' w' r hst (fun _ => hiff) hb2⟩
 | false =>
  cases hi : ops[i]? with
  | none => rw [hi] at ho; cases ho
  | some o =>
   rw [hi] at ho
   simp only [Option.map_some, Option.some.injEq, Prod.mk.injEq] at ho
   obtain ⟨g1, g2, g3⟩ := ho
   have hy : yielded ops b.tmps k = some false := by
    have := h.holds tt _ h3
    unfold Has at this
    simp [yielded, h2, this]
   unfold RunH wpOp
   simp only [hi]
   rw [if_neg (by simp [Region.wanted, g3, hy]), g1]
   exact ⟨hS9 _ hB, hr _ w false (h.put hd h1) (fun e => by cases e) hB⟩
end
noncomputable def sqReg : Code := (Tryz.f11.body.bind (findReg 1)).getD .skip
noncomputable def sqOps : Array Oper := match sqReg with
 | .region _ ops _ => ops
 | _ => #[]
def sqD : List Nat := List.range' 4 54
theorem sqIs : sqReg = .region 1 sqOps true := by kernel_rfl
theorem sqSize : sqOps.size = 54 := by kernel_rfl
def sqOrd : List (Nat × Bool × Nat) := [(0, true, 1), (2, true, 5), (1, false, 7), (3, false, 15), (4, true, 31), (5, true, 63), (6, true, 127), (7, true, 255), (8, true, 511), (9, true, 1023), (10, false, 2047), (11, true, 4095), (12, true, 8191), (13, true, 16383), (14, true, 32767), (15, true, 65535), (16, true, 131071), (17, false, 262143), (18, true, 524287), (19, true, 1048575), (20, true, 2097151), (21, true, 4194303), (22, true, 8388607), (23, true, 16777215), (24, false, 33554431), (25, true, 67108863), (26, true, 134217727), (27, true, 268435455), (28, true, 536870911), (29, true, 1073741823), (30, true, 2147483647), (31, true, 4294967295), (32, true, 8589934591), (33, false, 17179869183), (34, true, 34359738367), (35, true, 68719476735), (36, true, 137438953471), (37, true, 274877906943), (38, true, 549755813887), (39, true, 1099511627775), (40, true, 2199023255551), (41, true, 4398046511103), (42, false, 8796093022207), (43, true, 17592186044415), (44, true, 35184372088831), (45, true, 70368744177663), (46, true, 140737488355327), (47, true, 281474976710655), (48, true, 562949953421311), (49, true, 1125899906842623), (50, true, 2251799813685247), (51, false, 4503599627370495), (52, true, 9007199254740991), (53, true, 18014398509481983)]
theorem sqOwn : okOwn sqOps = true := by kernel_rfl
theorem sqOk : okSteps sqOps 54 sqOrd 0 = true := by kernel_rfl
theorem sqSel : Region.noSelect sqOps = true := by kernel_rfl
theorem sqLen : Nat.ble sqOrd.length 54 = true := by kernel_rfl
theorem sqRun (s t : Sc) (m m' : Int) (A1 A2 A3 A4 A5 A6 B1 B2 B3 B4 B5 B6 : Option Addr) (n1 n2 n3 n4 n5 n6 k1 k2 k3 k4 k5 k6 j1 j2 j3 j4 j5 j6 l1 l2 l3 l4 l5 l6 : Nat) (g : Nat) (W : World) (hg : W.heap[g]? = some (.cells (vNq m s A1 A2 A3 A4 A5 A6 n1 n2 n3 n4 n5 n6 k1 k2 k3 k4 k5 k6) 30)) (hg2 : W.heap[g + 1]? = some (.cells (vNq m' t B1 B2 B3 B4 B5 B6 j1 j2 j3 j4 j5 j6 l1 l2 l3 l4 l5 l6) 30)) (HCells : ∀ w : World, Below W.heap.size W w → Calls Tryz.prog 30 #[.slice A1 n1 k1, .slice B1 j1 l1] w (EqPost (s.cells = t.cells) w)) (HOther : ∀ w : World, Below W.heap.size W w → Calls Tryz.prog 30 #[.slice A3 n3 k3, .slice B3 j3 l3] w (EqPost (s.other = t.other) w)) (HTabs : ∀ w : World, Below W.heap.size W w → Calls Tryz.prog 31 #[.slice A2 n2 k2, .slice B2 j2 l2] w (EqPost (s.tabs = t.tabs) w)) (HPar : ∀ w : World, Below W.heap.size W w → Calls Tryz.prog 32 #[.slice A4 n4 k4, .slice B4 j4 l4] w (EqPost (s.p.params = t.p.params) w)) (HInt : ∀ w : World, Below W.heap.size W w → Calls Tryz.prog 33 #[.slice A5 n5 k5, .slice B5 j5 l5] w (EqPost (s.p.inter = t.p.inter) w)) (HUtf : ∀ w : World, Below W.heap.size W w → Calls Tryz.prog 33 #[.slice A6 n6 k6, .slice B6 j6 l6] w (EqPost (s.p.utf = t.p.utf) w)) (Q : Exit → Act → World → Prop)
  (act : Act) (hst : St 58 sqD act act [(2, .pointer (some ⟨g, 0, none⟩)), (3, .pointer (some ⟨g + 1, 0, none⟩))]) (hQ : ∀ (bz : Bool) bfr wfin, Agree sqD act bfr → Has bfr 4 (.bool bz) → Below W.heap.size W wfin → (bz = true ↔ (fixB m s m' t = true ∧ s.cells = t.cells ∧ s.other = t.other ∧ s.tabs = t.tabs ∧ s.p.params = t.p.params ∧ s.p.inter = t.p.inter ∧ s.p.utf = t.p.utf)) → Q .normal bfr wfin) :
  RunH Tryz.prog sqOps Q (fun x : World => x.heap[g]? = some (.cells (vNq m s A1 A2 A3 A4 A5 A6 n1 n2 n3 n4 n5 n6 k1 k2 k3 k4 k5 k6) 30) ∧ x.heap[g + 1]? = some (.cells (vNq m' t B1 B2 B3 B4 B5 B6 j1 j2 j3 j4 j5 j6 l1 l2 l3 l4 l5 l6) 30)) (sqOrd.map fun x => (x.1, x.2.1)) act (W).drew := by
 have hgl : g + 1 < W.heap.size := lt3 hg2
 have HS9 : ∀ x : World, Below W.heap.size W x → x.heap[g]? = some (.cells (vNq m s A1 A2 A3 A4 A5 A6 n1 n2 n3 n4 n5 n6 k1 k2 k3 k4 k5 k6) 30) ∧ x.heap[g + 1]? = some (.cells (vNq m' t B1 B2 B3 B4 B5 B6 j1 j2 j3 j4 j5 j6 l1 l2 l3 l4 l5 l6) 30) := fun x hx => ⟨(hx.block _ (by omega)).trans hg, (hx.block _ hgl).trans hg2⟩
 have U0 : Below W.heap.size W W.drew := (Below.refl _ _).drew
 have hSw := HS9 _ U0
 simp only [sqOrd, List.map_cons, List.map_nil]
 refine hst.pure 0 5 (.load 30 (.tmp 2)) none (.agg (vNq m s A1 A2 A3 A4 A5 A6 n1 n2 n3 n4 n5 n6 k1 k2 k3 k4 k5 k6)) (by kernel_rfl) trivial (fun o ho w hw => ex_loadS (hst.eval (by rfl)) o ho w hw.1 rfl) hSw (by decide) (by decide) fun bt hst => ?_
 refine hst.pure 2 7 (.load 30 (.tmp 3)) none (.agg (vNq m' t B1 B2 B3 B4 B5 B6 j1 j2 j3 j4 j5 j6 l1 l2 l3 l4 l5 l6)) (by kernel_rfl) trivial (fun o ho w hw => ex_loadS (hst.eval (by rfl)) o ho w hw.2 rfl) hSw (by decide) (by decide) fun bt hst => ?_
 refine hst.call 1 6 29 #[.tmp 5] #[30] none #[.agg (vNq m s A1 A2 A3 A4 A5 A6 n1 n2 n3 n4 n5 n6 k1 k2 k3 k4 k5 k6)] (by kernel_rfl) trivial (map1 (hst.eval (by rfl))) (by kernel_rfl) (by decide) (by decide) ?_
 refine (fixedOf_any s m A1 A2 A3 A4 A5 A6 n1 n2 n3 n4 n5 n6 k1 k2 k3 k4 k5 k6 _).mono ?_
 rintro e w1 ⟨rfl, b1⟩
 have U1 := U0.trans (b1.mono U0.size)
 refine ⟨_, rfl, HS9 _ U1, fun bt hst => ?_⟩
 have hSw := HS9 _ U1
 refine hst.call 3 8 29 #[.tmp 7] #[30] none #[.agg (vNq m' t B1 B2 B3 B4 B5 B6 j1 j2 j3 j4 j5 j6 l1 l2 l3 l4 l5 l6)] (by kernel_rfl) trivial (map1 (hst.eval (by rfl))) (by kernel_rfl) (by decide) (by decide) ?_
 refine (fixedOf_any t m' B1 B2 B3 B4 B5 B6 j1 j2 j3 j4 j5 j6 l1 l2 l3 l4 l5 l6 _).mono ?_
 rintro e w2 ⟨rfl, b2⟩
 have U2 := U1.trans (b2.mono U1.size)
 refine ⟨_, rfl, HS9 _ U2, fun bt hst => ?_⟩
 have hSw := HS9 _ U2
 refine hst.pure 4 9 (.binOp .eql 61 (.tmp 6) (.tmp 8) 61) none (.bool (fixB m s m' t)) (by kernel_rfl) trivial (fun o ho w hw => ex_eqF (hst.eval (by rfl)) (hst.eval (by rfl)) o ho w) hSw (by decide) (by decide) fun bt hst => ?_
 refine hst.pure 5 10 (.move (.tmp 9)) none (.bool (fixB m s m' t)) (by kernel_rfl) trivial (fun o ho w hw => exec_move _ (hst.eval (by rfl)) o ho w) hSw (by decide) (by decide) fun bt hst => ?_
 refine hst.gpure 6 11 (.fieldAddr 30 (.tmp 2) 2) 5 10 (fixB m s m' t) (.pointer (some ⟨g, 2, none⟩)) (by kernel_rfl) (by kernel_rfl) (by rfl) (fun hb o ho w hw => ex_field2 (hst.eval (by rfl)) o ho _) hSw (by decide) (by decide) fun bt hst => ?_
 refine hst.gpure 7 12 (.load 22 (.tmp 11)) 5 10 (fixB m s m' t) (.slice A1 n1 k1) (by kernel_rfl) (by kernel_rfl) (by rfl) (fun hb o ho w hw => ex_loadC (hst.evalg (by rfl) hb) o ho w (cellR hw.1 2 rfl).1) hSw (by decide) (by decide) fun bt hst => ?_
 refine hst.gpure 8 13 (.fieldAddr 30 (.tmp 3) 2) 5 10 (fixB m s m' t) (.pointer (some ⟨g + 1, 2, none⟩)) (by kernel_rfl) (by kernel_rfl) (by rfl) (fun hb o ho w hw => ex_field2 (hst.eval (by rfl)) o ho _) hSw (by decide) (by decide) fun bt hst => ?_
 refine hst.gpure 9 14 (.load 22 (.tmp 13)) 5 10 (fixB m s m' t) (.slice B1 j1 l1) (by kernel_rfl) (by kernel_rfl) (by rfl) (fun hb o ho w hw => ex_loadC (hst.evalg (by rfl) hb) o ho w (cellR hw.2 2 rfl).1) hSw (by decide) (by decide) fun bt hst => ?_
 refine hst.gcall (B := W.heap.size) (W0 := W) (R := s.cells = t.cells) 10 15 30 #[.tmp 12, .tmp 14] #[22, 22] 5 10 (fixB m s m' t) #[.slice A1 n1 k1, .slice B1 j1 l1] (by kernel_rfl) (by kernel_rfl) (by rfl) (fun hb => map2 (hst.evalg (by rfl) hb) (hst.evalg (by rfl) hb)) (by kernel_rfl) (by decide) (by decide) U2 HS9 (HCells _ U2) U2.size fun bt w3 c1 hst hc1 U3 => ?_
 have hSw := HS9 _ U3
 refine hst.pure 11 16 (.pick (.tmp 10) (.tmp 15) (.const (.bool false))) none (.bool (fixB m s m' t && c1)) (by kernel_rfl) trivial (fun o ho w hw => exec_pickG (hst.eval (by rfl)) (hst.eval (by rfl)) o ho w rfl) hSw (by decide) (by decide) fun bt hst => ?_
 refine hst.pure 12 17 (.move (.tmp 16)) none (.bool (fixB m s m' t && c1)) (by kernel_rfl) trivial (fun o ho w hw => exec_move _ (hst.eval (by rfl)) o ho w) hSw (by decide) (by decide) fun bt hst => ?_
 refine hst.gpure 13 18 (.fieldAddr 30 (.tmp 2) 16) 12 17 (fixB m s m' t && c1) (.pointer (some ⟨g, 16, none⟩)) (by kernel_rfl) (by kernel_rfl) (by rfl) (fun hb o ho w hw => ex_field16 (hst.eval (by rfl)) o ho _) hSw (by decide) (by decide) fun bt hst => ?_
 refine hst.gpure 14 19 (.load 22 (.tmp 18)) 12 17 (fixB m s m' t && c1) (.slice A3 n3 k3) (by kernel_rfl) (by kernel_rfl) (by rfl) (fun hb o ho w hw => ex_loadC (hst.evalg (by rfl) hb) o ho w (cellR hw.1 16 rfl).1) hSw (by decide) (by decide) fun bt hst => ?_
 refine hst.gpure 15 20 (.fieldAddr 30 (.tmp 3) 16) 12 17 (fixB m s m' t && c1) (.pointer (some ⟨g + 1, 16, none⟩)) (by kernel_rfl) (by kernel_rfl) (by rfl) (fun hb o ho w hw => ex_field16 (hst.eval (by rfl)) o ho _) hSw (by decide) (by decide) fun bt hst => ?_
 refine hst.gpure 16 21 (.load 22 (.tmp 20)) 12 17 (fixB m s m' t && c1) (.slice B3 j3 l3) (by kernel_rfl) (by kernel_rfl) (by rfl) (fun hb o ho w hw => ex_loadC (hst.evalg (by rfl) hb) o ho w (cellR hw.2 16 rfl).1) hSw (by decide) (by decide) fun bt hst => ?_
 refine hst.gcall (B := W.heap.size) (W0 := W) (R := s.other = t.other) 17 22 30 #[.tmp 19, .tmp 21] #[22, 22] 12 17 (fixB m s m' t && c1) #[.slice A3 n3 k3, .slice B3 j3 l3] (by kernel_rfl) (by kernel_rfl) (by rfl) (fun hb => map2 (hst.evalg (by rfl) hb) (hst.evalg (by rfl) hb)) (by kernel_rfl) (by decide) (by decide) U3 HS9 (HOther _ U3) U3.size fun bt w4 c2 hst hc2 U4 => ?_
 have hSw := HS9 _ U4
 refine hst.pure 18 23 (.pick (.tmp 17) (.tmp 22) (.const (.bool false))) none (.bool (fixB m s m' t && c1 && c2)) (by kernel_rfl) trivial (fun o ho w hw => exec_pickG (hst.eval (by rfl)) (hst.eval (by rfl)) o ho w rfl) hSw (by decide) (by decide) fun bt hst => ?_
 refine hst.pure 19 24 (.move (.tmp 23)) none (.bool (fixB m s m' t && c1 && c2)) (by kernel_rfl) trivial (fun o ho w hw => exec_move _ (hst.eval (by rfl)) o ho w) hSw (by decide) (by decide) fun bt hst => ?_
 refine hst.gpure 20 25 (.fieldAddr 30 (.tmp 2) 9) 19 24 (fixB m s m' t && c1 && c2) (.pointer (some ⟨g, 9, none⟩)) (by kernel_rfl) (by kernel_rfl) (by rfl) (fun hb o ho w hw => ex_field9 (hst.eval (by rfl)) o ho _) hSw (by decide) (by decide) fun bt hst => ?_
 refine hst.gpure 21 26 (.load 24 (.tmp 25)) 19 24 (fixB m s m' t && c1 && c2) (.slice A2 n2 k2) (by kernel_rfl) (by kernel_rfl) (by rfl) (fun hb o ho w hw => ex_loadT (hst.evalg (by rfl) hb) o ho w (cellR hw.1 9 rfl).1) hSw (by decide) (by decide) fun bt hst => ?_
 refine hst.gpure 22 27 (.fieldAddr 30 (.tmp 3) 9) 19 24 (fixB m s m' t && c1 && c2) (.pointer (some ⟨g + 1, 9, none⟩)) (by kernel_rfl) (by kernel_rfl) (by rfl) (fun hb o ho w hw => ex_field9 (hst.eval (by rfl)) o ho _) hSw (by decide) (by decide) fun bt hst => ?_
 refine hst.gpure 23 28 (.load 24 (.tmp 27)) 19 24 (fixB m s m' t && c1 && c2) (.slice B2 j2 l2) (by kernel_rfl) (by kernel_rfl) (by rfl) (fun hb o ho w hw => ex_loadT (hst.evalg (by rfl) hb) o ho w (cellR hw.2 9 rfl).1) hSw (by decide) (by decide) fun bt hst => ?_
 refine hst.gcall (B := W.heap.size) (W0 := W) (R := s.tabs = t.tabs) 24 29 31 #[.tmp 26, .tmp 28] #[24, 24] 19 24 (fixB m s m' t && c1 && c2) #[.slice A2 n2 k2, .slice B2 j2 l2] (by kernel_rfl) (by kernel_rfl) (by rfl) (fun hb => map2 (hst.evalg (by rfl) hb) (hst.evalg (by rfl) hb)) (by kernel_rfl) (by decide) (by decide) U4 HS9 (HTabs _ U4) U4.size fun bt w5 c3 hst hc3 U5 => ?_
 have hSw := HS9 _ U5
 refine hst.pure 25 30 (.pick (.tmp 24) (.tmp 29) (.const (.bool false))) none (.bool (fixB m s m' t && c1 && c2 && c3)) (by kernel_rfl) trivial (fun o ho w hw => exec_pickG (hst.eval (by rfl)) (hst.eval (by rfl)) o ho w rfl) hSw (by decide) (by decide) fun bt hst => ?_
 refine hst.pure 26 31 (.move (.tmp 30)) none (.bool (fixB m s m' t && c1 && c2 && c3)) (by kernel_rfl) trivial (fun o ho w hw => exec_move _ (hst.eval (by rfl)) o ho w) hSw (by decide) (by decide) fun bt hst => ?_
 refine hst.gpure 27 32 (.fieldAddr 30 (.tmp 2) 19) 26 31 (fixB m s m' t && c1 && c2 && c3) (.pointer (some ⟨g, 19, none⟩)) (by kernel_rfl) (by kernel_rfl) (by rfl) (fun hb o ho w hw => ex_field19 (hst.eval (by rfl)) o ho _) hSw (by decide) (by decide) fun bt hst => ?_
 refine hst.gpure 28 33 (.fieldAddr 28 (.tmp 32) 2) 26 31 (fixB m s m' t && c1 && c2 && c3) (.pointer (some ⟨g, 21, none⟩)) (by kernel_rfl) (by kernel_rfl) (by rfl) (fun hb o ho w hw => ex_fieldQ2 (hst.evalg (by rfl) hb) o ho _) hSw (by decide) (by decide) fun bt hst => ?_
 refine hst.gpure 29 34 (.load 25 (.tmp 33)) 26 31 (fixB m s m' t && c1 && c2 && c3) (.slice A4 n4 k4) (by kernel_rfl) (by kernel_rfl) (by rfl) (fun hb o ho w hw => ex_loadIQ (hst.evalg (by rfl) hb) o ho w (cellR hw.1 21 rfl).1) hSw (by decide) (by decide) fun bt hst => ?_
 refine hst.gpure 30 35 (.fieldAddr 30 (.tmp 3) 19) 26 31 (fixB m s m' t && c1 && c2 && c3) (.pointer (some ⟨g + 1, 19, none⟩)) (by kernel_rfl) (by kernel_rfl) (by rfl) (fun hb o ho w hw => ex_field19 (hst.eval (by rfl)) o ho _) hSw (by decide) (by decide) fun bt hst => ?_
 refine hst.gpure 31 36 (.fieldAddr 28 (.tmp 35) 2) 26 31 (fixB m s m' t && c1 && c2 && c3) (.pointer (some ⟨g + 1, 21, none⟩)) (by kernel_rfl) (by kernel_rfl) (by rfl) (fun hb o ho w hw => ex_fieldQ2 (hst.evalg (by rfl) hb) o ho _) hSw (by decide) (by decide) fun bt hst => ?_
 refine hst.gpure 32 37 (.load 25 (.tmp 36)) 26 31 (fixB m s m' t && c1 && c2 && c3) (.slice B4 j4 l4) (by kernel_rfl) (by kernel_rfl) (by rfl) (fun hb o ho w hw => ex_loadIQ (hst.evalg (by rfl) hb) o ho w (cellR hw.2 21 rfl).1) hSw (by decide) (by decide) fun bt hst => ?_
 refine hst.gcall (B := W.heap.size) (W0 := W) (R := s.p.params = t.p.params) 33 38 32 #[.tmp 34, .tmp 37] #[25, 25] 26 31 (fixB m s m' t && c1 && c2 && c3) #[.slice A4 n4 k4, .slice B4 j4 l4] (by kernel_rfl) (by kernel_rfl) (by rfl) (fun hb => map2 (hst.evalg (by rfl) hb) (hst.evalg (by rfl) hb)) (by kernel_rfl) (by decide) (by decide) U5 HS9 (HPar _ U5) U5.size fun bt w6 c4 hst hc4 U6 => ?_
 have hSw := HS9 _ U6
 refine hst.pure 34 39 (.pick (.tmp 31) (.tmp 38) (.const (.bool false))) none (.bool (fixB m s m' t && c1 && c2 && c3 && c4)) (by kernel_rfl) trivial (fun o ho w hw => exec_pickG (hst.eval (by rfl)) (hst.eval (by rfl)) o ho w rfl) hSw (by decide) (by decide) fun bt hst => ?_
 refine hst.pure 35 40 (.move (.tmp 39)) none (.bool (fixB m s m' t && c1 && c2 && c3 && c4)) (by kernel_rfl) trivial (fun o ho w hw => exec_move _ (hst.eval (by rfl)) o ho w) hSw (by decide) (by decide) fun bt hst => ?_
 refine hst.gpure 36 41 (.fieldAddr 30 (.tmp 2) 19) 35 40 (fixB m s m' t && c1 && c2 && c3 && c4) (.pointer (some ⟨g, 19, none⟩)) (by kernel_rfl) (by kernel_rfl) (by rfl) (fun hb o ho w hw => ex_field19 (hst.eval (by rfl)) o ho _) hSw (by decide) (by decide) fun bt hst => ?_
 refine hst.gpure 37 42 (.fieldAddr 28 (.tmp 41) 3) 35 40 (fixB m s m' t && c1 && c2 && c3 && c4) (.pointer (some ⟨g, 22, none⟩)) (by kernel_rfl) (by kernel_rfl) (by rfl) (fun hb o ho w hw => ex_fieldQ3 (hst.evalg (by rfl) hb) o ho _) hSw (by decide) (by decide) fun bt hst => ?_
 refine hst.gpure 38 43 (.load 26 (.tmp 42)) 35 40 (fixB m s m' t && c1 && c2 && c3 && c4) (.slice A5 n5 k5) (by kernel_rfl) (by kernel_rfl) (by rfl) (fun hb o ho w hw => ex_loadBQ (hst.evalg (by rfl) hb) o ho w (cellR hw.1 22 rfl).1) hSw (by decide) (by decide) fun bt hst => ?_
 refine hst.gpure 39 44 (.fieldAddr 30 (.tmp 3) 19) 35 40 (fixB m s m' t && c1 && c2 && c3 && c4) (.pointer (some ⟨g + 1, 19, none⟩)) (by kernel_rfl) (by kernel_rfl) (by rfl) (fun hb o ho w hw => ex_field19 (hst.eval (by rfl)) o ho _) hSw (by decide) (by decide) fun bt hst => ?_
 refine hst.gpure 40 45 (.fieldAddr 28 (.tmp 44) 3) 35 40 (fixB m s m' t && c1 && c2 && c3 && c4) (.pointer (some ⟨g + 1, 22, none⟩)) (by kernel_rfl) (by kernel_rfl) (by rfl) (fun hb o ho w hw => ex_fieldQ3 (hst.evalg (by rfl) hb) o ho _) hSw (by decide) (by decide) fun bt hst => ?_
 refine hst.gpure 41 46 (.load 26 (.tmp 45)) 35 40 (fixB m s m' t && c1 && c2 && c3 && c4) (.slice B5 j5 l5) (by kernel_rfl) (by kernel_rfl) (by rfl) (fun hb o ho w hw => ex_loadBQ (hst.evalg (by rfl) hb) o ho w (cellR hw.2 22 rfl).1) hSw (by decide) (by decide) fun bt hst => ?_
 refine hst.gcall (B := W.heap.size) (W0 := W) (R := s.p.inter = t.p.inter) 42 47 33 #[.tmp 43, .tmp 46] #[26, 26] 35 40 (fixB m s m' t && c1 && c2 && c3 && c4) #[.slice A5 n5 k5, .slice B5 j5 l5] (by kernel_rfl) (by kernel_rfl) (by rfl) (fun hb => map2 (hst.evalg (by rfl) hb) (hst.evalg (by rfl) hb)) (by kernel_rfl) (by decide) (by decide) U6 HS9 (HInt _ U6) U6.size fun bt w7 c5 hst hc5 U7 => ?_
 have hSw := HS9 _ U7
 refine hst.pure 43 48 (.pick (.tmp 40) (.tmp 47) (.const (.bool false))) none (.bool (fixB m s m' t && c1 && c2 && c3 && c4 && c5)) (by kernel_rfl) trivial (fun o ho w hw => exec_pickG (hst.eval (by rfl)) (hst.eval (by rfl)) o ho w rfl) hSw (by decide) (by decide) fun bt hst => ?_
 refine hst.pure 44 49 (.move (.tmp 48)) none (.bool (fixB m s m' t && c1 && c2 && c3 && c4 && c5)) (by kernel_rfl) trivial (fun o ho w hw => exec_move _ (hst.eval (by rfl)) o ho w) hSw (by decide) (by decide) fun bt hst => ?_
 refine hst.gpure 45 50 (.fieldAddr 30 (.tmp 2) 19) 44 49 (fixB m s m' t && c1 && c2 && c3 && c4 && c5) (.pointer (some ⟨g, 19, none⟩)) (by kernel_rfl) (by kernel_rfl) (by rfl) (fun hb o ho w hw => ex_field19 (hst.eval (by rfl)) o ho _) hSw (by decide) (by decide) fun bt hst => ?_
 refine hst.gpure 46 51 (.fieldAddr 28 (.tmp 50) 4) 44 49 (fixB m s m' t && c1 && c2 && c3 && c4 && c5) (.pointer (some ⟨g, 23, none⟩)) (by kernel_rfl) (by kernel_rfl) (by rfl) (fun hb o ho w hw => ex_fieldQ4 (hst.evalg (by rfl) hb) o ho _) hSw (by decide) (by decide) fun bt hst => ?_
 refine hst.gpure 47 52 (.load 26 (.tmp 51)) 44 49 (fixB m s m' t && c1 && c2 && c3 && c4 && c5) (.slice A6 n6 k6) (by kernel_rfl) (by kernel_rfl) (by rfl) (fun hb o ho w hw => ex_loadBQ (hst.evalg (by rfl) hb) o ho w (cellR hw.1 23 rfl).1) hSw (by decide) (by decide) fun bt hst => ?_
 refine hst.gpure 48 53 (.fieldAddr 30 (.tmp 3) 19) 44 49 (fixB m s m' t && c1 && c2 && c3 && c4 && c5) (.pointer (some ⟨g + 1, 19, none⟩)) (by kernel_rfl) (by kernel_rfl) (by rfl) (fun hb o ho w hw => ex_field19 (hst.eval (by rfl)) o ho _) hSw (by decide) (by decide) fun bt hst => ?_
 refine hst.gpure 49 54 (.fieldAddr 28 (.tmp 53) 4) 44 49 (fixB m s m' t && c1 && c2 && c3 && c4 && c5) (.pointer (some ⟨g + 1, 23, none⟩)) (by kernel_rfl) (by kernel_rfl) (by rfl) (fun hb o ho w hw => ex_fieldQ4 (hst.evalg (by rfl) hb) o ho _) hSw (by decide) (by decide) fun bt hst => ?_
 refine hst.gpure 50 55 (.load 26 (.tmp 54)) 44 49 (fixB m s m' t && c1 && c2 && c3 && c4 && c5) (.slice B6 j6 l6) (by kernel_rfl) (by kernel_rfl) (by rfl) (fun hb o ho w hw => ex_loadBQ (hst.evalg (by rfl) hb) o ho w (cellR hw.2 23 rfl).1) hSw (by decide) (by decide) fun bt hst => ?_
 refine hst.gcall (B := W.heap.size) (W0 := W) (R := s.p.utf = t.p.utf) 51 56 33 #[.tmp 52, .tmp 55] #[26, 26] 44 49 (fixB m s m' t && c1 && c2 && c3 && c4 && c5) #[.slice A6 n6 k6, .slice B6 j6 l6] (by kernel_rfl) (by kernel_rfl) (by rfl) (fun hb => map2 (hst.evalg (by rfl) hb) (hst.evalg (by rfl) hb)) (by kernel_rfl) (by decide) (by decide) U7 HS9 (HUtf _ U7) U7.size fun bt w8 c6 hst hc6 U8 => ?_
 have hSw := HS9 _ U8
 refine hst.pure 52 57 (.pick (.tmp 49) (.tmp 56) (.const (.bool false))) none (.bool (fixB m s m' t && c1 && c2 && c3 && c4 && c5 && c6)) (by kernel_rfl) trivial (fun o ho w hw => exec_pickG (hst.eval (by rfl)) (hst.eval (by rfl)) o ho w rfl) hSw (by decide) (by decide) fun bt hst => ?_
 refine hst.pure 53 4 (.assign (.tmp 57)) none (.bool (fixB m s m' t && c1 && c2 && c3 && c4 && c5 && c6)) (by kernel_rfl) trivial (fun o ho w hw => ex_assign _ (hst.eval (by rfl)) o ho w) hSw (by decide) (by decide) fun bt hst => ?_
 exact hQ _ _ _ hst.agree (hst.holds 4 _ (by rfl)) U8 (and6 hc1 hc2 hc3 hc4 hc5 hc6)
theorem sqAt (s t : Sc) (m m' : Int) (A1 A2 A3 A4 A5 A6 B1 B2 B3 B4 B5 B6 : Option Addr) (n1 n2 n3 n4 n5 n6 k1 k2 k3 k4 k5 k6 j1 j2 j3 j4 j5 j6 l1 l2 l3 l4 l5 l6 : Nat) (g : Nat) (W : World) (hg : W.heap[g]? = some (.cells (vNq m s A1 A2 A3 A4 A5 A6 n1 n2 n3 n4 n5 n6 k1 k2 k3 k4 k5 k6) 30)) (hg2 : W.heap[g + 1]? = some (.cells (vNq m' t B1 B2 B3 B4 B5 B6 j1 j2 j3 j4 j5 j6 l1 l2 l3 l4 l5 l6) 30)) (HCells : ∀ w : World, Below W.heap.size W w → Calls Tryz.prog 30 #[.slice A1 n1 k1, .slice B1 j1 l1] w (EqPost (s.cells = t.cells) w)) (HOther : ∀ w : World, Below W.heap.size W w → Calls Tryz.prog 30 #[.slice A3 n3 k3, .slice B3 j3 l3] w (EqPost (s.other = t.other) w)) (HTabs : ∀ w : World, Below W.heap.size W w → Calls Tryz.prog 31 #[.slice A2 n2 k2, .slice B2 j2 l2] w (EqPost (s.tabs = t.tabs) w)) (HPar : ∀ w : World, Below W.heap.size W w → Calls Tryz.prog 32 #[.slice A4 n4 k4, .slice B4 j4 l4] w (EqPost (s.p.params = t.p.params) w)) (HInt : ∀ w : World, Below W.heap.size W w → Calls Tryz.prog 33 #[.slice A5 n5 k5, .slice B5 j5 l5] w (EqPost (s.p.inter = t.p.inter) w)) (HUtf : ∀ w : World, Below W.heap.size W w → Calls Tryz.prog 33 #[.slice A6 n6 k6, .slice B6 j6 l6] w (EqPost (s.p.utf = t.p.utf) w)) (Q : Exit → Act → World → Prop) {u0 u1 u4 u5 u6 u7 u8 u9 u10 u11 u12 u13 u14 u15 u16 u17 u18 u19 u20 u21 u22 u23 u24 u25 u26 u27 u28 u29 u30 u31 u32 u33 u34 u35 u36 u37 u38 u39 u40 u41 u42 u43 u44 u45 u46 u47 u48 u49 u50 u51 u52 u53 u54 u55 u56 u57 : Value}
  (hQ : ∀ (bz : Bool) (f : Nat → Value) (wfin : World), Below W.heap.size W wfin → (bz = true ↔ (fixB m s m' t = true ∧ s.cells = t.cells ∧ s.other = t.other ∧ s.tabs = t.tabs ∧ s.p.params = t.p.params ∧ s.p.inter = t.p.inter ∧ s.p.utf = t.p.utf)) → Q .normal ⟨#[u0, u1, .pointer (some ⟨g, 0, none⟩), .pointer (some ⟨g + 1, 0, none⟩), .bool bz, f 5, f 6, f 7, f 8, f 9, f 10, f 11, f 12, f 13, f 14, f 15, f 16, f 17, f 18, f 19, f 20, f 21, f 22, f 23, f 24, f 25, f 26, f 27, f 28, f 29, f 30, f 31, f 32, f 33, f 34, f 35, f 36, f 37, f 38, f 39, f 40, f 41, f 42, f 43, f 44, f 45, f 46, f 47, f 48, f 49, f 50, f 51, f 52, f 53, f 54, f 55, f 56, f 57], []⟩ wfin) :
  Code.wp Tryz.prog sqReg Q ⟨#[u0, u1, .pointer (some ⟨g, 0, none⟩), .pointer (some ⟨g + 1, 0, none⟩), u4, u5, u6, u7, u8, u9, u10, u11, u12, u13, u14, u15, u16, u17, u18, u19, u20, u21, u22, u23, u24, u25, u26, u27, u28, u29, u30, u31, u32, u33, u34, u35, u36, u37, u38, u39, u40, u41, u42, u43, u44, u45, u46, u47, u48, u49, u50, u51, u52, u53, u54, u55, u56, u57], []⟩ (W) := by
 refine Code.wp_mono NoPanic.imp ?_
 rw [sqIs]
 refine region_run (S := (fun x : World => x.heap[g]? = some (.cells (vNq m s A1 A2 A3 A4 A5 A6 n1 n2 n3 n4 n5 n6 k1 k2 k3 k4 k5 k6) 30) ∧ x.heap[g + 1]? = some (.cells (vNq m' t B1 B2 B3 B4 B5 B6 j1 j2 j3 j4 j5 j6 l1 l2 l3 l4 l5 l6) 30))) sqOrd (by kernel_rfl) sqSel (fun _ _ _ _ _ h => h) sqSize sqLen sqOwn sqOk (⟨hg, hg2⟩) ?_
 refine sqRun s t m m' A1 A2 A3 A4 A5 A6 B1 B2 B3 B4 B5 B6 n1 n2 n3 n4 n5 n6 k1 k2 k3 k4 k5 k6 j1 j2 j3 j4 j5 j6 l1 l2 l3 l4 l5 l6 g W hg hg2 HCells HOther HTabs HPar HInt HUtf _ _ ⟨rfl, Agree.refl, fun j v h => ?_⟩ fun bz bfr wfin hag hv4 hb ho => NoPanic.normal ?_
 ·simp only [List.lookup_cons] at h
  repeat (split at h; · (rename_i e; have e2 := eq_of_beq e; subst e2; injection h with h; subst h; rfl))
  cases h
 ·obtain ⟨f, rfl, hf⟩ := hag.formA 58 rfl
  have e4 : f 4 = .bool bz := hf 4 _ hv4
  have := hQ bz f wfin hb ho
  rw [← e4] at this
  exact (congrArg (fun l => Q .normal ⟨l, []⟩ wfin) (by kernel_rfl)).mpr this
theorem eqC_any (v u : Value) (l m : List Cl) (w : World) (h : CS w w.heap.size v l) (g : CS w w.heap.size u m) (hl : l.length ≤ 1048576) (hl2 : m.length ≤ 1048576) : Calls Tryz.prog 30 #[v, u] w (EqPost (l = m) w) := by
 by_cases hm : m.length = l.length
 ·exact equalC_any v u l m w h g hl hm
 ·obtain ⟨A, cp, rfl, g1, g2⟩ := h.form
  obtain ⟨D, cd, rfl, g3, g4⟩ := g.form
  have hlm : (((l.length : Nat) : Int) != ((m.length : Nat) : Int)) = true := by simp; omega
  have hno : ¬ l = m := fun e => hm (by rw [e])
  clear hm
  go_enter Tryz.func30, Tryz.ntmps30
  go_wp2
  go_ret
  exact ⟨⟨false, rfl, ⟨(fun h => by cases h), fun h => absurd h hno⟩⟩, Below.refl _ _⟩
def SameR (m : Int) (s : Sc) (m' : Int) (t : Sc) : Prop := fixB m s m' t = true ∧ s.cells = t.cells ∧ s.other = t.other ∧ s.tabs = t.tabs ∧ s.p.params = t.p.params ∧ s.p.inter = t.p.inter ∧ s.p.utf = t.p.utf
theorem sameR_iff (s t : Sc) : SameR (s.p.mode : Int) s (t.p.mode : Int) t ↔ s = t := by
 constructor
 ·rintro ⟨h, e1, e2, e3, e4, e5, e6⟩
  unfold fixB at h
  simp only [Bool.and_eq_true, decide_eq_true_eq] at h
  obtain ⟨a1, a2, a3, a4, a5, a6, a7, a8, a9, a10, a11, a12, a13, a14, a15, a16, a17, a18, -⟩ := h
  obtain ⟨r1, r2, r3, r4, r5, r6, r7, r8, r9, r10, r11, r12, r13, r14, r15, r16, r17, r18, r19, ⟨r20, r21, r22, r23, r24⟩⟩ := s
  obtain ⟨s1, s2, s3, s4, s5, s6, s7, s8, s9, s10, s11, s12, s13, s14, s15, s16, s17, s18, s19, ⟨s20, s21, s22, s23, s24⟩⟩ := t
  simp only at a1 a2 a3 a4 a5 a6 a7 a8 a9 a10 a11 a12 a13 a14 a15 a16 a17 a18 e1 e2 e3 e4 e5 e6
  have b9 := Int.ofNat.inj a9
  have b10 := Int.ofNat.inj a10
  have b17 := Int.ofNat.inj a17
  have b18 := Int.ofNat.inj a18
  subst a1 a2 a3 a4 a5 a6 a7 a8 b9 b10 a11 a12 a13 a14 a15 a16 b17 b18 e1 e2 e3 e4 e5 e6
  rfl
 ·rintro rfl
  exact ⟨fixB_self _ _, rfl, rfl, rfl, rfl, rfl, rfl⟩
theorem sslForms {w : World} {S : Nat → Prop} {s : Sc} {vc vt vo vp vi vu : Value} (h : SSl w S s vc vt vo vp vi vu) : ∃ A1 k1 A2 k2 A3 k3 A4 k4 A5 k5 A6 k6, vc = .slice A1 s.cells.length k1 ∧ vt = .slice A2 s.tabs.length k2 ∧ vo = .slice A3 s.other.length k3 ∧ vp = .slice A4 s.p.params.length k4 ∧ vi = .slice A5 s.p.inter.length k5 ∧ vu = .slice A6 s.p.utf.length k6 := by
 obtain ⟨g1, g2, g3, g4, g5, g6⟩ := h
 obtain ⟨A1, k1, e1, -⟩ := g1.form
 obtain ⟨A2, k2, e2, -⟩ := g2.form
 obtain ⟨A3, k3, e3, -⟩ := g3.form
 obtain ⟨A4, k4, e4, -⟩ := g4.form
 obtain ⟨A5, k5, e5, -⟩ := g5.form
 obtain ⟨A6, k6, e6, -⟩ := g6.form
 exact ⟨A1, k1, A2, k2, A3, k3, A4, k4, A5, k5, A6, k6, e1, e2, e3, e4, e5, e6⟩
theorem SSl.bel {w w' : World} {S : Nat → Prop} {s : Sc} {vc vt vo vp vi vu : Value} (h : SSl w S s vc vt vo vp vi vu) (hS : ∀ x, S x → x < w.heap.size) (hb : Below w.heap.size w w') : SSl w' S s vc vt vo vp vi vu := h.below hS hb
theorem pSame_any (m m' : Int) (s t : Sc) (vc vt vo vp vi vu uc ut uo up ui uu : Value) (S : Nat → Prop) (w : World) (hS : ∀ x, S x → x < w.heap.size) (hs : SSl w S s vc vt vo vp vi vu) (ht : SSl w S t uc ut uo up ui uu)
  (h1 : s.cells.length ≤ 1048576 ∧ s.other.length ≤ 1048576 ∧ s.tabs.length ≤ 1048576 ∧ s.p.params.length ≤ 1048576 ∧ s.p.inter.length ≤ 1048576 ∧ s.p.utf.length ≤ 1048576) (h2 : t.cells.length ≤ 1048576 ∧ t.other.length ≤ 1048576 ∧ t.tabs.length ≤ 1048576 ∧ t.p.params.length ≤ 1048576 ∧ t.p.inter.length ≤ 1048576 ∧ t.p.utf.length ≤ 1048576) :
  Calls Tryz.prog 11 #[.agg (vRaw m s vc vt vo vp vi vu), .agg (vRaw m' t uc ut uo up ui uu)] w (EqPost (SameR m s m' t) w) := by
 have HSS := Lh hS
 have HS := Lh hs
 have HT := Lh ht
 have H1 := Lh h1
 have H2 := Lh h2
 obtain ⟨A1, k1, A2, k2, A3, k3, A4, k4, A5, k5, A6, k6, rfl, rfl, rfl, rfl, rfl, rfl⟩ := sslForms hs
 obtain ⟨B1, l1, B2, l2, B3, l3, B4, l4, B5, l5, B6, l6, rfl, rfl, rfl, rfl, rfl, rfl⟩ := sslForms ht
 clear hs ht h1 h2 hS
 obtain ⟨k0, kk⟩ := two_keptB (w := w) (x := .cells (vMq m s A1 A2 A3 A4 A5 A6 k1 k2 k3 k4 k5 k6) 30) (y := .cells (vMq m' t B1 B2 B3 B4 B5 B6 l1 l2 l3 l4 l5 l6) 30) (Below.refl _ _)
 obtain ⟨bw, sw⟩ := two_new w (.cells (vMq m s A1 A2 A3 A4 A5 A6 k1 k2 k3 k4 k5 k6) 30) (.cells (vMq m' t B1 B2 B3 B4 B5 B6 l1 l2 l3 l4 l5 l6) 30)
 have K0 := Lh k0
 have K1 := Lh kk
 have BW := Lh bw
 clear k0 kk bw
 go_enter Tryz.func11, Tryz.ntmps11
 go_upto_region 1 with fail
 generalize World.alloc (World.alloc w _) _ = W at K0 K1 BW sw ⊢
 have HX : Hid (∀ w', Below W.heap.size W w' → SSl w' S s (.slice A1 s.cells.length k1) (.slice A2 s.tabs.length k2) (.slice A3 s.other.length k3) (.slice A4 s.p.params.length k4) (.slice A5 s.p.inter.length k5) (.slice A6 s.p.utf.length k6) ∧ SSl w' S t (.slice B1 t.cells.length l1) (.slice B2 t.tabs.length l2) (.slice B3 t.other.length l3) (.slice B4 t.p.params.length l4) (.slice B5 t.p.inter.length l5) (.slice B6 t.p.utf.length l6) ∧ ∀ x, S x → x < w'.heap.size) := fun w' hb => by
  have hb2 : Below w.heap.size w w' := BW.out.trans (hb.mono (by omega))
  exact ⟨HS.out.bel HSS.out hb2, HT.out.bel HSS.out hb2, fun x hx => Nat.lt_of_lt_of_le (HSS.out x hx) hb2.size⟩
 refine sqAt s t m m' A1 A2 A3 A4 A5 A6 B1 B2 B3 B4 B5 B6 _ _ _ _ _ _ k1 k2 k3 k4 k5 k6 _ _ _ _ _ _ l1 l2 l3 l4 l5 l6 w.heap.size W K0.out K1.out ?_ ?_ ?_ ?_ ?_ ?_ _ fun bz f wf hbf hz => ?_
 ·exact fun w' hb => eqC_any _ _ _ _ _ ((HX.out w' hb).1.1.cs (HX.out w' hb).2.2) ((HX.out w' hb).2.1.1.cs (HX.out w' hb).2.2) H1.out.1 H2.out.1
 ·exact fun w' hb => eqC_any _ _ _ _ _ ((HX.out w' hb).1.2.2.1.cs (HX.out w' hb).2.2) ((HX.out w' hb).2.1.2.2.1.cs (HX.out w' hb).2.2) H1.out.2.1 H2.out.2.1
 ·exact fun w' hb => equalT_any _ _ _ _ S _ (HX.out w' hb).2.2 (HX.out w' hb).1.2.1 (HX.out w' hb).2.1.2.1 H1.out.2.2.1 H2.out.2.2.1
 ·exact fun w' hb => equalI_any _ _ _ _ S _ (HX.out w' hb).2.2 (HX.out w' hb).1.2.2.2.1 (HX.out w' hb).2.1.2.2.2.1 H1.out.2.2.2.1 H2.out.2.2.2.1
 ·exact fun w' hb => equalB_any _ _ _ _ S _ (HX.out w' hb).2.2 (HX.out w' hb).1.2.2.2.2.1 (HX.out w' hb).2.1.2.2.2.2.1 H1.out.2.2.2.2.1 H2.out.2.2.2.2.1
 ·exact fun w' hb => equalB_any _ _ _ _ S _ (HX.out w' hb).2.2 (HX.out w' hb).1.2.2.2.2.2 (HX.out w' hb).2.1.2.2.2.2.2 H1.out.2.2.2.2.2 H2.out.2.2.2.2.2
 ·have HZ := Lh hz
  clear hz
  go_simp
  go_wp2
  go_ret
  exact ⟨⟨bz, rfl, HZ.out⟩, BW.out.trans (hbf.mono (by omega))⟩
theorem rightS_in {s : Sc} {r c : Nat} (hi : ScIn s r c) (hw : ScW s r c) : RightS (s.p.mode : Int) s := by
 refine rightS_of hi.rows hi.cols hi.g.r1 hi.g.r2 hi.g.c1 hi.g.c2 ⟨hi.g.n, hi.cells, hw.cells⟩ ⟨⟨hi.y0, hi.y1⟩, ⟨hi.x0, hi.x1⟩, ⟨hi.sy0, hi.sy1⟩, ⟨hi.sx0, hi.sx1⟩, ⟨hi.oy0, hi.oy1⟩, ⟨hi.ox0, hi.ox1⟩⟩ hi.wrap hi.attr hi.sattr (by rw [hi.tabs]) (rightP_ok hi.p) ⟨hi.t0, hi.b1⟩ ?_ ?_ ?_
 ·rcases hi.tb with h | h
  ·exact .inl h
  ·have := hi.t0; have := hi.t1; have := hi.b1
   exact .inr (by omega)
 ·intro e
  obtain ⟨g, h⟩ := hi.other e
  exact ⟨g.n, h, hw.other e⟩
 ·intro e
  obtain ⟨h1, h2, h3⟩ := hi.noAlt e
  exact ⟨by rw [h1]; rfl, h2, h3⟩
theorem fit_of {x : Cl} (h : cellB x = true) : CellFit x := by
 unfold cellB at h
 unfold CellFit
 simp only [Bool.and_eq_true, Bool.or_eq_true, decide_eq_true_eq, beq_iff_eq, mayR] at h
 omega
theorem fitS_in {s : Sc} {r c : Nat} (hi : ScIn s r c) : FitS (s.p.mode : Int) s := by
 have hn : s.cells.length = r * c := hi.g.n
 have hm := hi.p.mode
 have hpr := hi.p.priv
 have hul : s.p.utf.length ≤ 3 := by
  rcases hi.p.utf with h | ⟨_, h⟩
  ·rw [h]; simp
  ·exact (beginsL_len _ h).2
 have ho : s.other.length ≤ 1048576 ∧ ∀ x ∈ s.other, CellFit x := by
  cases ha : s.alt with
  | true =>
   obtain ⟨g, h⟩ := hi.other ha
   exact ⟨by rw [g.n]; have := rc_le g.r2 g.c2; omega, fun x hx => fit_of (h x hx)⟩
  | false =>
   rw [(hi.noAlt ha).1]
   exact ⟨by simp, by simp⟩
 refine ⟨by omega, by omega, fun x hx => fit_of (hi.cells x hx), ho.2, ?_, ho.1, ?_, by omega, by omega⟩
 ·rw [hn]; have := rc_le hi.g.r2 hi.g.c2; omega
 ·rw [hi.tabs]; have := hi.g.c2; omega
theorem lenS_in {s : Sc} {r c : Nat} (hi : ScIn s r c) : s.cells.length ≤ 1048576 ∧ s.other.length ≤ 1048576 ∧ s.tabs.length ≤ 1048576 ∧ s.p.params.length ≤ 1048576 ∧ s.p.inter.length ≤ 1048576 ∧ s.p.utf.length ≤ 1048576 := by
 have h := fitS_in hi
 have h1 := hi.p.params
 have h2 := hi.p.inter
 exact ⟨h.nc, h.no, h.nt, by omega, by omega, h.nu⟩
theorem ReadSPost.agg {b : List UInt8} {w w' : World} {e : Ending} (h : ReadSPost b w e w') : ∃ xs er, e = .returned (.tuple #[.agg xs, .int .i64 er]) ∧ xs.size = 24 ∧ xs.all (·.oneCell') = true ∧ Below w.heap.size w w' ∧ ((∃ s, IsSnap b s ∧ er = 0 ∧ SCV w' (NewB w' w.heap.size) (.agg xs) s) ∨ ((¬ ∃ s, IsSnap b s) ∧ er = 21)) := by
 obtain ⟨v, er, he, hb, h⟩ := h
 rcases h with ⟨s, hs, h0, hv⟩ | ⟨hn, h21, hv⟩
 ·have hv2 := hv
  obtain ⟨vc, vt, vo, vp, vi, vu, rfl, hl⟩ := hv
  exact ⟨_, er, he, rfl, hl.one, hb, .inl ⟨s, hs, h0, hv2⟩⟩
 ·subst hv
  exact ⟨_, er, he, rfl, all25, hb, .inr ⟨hn, h21⟩⟩
theorem box_of (w : World) (X : Array Value) : ((w.alloc (sO zN)).setRow w.heap.size X).heap[w.heap.size]? = some (.cells X 30) ∧ Below w.heap.size w ((w.alloc (sO zN)).setRow w.heap.size X) ∧ ((w.alloc (sO zN)).setRow w.heap.size X).heap.size = w.heap.size + 1 :=
 ⟨heap_setRow_same (heap_one w (sO zN)), below_setRow ((Below.refl w.heap.size w).alloc (Nat.le_refl _) (sO zN)) (Nat.le_refl _) X, by rw [size_setRow]; simp⟩
theorem snapL_len {m : Int} {s : Sc} (h : RightS m s) : (snapL s).length ≤ 600 + 10 * s.tabs.length + 30 * s.cells.length + 30 * s.other.length := by
 have n0 := snumL_len (headN s)
 have n1 := snumL_len (s.tabs.map fun b => bN b 1)
 have n2 := bytL_len s.cells
 have n3 := bytL_len s.other
 have n4 := parserB_len h.p
 have n5 := snumL_len [s.oy.toNat, s.ox.toNat]
 simp only [headN, List.length_map, List.length_cons, List.length_nil] at n0 n1 n5
 have n6 : (otherB s).length ≤ 20 + 30 * s.other.length := by
  unfold otherB
  split
  ·rw [List.length_append]; omega
  ·simp
 simp only [snapL, List.length_append, headN, tabsB]
 omega
theorem snapL_small {s : Sc} {r c : Nat} (hi : ScIn s r c) (hw : ScW s r c) (hr : r ≤ 6) (hc : c ≤ 9) : (snapL s).length ≤ 5000 := by
 have h := rightS_in hi hw
 have h1 := snapL_len h
 have h2 := hi.tabs
 have h3 := hi.g.n
 have h4 : r * c ≤ 6 * 9 := Nat.mul_le_mul hr hc
 have h5 : s.other.length ≤ 54 := by
  cases ha : s.alt with
  | false => rw [(hi.noAlt ha).1]; simp
  | true => have := (hi.other ha).1.n; omega
 omega
theorem new23 : ScIn (newS 2 3) 2 3 ∧ ScW (newS 2 3) 2 3 := ⟨newS_in 2 3 (by omega) (by omega) (by omega) (by omega), newS_w _ _ _ _⟩
def zSc : Sc := ⟨0, 0, [], 0, 0, false, 0, 0, 0, [], 0, 0, 0, false, false, false, [], 0, 0, ⟨0, 0, [], [], []⟩⟩
theorem zSc_not : ¬ RightS 0 zSc := fun h => by have := h.r1; simp [zSc] at this
theorem zSc_fit : FitS 0 zSc := ⟨by omega, by omega, by simp [zSc], by simp [zSc], by simp [zSc], by simp [zSc], by simp [zSc], by simp [zSc], by simp [zSc]⟩
theorem zSc_sl (w : World) (S : Nat → Prop) : SSl w S zSc (.slice none 0 0) (.slice none 0 0) (.slice none 0 0) (.slice none 0 0) (.slice none 0 0) (.slice none 0 0) := ⟨CL.nil _ _, SL.nil _ _ _, CL.nil _ _, SL.nil _ _ _, SL.nil _ _ _, SL.nil _ _ _⟩
theorem knownZ_any (w : World) : Calls Tryz.prog 6 #[] w fun e w' => e = .returned (.bool true) ∧ Below w.heap.size w w' := by
 obtain ⟨hin, hw⟩ := new23
 obtain ⟨s0, hs0⟩ : ∃ s, newS 2 3 = s := ⟨_, rfl⟩
 have HNEW : Hid (Calls Tryz.prog 15 #[.int .i64 2, .int .i64 3] w (NewPost s0 w)) := by rw [← hs0]; exact Newr_yes 2 3 w (by omega) (by omega) (by omega) (by omega)
 have hrows : s0.rows = 2 := by rw [← hs0]; rfl
 rw [hs0] at hin hw
 have HR := Lh (rightS_in hin hw)
 have HF := Lh (fitS_in hin)
 have HLN := Lh (lenS_in hin)
 clear hs0
 have hbl : (snapL s0).length ≤ 5000 := snapL_small hin hw (by omega) (by omega)
 have HBL := Lh hbl
 go_enter Tryz.func6, Tryz.ntmps6
 go_wp2_with fail
 refine HNEW.out.mono ?_
 rintro e w1 ⟨v, rfl, ⟨vc, vt, vo, vp, vi, vu, rfl, hs1⟩, b1⟩
 rename_i K hK
 refine hK _ _ ?_
 clear hK K
 iterate 4 (refine wpList_plain rfl fun K hK => ?_; go_simp; refine hK _ _ ?_; clear hK K)
 have hv1 := hs1.one (s' := s0)
 refine wpl_storeS rfl (.tmp 1) (.tmp 13) rfl rfl rfl (heap_one w1 _) rfl rfl hv1 ?_
 obtain ⟨k2, b2, z2⟩ := box_of w1 (vS s0 vc vt vo vp vi vu)
 generalize hW2 : (w1.alloc _).setRow _ _ = W2 at k2 b2 z2 ⊢
 clear hW2
 have z1 := b1.size
 have S2 := Lh (hs1.below (B := w1.heap.size) (fun x hx => hx.2) b2)
 have K2 := Lh k2
 have B2 := Lh (b1.trans (b2.mono z1))
 clear k2 b2 b1 hs1 hv1
 have hP := pPut_any (s0.p.mode : Int) s0 vc vt vo vp vi vu (NewB w1 w.heap.size) W2 (fun x hx => by have := hx.2; omega) S2.out HF.out (fun _ => rfl)
 go_simp
 go_upto_region 2 with fail
 refine wp_region_lit ?_
 refine wpl_loadS rfl (.tmp 1) rfl rfl K2.out rfl ?_
 go_wp2_with fail
 refine hP.mono ?_
 rintro e w3 ⟨u, er, rfl, b3, h3⟩
 rcases h3 with ⟨-, rfl, o3⟩ | ⟨hn, -⟩
 rotate_left
 ·exact absurd HR.out hn
 clear hP
 obtain ⟨A3, c3, hu, p3, q3⟩ := o3.sl.form
 subst hu
 have z3 := b3.size
 have BB3 := Lh (o3.bs)
 have O3 := Lh o3
 have K3 := Lh ((b3.block _ (by omega)).trans K2.out)
 have S3 := Lh (S2.out.below (B := W2.heap.size) (fun x hx => by have := hx.2; omega) b3)
 have B3 := Lh (B2.out.trans (b3.mono (by omega)))
 clear o3 b3 K2 B2 S2
 have hRd := pRead_any _ (snapL s0) w3 BB3.out (by omega)
 go_wp2_with fail
 refine hRd.mono ?_
 rintro e w4 h4
 obtain ⟨xs, er, rfl, hn4, h14, b4, h4⟩ := h4.agg
 rcases h4 with ⟨s4, his, rfl, hs4⟩ | ⟨hn, -⟩
 rotate_left
 ·exact absurd ⟨s0, HR.out, rfl⟩ hn
 obtain rfl : s4 = s0 := snap_inj his.1 HR.out his.2
 have z4 := b4.size
 clear hRd his
 rename_i K hK
 refine hK _ _ ?_
 clear hK K
 iterate 4 (refine wpList_plain rfl fun K hK => ?_; go_simp; refine hK _ _ ?_; clear hK K)
 refine wpl_storeS rfl (.tmp 5) (.tmp 23) rfl rfl rfl (heap_one w4 _) rfl hn4 h14 ?_
 obtain ⟨k5, b5, z5⟩ := box_of w4 xs
 generalize hW5 : (w4.alloc _).setRow _ _ = W5 at k5 b5 z5 ⊢
 clear hW5
 have K5 := Lh k5
 have K51 := Lh ((b5.block _ (by omega)).trans ((b4.block _ (by omega)).trans K3.out))
 have BB5 := Lh ((BB3.out.below (b4.trans (b5.mono z4))).more (by omega : w3.heap.size ≤ W5.heap.size))
 have B5 := Lh (B3.out.trans ((b4.trans (b5.mono z4)).mono (by omega)))
 have S5 := Lh (S3.out.below (B := w3.heap.size) (fun x hx => by have := hx.2; omega) (b4.trans (b5.mono z4)))
 have T5 := Lh (SCV.below hs4 (B := w4.heap.size) (fun x hx => hx.2) b5)
 clear k5 b5 K3 BB3 O3 B3 S3 b4 hs4 h14
 obtain ⟨L6, hL6⟩ : ∃ L, snapL s4 ++ [UInt8.ofNat (0 : Int).toNat] = L := ⟨_, rfl⟩
 have hl6 : L6.length ≤ 6000 := by rw [← hL6, List.length_append]; simp; omega
 have HL6 := Lh hL6
 clear hL6
 go_simp
 go_wp2_with first
  | (at_builtin; refine wpl_app _ rfl (.const (.slice none 0 0)) (.tmp 26) rfl W5.heap.size _ _ _ [] (snapL s4) rfl rfl (OB.nil _ _) BB5.out (by simp; omega) (Nat.le_refl _) ?_; intro v6 w6 ho6 hg6 hb6 hat6; rw [List.nil_append] at ho6; obtain ⟨A6, c6, hv6, -, -⟩ := ho6.sl.form; subst hv6; have HO6 := Lh ho6; have HB6 := Lh hb6; have z6 := hb6.size; clear ho6 hg6 hb6 hat6)
  | (at_builtin; refine wpl_app _ rfl (.tmp 27) (.tmp 28) rfl W5.heap.size _ _ _ (snapL s4) _ rfl rfl (HO6.out.alloc _) (BS.one' _ 0 (by omega) (by omega) _) (by simp; omega) (by simp; omega) ?_; intro v7 w7 ho7 hg7 hb7 hat7; rw [HL6.out] at ho7; obtain ⟨A7, c7, hv7, -, -⟩ := ho7.sl.form; subst hv7; have HO7 := Lh ho7; have HB7 := Lh (HB6.out.trans ((Below.alloc (Below.refl _ _) z6 _).trans hb7)); have z7 := hb7.size; clear ho7 hg7 hb7 hat7)
 refine (pRead_any _ L6 w7 HO7.out.bs (by omega)).mono ?_
 rintro e w8 h8
 obtain ⟨ys, er, rfl, hn8, h18, b8, h8⟩ := h8.agg
 rcases h8 with ⟨s8, his, -, -⟩ | ⟨-, rfl⟩
 ·exact absurd (snap_pre HR.out his.1 (HL6.out.trans his.2.symm)) (by simp)
 have z8 := b8.size
 have z5x := HB7.out.size
 rename_i K hK
 refine hK _ _ ?_
 clear hK K
 iterate 4 (refine wpList_plain rfl fun K hK => ?_; go_simp; refine hK _ _ ?_; clear hK K)
 refine wpl_storeS rfl (.tmp 7) (.tmp 31) rfl rfl rfl (heap_one w8 _) rfl hn8 h18 ?_
 obtain ⟨k9, b9, z9⟩ := box_of w8 ys
 generalize hW9 : (w8.alloc _).setRow _ _ = W9 at k9 b9 z9 ⊢
 clear hW9 k9
 have B59 := Lh (HB7.out.trans ((b8.mono z5x).trans (b9.mono (by omega))))
 have zz := B59.out.size
 have K9 := Lh ((B59.out.block _ (by omega)).trans K5.out)
 have K91 := Lh ((B59.out.block _ (by omega)).trans K51.out)
 have B9 := Lh (B5.out.trans (B59.out.mono (by omega)))
 have S9 := Lh (S5.out.below (B := W5.heap.size) (fun x hx => by have := hx.2; omega) B59.out)
 have T9 := Lh (SCV.below T5.out (B := W5.heap.size) (fun x hx => by have := hx.2; omega) B59.out)
 clear K5 K51 B5 S5 T5 BB5 HB6 HO6 HO7 HB7 b8 b9 h18 hn8
 go_simp
 go_upto_region 5 with fail
 refine wp_region_lit ?_
 iterate 1 (refine wpList_plain rfl fun K hK => ?_; go_simp; refine hK _ _ ?_; clear hK K)
 have hz := pPut_any 0 zSc _ _ _ _ _ _ (fun _ => False) W9 (fun x hx => hx.elim) (zSc_sl W9 _) zSc_fit (fun h => absurd h zSc_not)
 go_wp2_with fail
 refine hz.mono ?_
 rintro e w10 ⟨u, er, rfl, b10, h10⟩
 rcases h10 with ⟨hn, -⟩ | ⟨-, rfl, rfl⟩
 ·exact absurd hn zSc_not
 clear hz
 have z10 := b10.size
 have K10 := Lh ((b10.block _ (by omega)).trans K9.out)
 have K101 := Lh ((b10.block _ (by omega)).trans K91.out)
 have B10 := Lh (B9.out.trans (b10.mono (by omega)))
 have S10 := Lh (S9.out.below (B := W9.heap.size) (fun x hx => by have := hx.2; omega) b10)
 have T10 := Lh (SCV.below T9.out (B := W9.heap.size) (fun x hx => by have := hx.2; omega) b10)
 clear K9 K91 B9 S9 T9 b10
 obtain ⟨uc, ut, uo, up, ui, uu, hxs, ht⟩ := T10.out
 simp only [Value.agg.injEq] at hxs
 subst hxs
 go_upto_region 6 with fail
 refine wp_region_lit ?_
 iterate 7 (refine wpList_step fun K hK => ?_; rw [if_pos (by rfl)]; go_simp; refine hK _ _ ?_; clear hK K)
 refine wpl_loadSg (by rfl) (.tmp 1) rfl rfl K101.out rfl ?_
 refine wpl_loadSg (by rfl) (.tmp 5) rfl rfl K10.out rfl ?_
 have hlt : ∀ x, (x < w10.heap.size) → x < w10.heap.size := fun x h => h
 have hq := pSame_any (s4.p.mode : Int) (s4.p.mode : Int) s4 s4 vc vt vo vp vi vu uc ut uo up ui uu (fun x => x < w10.heap.size) w10 hlt (S10.out.mono (fun x hx => by have := hx.2; omega)) (ht.mono (fun x hx => by have := hx.2; omega)) HLN.out HLN.out
 go_wp2_with fail
 refine hq.mono ?_
 rintro e w11 ⟨⟨b, rfl, hb⟩, b11⟩
 obtain rfl : b = true := hb.2 ((sameR_iff s4 s4).2 rfl)
 clear hq hb
 rename_i K hK
 refine hK _ _ ?_
 clear hK K
 have K11 := Lh ((b11.block _ (by omega)).trans K101.out)
 have B11 := Lh (B10.out.trans (b11.mono (by omega)))
 have S11 := Lh (S10.out.below (B := w10.heap.size) (fun x hx => by have := hx.2; omega) b11)
 have z11 := b11.size
 clear K101 K10 B10 S10 T10 ht b11
 iterate 2 (refine wpList_step fun K hK => ?_; rw [if_pos (by rfl)]; go_simp; refine hK _ _ ?_; clear hK K)
 refine wpl_loadSg (by rfl) (.tmp 1) rfl rfl K11.out rfl ?_
 iterate 1 (refine wpList_step fun K hK => ?_; rw [if_pos (by rfl)]; go_simp; refine hK _ _ ?_; clear hK K)
 have hq := pSame_any (s4.p.mode : Int) 0 s4 zSc vc vt vo vp vi vu _ _ _ _ _ _ (fun x => x < w11.heap.size) w11 (fun x h => h) (S11.out.mono (fun x hx => by have := hx.2; omega)) (zSc_sl w11 _) HLN.out (by simp [zSc])
 go_wp2_with fail
 refine hq.mono ?_
 rintro e w12 ⟨⟨b, rfl, hb⟩, b12⟩
 obtain rfl : b = false := by
  cases b with
  | false => rfl
  | true =>
   have h := (sameR_iff s4 zSc).1 (hb.1 rfl)
   rw [h] at hrows
   simp [zSc] at hrows
 clear hq hb
 go_wp2
 go_ret
 exact ⟨rfl, B11.out.trans (b12.mono (by omega))⟩
theorem sameCr_any (v u : Value) (l m : List Cl) (w : World) (h : CS w w.heap.size v l) (g : CS w w.heap.size u m) (hl : l.length ≤ 1048576) (hm9 : m.length ≤ 1048576) : Calls Tryz.prog 34 #[v, u] w (EqPost (l = m) w) := by
 obtain ⟨A, cp, rfl, g1, g2⟩ := h.form
 obtain ⟨D, cd, rfl, g3, g4⟩ := g.form
 have H := Lh h
 have G := Lh g
 clear h g
 by_cases hm : l.length = m.length
 rotate_left
 ·have hlm : (((l.length : Nat) : Int) != ((m.length : Nat) : Int)) = true := by simp; omega
  have hno : ¬ l = m := fun e => hm (by rw [e])
  clear hm
  go_enter Tryz.func34, Tryz.ntmps34
  go_wp2
  go_ret
  exact ⟨⟨false, rfl, ⟨(fun h => by cases h), fun h => absurd h hno⟩⟩, Below.refl _ _⟩
 have hlm : (((l.length : Nat) : Int) != ((m.length : Nat) : Int)) = false := by rw [hm]; simp
 obtain ⟨n, hn⟩ : ∃ n, n = l.length := ⟨_, rfl⟩
 rw [← hn] at g1 hl hlm H hm
 rw [← hm] at g3 hlm G
 rw [← hn, ← hm]
 have HN := Lh hn
 have HM := Lh hm
 clear hn hm hm9
 go_enter Tryz.func34, Tryz.ntmps34
 go_wp2
 go_loopw [5] (fun i wr => EqRelX n l m w i wr) (fun i _ => n - (intOf i).toNat)
 case atStart => exact ⟨0, Nat.zero_le _, rfl, fun j hj => absurd hj (by omega), Below.refl _ _⟩
 case round =>
  generalize wr = w2 at *
  obtain ⟨k, hk, rfl, hall, hb⟩ := hrel
  have HB := Lh hb
  have HALL := Lh hall
  clear hb hall
  by_cases hlt : k < n
  ·obtain ⟨x, hx⟩ : ∃ x, l[k]? = some x := ⟨_, List.getElem?_eq_getElem (by have := HN.out; omega)⟩
   obtain ⟨y, hy⟩ : ∃ y, m[k]? = some y := ⟨_, List.getElem?_eq_getElem (by have := HM.out; omega)⟩
   obtain ⟨ad, hA, hba, t0, t1, t2⟩ := (H.out.below HB.out).get k x hx
   obtain ⟨ad2, hA2, hba2, u0, u1, u2⟩ := (G.out.below HB.out).get k y hy
   subst hA hA2
   have hki : (k : Int) < (n : Int) := by omega
   have HX := Lh hx
   have HY := Lh hy
   clear hx hy
   by_cases hxy : x = y
   ·subst hxy
    go_wp2
    go_quiet (fail)
    have hbq := below_drewW HB.out nq
    go_wp2
    go_roundw
    case rel =>
     refine ⟨k + 1, hlt, by go_num, ?_, hbq⟩
     intro j hj
     by_cases e : j = k
     ·rw [e, HX.out, HY.out]
     ·exact HALL.out j (by omega)
    case measure => simp [intOf]; omega
   ·have hk3 := cl_ne hxy
    have hno : ¬ l = m := fun e => hxy (by have h1 := HX.out; rw [e, HY.out] at h1; exact (Option.some.inj h1).symm)
    rcases hk3 with hbq | ⟨hrq, hbq⟩ | ⟨hrq, haq, hbq⟩
    all_goals
     try rw [hrq] at t0
     try rw [haq] at t1
     try clear hrq
     try clear haq
     go_wp2
     go_quiet (fail)
     have hbq2 := below_drewW HB.out nq
     go_wp2
     go_ret
     exact ⟨⟨false, rfl, ⟨(fun h => by cases h), fun h => absurd h hno⟩⟩, hbq2⟩
  ·obtain rfl : k = n := by omega
   have heq : l = m := by
    apply List.ext_getElem?
    intro j
    by_cases hj : j < k
    ·exact HALL.out j hj
    ·rw [List.getElem?_eq_none (by have := HN.out; omega), List.getElem?_eq_none (by have := HM.out; omega)]
   have HE := Lh heq
   clear heq
   go_wp2
   go_ret
   exact ⟨⟨true, rfl, by simp only [true_iff]; exact HE.out⟩, HB.out⟩
def SameQ (m : Int) (pv : Nat) (ps : List Int) (is us : List UInt8) (m' : Int) (pv' : Nat) (ps' : List Int) (is' us' : List UInt8) : Prop := m = m' ∧ pv = pv' ∧ ps = ps' ∧ is = is' ∧ us = us'
theorem str_eq (l m : List UInt8) : ((strB l).toList == (strB m).toList) = decide (l = m) := by
 rw [strB_toList, strB_toList]
 by_cases h : l = m <;> simp [h]
def SamePRel (n : Nat) (l m : List Int) (w : World) (x y : Obj) (i : Value) (wr : World) : Prop := ∃ k : Nat, k ≤ n ∧ i = .int .i64 (k : Int) ∧ (∀ j, j < k → l[j]? = m[j]?) ∧ Below (w.heap.size + 1 + 1) ((w.alloc x).alloc y) wr
theorem eqp_no {P : Prop} {w w' : World} (h : ¬ P) (hb : Below w.heap.size w w') : EqPost P w (.returned (.bool false)) w' := ⟨⟨false, rfl, ⟨(fun e => by cases e), fun e => absurd e h⟩⟩, hb⟩
theorem eqp_yes {P : Prop} {w w' : World} (h : P) (hb : Below w.heap.size w w') : EqPost P w (.returned (.bool true)) w' := ⟨⟨true, rfl, ⟨fun _ => h, fun _ => rfl⟩⟩, hb⟩
theorem samePr_any (m m' : Int) (pv pv' : Nat) (ps ps' : List Int) (is is' us us' : List UInt8) (vp vi vu vq vj vv : Value) (S : Nat → Prop) (w : World) (a1 : SL vI w S vp ps) (a2 : SL vB w S vi is) (a3 : SL vB w S vu us) (b1 : SL vI w S vq ps') (b2 : SL vB w S vj is') (b3 : SL vB w S vv us') (hS : ∀ x, S x → x < w.heap.size) (hpl : ps.length ≤ 1048576) (hpl2 : ps'.length ≤ 1048576) :
  Calls Tryz.prog 35 #[.agg #[.int .i64 m, .int .u8 (pv : Int), vp, vi, vu], .agg #[.int .i64 m', .int .u8 (pv' : Int), vq, vj, vv]] w (EqPost (SameQ m pv ps is us m' pv' ps' is' us') w) := by
 obtain ⟨Ap, cp, rfl, p1, p2⟩ := a1.form
 obtain ⟨Ai, ci, rfl, i1, i2⟩ := a2.form
 obtain ⟨Au, cu, rfl, u1, u2⟩ := a3.form
 obtain ⟨Aq, cq, rfl, q1, q2⟩ := b1.form
 obtain ⟨Aj, cj, rfl, j1, j2⟩ := b2.form
 obtain ⟨Av, cv, rfl, v1, v2⟩ := b3.form
 have HA1 := Lh a1
 have HB1 := Lh b1
 have HSS := Lh hS
 have h2 := two_new w (.cells #[Value.int .i64 m, Value.int .u8 (pv : Int), Value.slice Ap ps.length cp, Value.slice Ai is.length ci, Value.slice Au us.length cu] 28) (.cells #[Value.int .i64 m', Value.int .u8 (pv' : Int), Value.slice Aq ps'.length cq, Value.slice Aj is'.length cj, Value.slice Av us'.length cv] 28)
 have s1 := run_str ((a2.bs hS).below h2.1)
 have s2 := run_str ((b2.bs hS).below h2.1)
 have s3 := run_str ((a3.bs hS).below h2.1)
 have s4 := run_str ((b3.bs hS).below h2.1)
 have H2 := Lh h2
 clear a1 a2 a3 b1 b2 b3 hS h2
 have e1 := str_eq is is'
 have e2 := str_eq us us'
 by_cases c1 : m = m'
 rotate_left
 ·have d1 : (m != m') = true := by simpa using c1
  have hno : ¬ SameQ m pv ps is us m' pv' ps' is' us' := fun h => c1 h.1
  clear c1
  go_enter Tryz.func35, Tryz.ntmps35
  go_wp2
  go_ret
  exact eqp_no hno H2.out.1
 subst c1
 by_cases c2 : pv = pv'
 rotate_left
 ·have d1 : ((pv : Int) != (pv' : Int)) = true := by simp; omega
  have hno : ¬ SameQ m pv ps is us m pv' ps' is' us' := fun h => c2 h.2.1
  clear c2
  go_enter Tryz.func35, Tryz.ntmps35
  go_wp2
  go_ret
  exact eqp_no hno H2.out.1
 subst c2
 by_cases c3 : ps.length = ps'.length
 rotate_left
 ·have d1 : ((ps.length : Int) != (ps'.length : Int)) = true := by simp; omega
  have hno : ¬ SameQ m pv ps is us m pv ps' is' us' := fun h => c3 (by rw [h.2.2.1])
  clear c3
  go_enter Tryz.func35, Tryz.ntmps35
  go_wp2
  go_ret
  exact eqp_no hno H2.out.1
 have d3 : ((ps.length : Int) != (ps'.length : Int)) = false := by simp; omega
 by_cases c4 : is = is'
 rotate_left
 ·have d1 : decide (is = is') = false := by simpa using c4
  rw [d1] at e1
  have hno : ¬ SameQ m pv ps is us m pv ps' is' us' := fun h => c4 h.2.2.2.1
  clear c4 c3
  go_enter Tryz.func35, Tryz.ntmps35
  go_wp2
  go_ret
  exact eqp_no hno H2.out.1
 have d4 : decide (is = is') = true := by simpa using c4
 by_cases c5 : us = us'
 rotate_left
 ·have d1 : decide (us = us') = false := by simpa using c5
  rw [d1] at e2
  rw [d4] at e1
  have hno : ¬ SameQ m pv ps is us m pv ps' is' us' := fun h => c5 h.2.2.2.2
  clear c5 c4 c3 d4
  go_enter Tryz.func35, Tryz.ntmps35
  go_wp2
  go_ret
  exact eqp_no hno H2.out.1
 have d5 : decide (us = us') = true := by simpa using c5
 rw [d4] at e1
 rw [d5] at e2
 clear d4 d5
 have HIFF : Hid (SameQ m pv ps is us m pv ps' is' us' ↔ ps = ps') := ⟨fun h => h.2.2.1, fun h => ⟨rfl, rfl, h, c4, c5⟩⟩
 clear c4 c5
 obtain ⟨n, hn⟩ : ∃ n, n = ps.length := ⟨_, rfl⟩
 have HN := Lh hn
 have HM : Hid (n = ps'.length) := hn.trans c3
 clear c3
 go_enter Tryz.func35, Tryz.ntmps35
 go_wp2
 clear s1 s2 s3 s4 e1 e2 d3
 go_loopw [5] (fun i wr => SamePRel n ps ps' w (.cells #[Value.int .i64 m, Value.int .u8 (pv : Int), Value.slice Ap ps.length cp, Value.slice Ai is.length ci, Value.slice Au us.length cu] 28) (.cells #[Value.int .i64 m, Value.int .u8 (pv : Int), Value.slice Aq ps'.length cq, Value.slice Aj is'.length cj, Value.slice Av us'.length cv] 28) i wr) (fun i _ => n - (intOf i).toNat)
 case atStart => exact ⟨0, Nat.zero_le _, rfl, fun j hj => absurd hj (by omega), Below.refl _ _⟩
 case round =>
  obtain ⟨k, hk, rfl, hall, hbel⟩ := hrel
  obtain ⟨k0, k1⟩ := two_keptB hbel
  obtain ⟨c0, c1, c2, c3, c4, cf⟩ := five_cells k0
  obtain ⟨d0, d1, d2, d3, d4, df⟩ := five_cells k1
  have HBW : Hid (Below w.heap.size w wr) := H2.out.1.trans (hbel.mono (by omega))
  have HBEL := Lh hbel
  have HALL := Lh hall
  clear hbel k0 k1 hall
  by_cases hlt : k < n
  ·obtain ⟨x, hx⟩ : ∃ x, ps[k]? = some x := ⟨_, List.getElem?_eq_getElem (by have := HN.out; omega)⟩
   obtain ⟨y, hy⟩ : ∃ y, ps'[k]? = some y := ⟨_, List.getElem?_eq_getElem (by have := HM.out; omega)⟩
   obtain ⟨ad, hA, e1⟩ := (HA1.out.keep (fun q hq => HBW.out.cell (HSS.out _ hq))).get k x hx
   obtain ⟨ae, hB, e2⟩ := (HB1.out.keep (fun q hq => HBW.out.cell (HSS.out _ hq))).get k y hy
   subst hA hB
   unfold vI at e1 e2
   have HX := Lh hx
   have HY := Lh hy
   clear hx hy
   have hki : (k : Int) < (ps.length : Int) := by have := HN.out; omega
   have hki2 : (k : Int) < (ps'.length : Int) := by have := HM.out; omega
   clear hn
   by_cases hxy : x = y
   ·subst hxy
    go_wp2
    go_quiet (fail)
    have hbq : Below (w.heap.size + 1 + 1) _ (wr.drewN nq) := below_drewV HBEL.out nq
    go_wp2
    go_roundw
    case rel =>
     refine ⟨k + 1, hlt, by go_num, ?_, hbq⟩
     intro j hj
     by_cases e : j = k
     ·rw [e, HX.out, HY.out]
     ·exact HALL.out j (by omega)
    case measure => simp [intOf]; omega
   ·have hbq : (x != y) = true := by simpa using hxy
    have hno : ¬ ps = ps' := fun e => hxy (by have h1 := HX.out; rw [e, HY.out] at h1; exact (Option.some.inj h1).symm)
    have HNO := Lh (fun h => hno (HIFF.out.1 h))
    clear hno hxy
    go_wp2
    go_quiet (fail)
    have hbq2 := below_drewV HBW.out nq
    go_wp2
    go_ret
    exact eqp_no HNO.out hbq2
  ·obtain rfl : k = n := by omega
   have heq : ps = ps' := by
    apply List.ext_getElem?
    intro j
    by_cases hj : j < k
    ·exact HALL.out j hj
    ·rw [List.getElem?_eq_none (by have := HN.out; omega), List.getElem?_eq_none (by have := HM.out; omega)]
   have HE := Lh (HIFF.out.2 heq)
   clear heq
   go_wp2
   go_ret
   exact eqp_yes HE.out HBW.out
section
variable {ρ : Operand → Value} {x y : Operand}
theorem ex_neqGI {a b : Int} (h : ρ x = .int .i64 a) (h2 : ρ y = .int .i64 b) (o : Oper) (ho : o.op = .binOp .neq 3 x y 3) (w : World) : (execOp ρ o).run Tryz.prog w = .ok (.value (.bool (!decide (a = b)))) w := by
 obtain ⟨dst, op, ty, pos, after, guard⟩ := o
 simp only at ho
 subst ho
 unfold execOp
 simp only [h, h2]
 by_cases e : a = b
 ·subst e; go_simp
 ·have : (a != b) = true := by simpa using e
  have e2 : decide (a = b) = false := by simpa using e
  go_simp
theorem ex_neqGB {a b : Bool} (h : ρ x = .bool a) (h2 : ρ y = .bool b) (o : Oper) (ho : o.op = .binOp .neq 4 x y 4) (w : World) : (execOp ρ o).run Tryz.prog w = .ok (.value (.bool (!decide (a = b)))) w := by
 obtain ⟨dst, op, ty, pos, after, guard⟩ := o
 simp only at ho
 subst ho
 unfold execOp
 simp only [h, h2]
 cases a <;> cases b <;> (go_simp; try simp)
theorem ex_neqGU {a b : Int} (h : ρ x = .int .u16 a) (h2 : ρ y = .int .u16 b) (o : Oper) (ho : o.op = .binOp .neq 23 x y 23) (w : World) : (execOp ρ o).run Tryz.prog w = .ok (.value (.bool (!decide (a = b)))) w := by
 obtain ⟨dst, op, ty, pos, after, guard⟩ := o
 simp only at ho
 subst ho
 unfold execOp
 simp only [h, h2]
 by_cases e : a = b
 ·subst e; go_simp
 ·have : (a != b) = true := by simpa using e
  have e2 : decide (a = b) = false := by simpa using e
  go_simp
theorem exec_pickH {P : Program} {c d : Bool} {z : Operand} (hc : ρ z = .bool c) (hx : ρ x = bif c then undef else .bool d) (o : Oper) (ho : o.op = .pick z (.const (.bool true)) x) (w : World) (hk : ρ (.const (.bool true)) = .bool true) : (execOp ρ o).run P w = .ok (.value (.bool (c || d))) w := by
 refine exec_pick c _ hc ?_ o ho w
 rw [hx, hk]
 cases c <;> rfl
end
section
variable {P : Program} {ops : Array Oper} {Q : Exit → Act → World → Prop} {a b : Act} {w : World} {n : Nat} {D : List Nat} {L : List (Nat × Value)}
theorem St.evaln {j : Nat} {v : Value} {c : Bool} (h : St n D a b L) (hl : L.lookup j = some (bif c then undef else v)) (hc : c = false) : b.eval (.tmp j) = v := by
 rw [h.eval hl, hc]
 rfl
theorem LRun.idle {i d k tt : Nat} {op : Op} (ho : (ops[i]?).map (fun o => (o.dst, o.op, o.guard)) = some (some d, op, some (k, false))) (h2 : (ops[k]?).bind (·.dst) = some tt) (h3 : Has a tt (.bool true)) (h : LRun P ops Q (i + 1) (a.put (some d) undef) w) : LRun P ops Q i a w := by
 cases hi : ops[i]? with
 | none => rw [hi] at ho; cases ho
 | some o =>
  rw [hi] at ho
  simp only [Option.map_some, Option.some.injEq, Prod.mk.injEq] at ho
  obtain ⟨g1, g2, g3⟩ := ho
  have hy : yielded ops a.tmps k = some true := by
   unfold Has at h3
   simp [yielded, h2, h3]
  unfold LRun
  rw [lrun_drop hi]
  refine wpList_step fun K hK => ?_
  rw [if_neg (by simp [Region.wanted, g3, hy]), g1]
  exact hK _ _ h
theorem St.lgpure (h : St n D a b L) (i d : Nat) (op : Op) (k tt : Nat) (c : Bool) (v : Value) (ho : (ops[i]?).map (fun o => (o.dst, o.op, o.guard)) = some (some d, op, some (k, false))) (h2 : (ops[k]?).bind (·.dst) = some tt) (h3 : L.lookup tt = some (.bool c)) (hx : c = false → ∀ o : Oper, o.op = op → (execOp b.eval o).run P w = .ok (.value v) w) (hd : d < n) (h1 : D.contains d = true)
  (hr : ∀ b', St n D a b' ((d, bif c then undef else v) :: L) → LRun P ops Q (i + 1) b' w) : LRun P ops Q i b w := by
 cases c with
 | false => exact h.lpure i d op (some (k, false)) v ho (h.asked k false tt h2 h3) (hx rfl) hd h1 hr
 | true => exact LRun.idle ho h2 (h.holds tt _ h3) (hr _ (h.put hd h1))
theorem St.lgcall {B : Nat} {W0 : World} {R : Prop} (h : St n D a b L) (i d f : Nat) (args : Array Operand) (tys : Array TypeId) (k tt : Nat) (c : Bool) (vals : Array Value) (ho : (ops[i]?).map (fun o => (o.dst, o.op, o.guard)) = some (some d, .call { callee := .value (.func f), args := args, argTypes := tys }, some (k, false))) (h2 : (ops[k]?).bind (·.dst) = some tt) (h3 : L.lookup tt = some (.bool c))
  (hv : c = false → args.map b.eval = vals) (hf : isGo P f = true) (hd : d < n) (h1 : D.contains d = true) (hB : Below B W0 w) (hc : Calls P f vals w fun e w' => (∃ r, e = .returned (.bool r) ∧ (r = true ↔ R)) ∧ Below w.heap.size w w') (hBw : B ≤ w.heap.size)
  (hr : ∀ b' w' r, St n D a b' ((d, bif c then undef else .bool r) :: L) → (c = false → (r = true ↔ R)) → Below w.heap.size w w' → Below B W0 w' → LRun P ops Q (i + 1) b' w') : LRun P ops Q i b w := by
 cases c with
 | false =>
  refine h.lcall i d f args tys (some (k, false)) vals ho (h.asked k false tt h2 h3) (hv rfl) hf hd h1 (hc.mono ?_)
  rintro e w' ⟨⟨r, rfl, hiff⟩, hb⟩
  exact ⟨_, rfl, fun b' hst => hr b' w' r hst (fun _ => hiff) hb (hB.trans (hb.mono hBw))⟩
 | true => exact LRun.idle ho h2 (h.holds tt _ h3) (hr _ w false (h.put hd h1) (fun e => by cases e) (Below.refl _ _) hB)
theorem St.cmp7 {g1 g2 off : Nat} {c q : Bool} {v1 v2 : Value} {tS : TypeId} (h : St n D a b L) (k tt : Nat) (ty : TypeId) (f x y : Nat)
  (ho : ((ops[k]?).bind (·.dst), (ops[k + 1]?).map (fun o => (o.dst, o.op, o.guard)), (ops[k + 2]?).map (fun o => (o.dst, o.op, o.guard)), (ops[k + 3]?).map (fun o => (o.dst, o.op, o.guard)), (ops[k + 4]?).map (fun o => (o.dst, o.op, o.guard)), (ops[k + 5]?).map (fun o => (o.dst, o.op, o.guard)), (ops[k + 6]?).map (fun o => (o.dst, o.op, o.guard)), (ops[k + 7]?).map (fun o => (o.dst, o.op, o.guard))) = (some tt, some (some (tt + 1), Op.fieldAddr tS (.tmp x) f, some (k, false)), some (some (tt + 2), Op.load ty (.tmp (tt + 1)), some (k, false)), some (some (tt + 3), Op.fieldAddr tS (.tmp y) f, some (k, false)), some (some (tt + 4), Op.load ty (.tmp (tt + 3)), some (k, false)), some (some (tt + 5), Op.binOp .neq ty (.tmp (tt + 2)) (.tmp (tt + 4)) ty, some (k, false)), some (some (tt + 6), Op.pick (.tmp tt) (.const (.bool true)) (.tmp (tt + 5)), none), some (some (tt + 7), Op.move (.tmp (tt + 6)), none)))
  (hD : ((List.range 7).all fun j => decide (tt + 1 + j < n) && D.contains (tt + 1 + j)) = true)
  (h3 : L.lookup tt = some (.bool c)) (hx : L.lookup x = some (.pointer (some ⟨g1, 0, none⟩))) (hy : L.lookup y = some (.pointer (some ⟨g2, 0, none⟩))) (hxt : tt < x ∨ x < tt) (hlx : x ≤ tt ∧ y ≤ tt)
  (hf : ∀ (ρ : Operand → Value) (x : Operand) (g : Nat), ρ x = .pointer (some ⟨g, 0, none⟩) → ∀ o : Oper, o.op = .fieldAddr tS x f → (execOp ρ o).run P w = .ok (.value (.pointer (some ⟨g, off, none⟩))) w)
  (hl1 : ∀ (ρ : Operand → Value) (x : Operand), ρ x = .pointer (some ⟨g1, off, none⟩) → ∀ o : Oper, o.op = .load ty x → (execOp ρ o).run P w = .ok (.value v1) w)
  (hl2 : ∀ (ρ : Operand → Value) (x : Operand), ρ x = .pointer (some ⟨g2, off, none⟩) → ∀ o : Oper, o.op = .load ty x → (execOp ρ o).run P w = .ok (.value v2) w)
  (hq : ∀ (ρ : Operand → Value) (x y : Operand), ρ x = v1 → ρ y = v2 → ∀ o : Oper, o.op = .binOp .neq ty x y ty → (execOp ρ o).run P w = .ok (.value (.bool q)) w)
  (hr : ∀ b' z, (c || q) = z → St n D a b' ((tt + 7, .bool z) :: (tt + 6, .bool z) :: (tt + 5, bif c then undef else .bool q) :: (tt + 4, bif c then undef else v2) :: (tt + 3, bif c then undef else .pointer (some ⟨g2, off, none⟩)) :: (tt + 2, bif c then undef else v1) :: (tt + 1, bif c then undef else .pointer (some ⟨g1, off, none⟩)) :: L) → LRun P ops Q (k + 8) b' w) : LRun P ops Q (k + 1) b w := by
 simp only [Prod.mk.injEq] at ho
 obtain ⟨h2, o1, o2, o3, o4, o5, o6, o7⟩ := ho
 have hd : ∀ j, j < 7 → tt + 1 + j < n ∧ D.contains (tt + 1 + j) = true := fun j hj => by
  have := List.all_eq_true.1 hD j (List.mem_range.2 hj)
  simpa using this
 have lk : ∀ (j k' : Nat) (v : Value) (M : List (Nat × Value)), j ≠ k' → ((k', v) :: M).lookup j = M.lookup j := fun j k' v M hne => by
  rw [List.lookup_cons, show (j == k') = false from by simpa using hne]
 have lh : ∀ (j : Nat) (v : Value) (M : List (Nat × Value)), ((j, v) :: M).lookup j = some v := fun j v M => by
  rw [List.lookup_cons, show (j == j) = true from by simp]
 refine h.lgpure (k + 1) (tt + 1) _ k tt c _ o1 h2 h3 (fun hb o ho => hf _ _ _ (h.eval hx) o ho) (hd 0 (by omega)).1 (hd 0 (by omega)).2 fun b1 h1 => ?_
 have e3 : ((tt + 1, bif c then undef else Value.pointer (some ⟨g1, off, none⟩)) :: L).lookup tt = some (.bool c) := by rw [lk _ _ _ _ (by omega)]; exact h3
 refine h1.lgpure (k + 2) (tt + 2) _ k tt c v1 o2 h2 e3 (fun hb o ho => hl1 _ _ (h1.evaln (lh _ _ _) hb) o ho) (hd 1 (by omega)).1 (hd 1 (by omega)).2 fun b2 h2' => ?_
 have e4 : ((tt + 2, bif c then undef else v1) :: (tt + 1, bif c then undef else Value.pointer (some ⟨g1, off, none⟩)) :: L).lookup tt = some (.bool c) := by rw [lk _ _ _ _ (by omega)]; exact e3
 refine h2'.lgpure (k + 3) (tt + 3) _ k tt c _ o3 h2 e4 (fun hb o ho => hf _ _ _ (h2'.eval (by rw [lk _ _ _ _ (by omega), lk _ _ _ _ (by omega)]; exact hy)) o ho) (hd 2 (by omega)).1 (hd 2 (by omega)).2 fun b3 h3' => ?_
 have e5 := e4
 rw [← lk tt (tt + 3) (bif c then undef else Value.pointer (some ⟨g2, off, none⟩)) _ (by omega)] at e5
 refine h3'.lgpure (k + 4) (tt + 4) _ k tt c v2 o4 h2 e5 (fun hb o ho => hl2 _ _ (h3'.evaln (lh _ _ _) hb) o ho) (hd 3 (by omega)).1 (hd 3 (by omega)).2 fun b4 h4' => ?_
 have e6 := e5
 rw [← lk tt (tt + 4) (bif c then undef else v2) _ (by omega)] at e6
 refine h4'.lgpure (k + 5) (tt + 5) _ k tt c (.bool q) o5 h2 e6 (fun hb o ho => hq _ _ _ (h4'.evaln (by rw [lk _ _ _ _ (by omega), lk _ _ _ _ (by omega)]; exact lh _ _ _) hb) (h4'.evaln (lh _ _ _) hb) o ho) (hd 4 (by omega)).1 (hd 4 (by omega)).2 fun b5 h5' => ?_
 have e7 := e6
 rw [← lk tt (tt + 5) (bif c then undef else Value.bool q) _ (by omega)] at e7
 refine h5'.lpure (k + 6) (tt + 6) _ none (.bool (c || q)) o6 trivial (fun o ho => exec_pickH (h5'.eval e7) (h5'.eval (lh _ _ _)) o ho _ rfl) (hd 5 (by omega)).1 (hd 5 (by omega)).2 fun b6 h6' => ?_
 refine h6'.lpure (k + 7) (tt + 7) _ none (.bool (c || q)) o7 trivial (fun o ho => exec_move _ (h6'.eval (lh _ _ _)) o ho _) (hd 6 (by omega)).1 (hd 6 (by omega)).2 fun b7 h7' => ?_
 exact hr b7 _ rfl h7'
end
theorem not_dec {P : Prop} [Decidable P] : (!decide P) = false ↔ P := by simp
theorem or_chain {c d z : Bool} {P R : Prop} (h : (c || !d) = z) (hc : c = false ↔ P) (hd : c = false → (d = true ↔ R)) : z = false ↔ (P ∧ R) := by
 subst h
 cases c <;> cases d <;> simp_all
theorem or_dec {c z : Bool} {P R : Prop} [Decidable R] (h : (c || !decide R) = z) (hc : c = false ↔ P) : z = false ↔ (P ∧ R) := by
 subst h
 cases c <;> simp_all
noncomputable def rmReg : Code := (Tryz.f12.body.bind (findReg 1)).getD .skip
noncomputable def rmOps : Array Oper := match rmReg with
 | .region _ ops _ => ops
 | _ => #[]
def rmD : List Nat := List.range' 6 143
theorem rmIs : rmReg = .region 1 rmOps false := by kernel_rfl
theorem rmSize : rmOps.size = 143 := by kernel_rfl
theorem rmRun (s t : Sc) (m m' : Int) (A1 A2 A3 A4 A5 A6 B1 B2 B3 B4 B5 B6 : Option Addr) (n1 n2 n3 n4 n5 n6 k1 k2 k3 k4 k5 k6 j1 j2 j3 j4 j5 j6 l1 l2 l3 l4 l5 l6 : Nat) (w W2 : World) (RC RO RP : Prop) (HX : W2.heap[w.heap.size]? = some (.cells (vNq m s A1 A2 A3 A4 A5 A6 n1 n2 n3 n4 n5 n6 k1 k2 k3 k4 k5 k6) 30)) (HY : W2.heap[w.heap.size + 1]? = some (.cells (vNq m' t B1 B2 B3 B4 B5 B6 j1 j2 j3 j4 j5 j6 l1 l2 l3 l4 l5 l6) 30)) (HB : Below w.heap.size w W2) (HC : ∀ W, Below w.heap.size w W → Calls Tryz.prog 34 #[.slice A1 n1 k1, .slice B1 j1 l1] W (EqPost RC W)) (HO : ∀ W, Below w.heap.size w W → Calls Tryz.prog 34 #[.slice A3 n3 k3, .slice B3 j3 l3] W (EqPost RO W)) (HP : ∀ W, Below w.heap.size w W → Calls Tryz.prog 35 #[.agg #[.int .i64 m, .int .u8 (s.p.priv : Int), .slice A4 n4 k4, .slice A5 n5 k5, .slice A6 n6 k6], .agg #[.int .i64 m', .int .u8 (t.p.priv : Int), .slice B4 j4 l4, .slice B5 j5 l5, .slice B6 j6 l6]] W (EqPost RP W)) (Q : Exit → Act → World → Prop)
  (act : Act) (hst : St 167 rmD act act [(2, .pointer (some ⟨w.heap.size, 0, none⟩)), (3, .pointer (some ⟨w.heap.size + 1, 0, none⟩))]) (hQ : ∀ (bz : Bool) bfr wfin, Agree rmD act bfr → Has bfr 148 (.bool bz) → wfin.heap[w.heap.size]? = some (.cells (vNq m s A1 A2 A3 A4 A5 A6 n1 n2 n3 n4 n5 n6 k1 k2 k3 k4 k5 k6) 30) → wfin.heap[w.heap.size + 1]? = some (.cells (vNq m' t B1 B2 B3 B4 B5 B6 j1 j2 j3 j4 j5 j6 l1 l2 l3 l4 l5 l6) 30) → Below w.heap.size w wfin → (bz = false ↔ (s.rows = t.rows ∧ s.cols = t.cols ∧ s.y = t.y ∧ s.x = t.x ∧ s.wrap = t.wrap ∧ s.attr = t.attr ∧ s.top = t.top ∧ s.bottom = t.bottom ∧ s.sy = t.sy ∧ s.sx = t.sx ∧ s.sattr = t.sattr ∧ s.auto = t.auto ∧ s.shown = t.shown ∧ s.alt = t.alt ∧ s.oy = t.oy ∧ s.ox = t.ox ∧ n2 = j2) ∧ RC ∧ RO ∧ RP) → Q .normal bfr wfin) :
  LRun Tryz.prog rmOps Q 0 act (W2) := by
 have hz : w.heap.size + 1 < W2.heap.size := lt3 HY
 refine hst.lpure 0 6 (.fieldAddr 30 (.tmp 2) 0) none (.pointer (some ⟨w.heap.size, 0, none⟩)) (by kernel_rfl) trivial (fun o ho => ex_field0 (hst.eval (by rfl)) o ho _) (by decide) (by decide) fun bt hst => ?_
 refine hst.lpure 1 7 (.load 3 (.tmp 6)) none (.int .i64 s.rows) (by kernel_rfl) trivial (fun o ho => ex_loadI (hst.eval (by rfl)) o ho _ (cellR HX 0 rfl).1) (by decide) (by decide) fun bt hst => ?_
 refine hst.lpure 2 8 (.fieldAddr 30 (.tmp 3) 0) none (.pointer (some ⟨w.heap.size + 1, 0, none⟩)) (by kernel_rfl) trivial (fun o ho => ex_field0 (hst.eval (by rfl)) o ho _) (by decide) (by decide) fun bt hst => ?_
 refine hst.lpure 3 9 (.load 3 (.tmp 8)) none (.int .i64 t.rows) (by kernel_rfl) trivial (fun o ho => ex_loadI (hst.eval (by rfl)) o ho _ (cellR HY 0 rfl).1) (by decide) (by decide) fun bt hst => ?_
 refine hst.lpure 4 10 (.binOp .neq 3 (.tmp 7) (.tmp 9) 3) none (.bool (!decide (s.rows = t.rows))) (by kernel_rfl) trivial (fun o ho => ex_neqGI (hst.eval (by rfl)) (hst.eval (by rfl)) o ho _) (by decide) (by decide) fun bt hst => ?_
 refine hst.lpure 5 11 (.move (.tmp 10)) none (.bool (!decide (s.rows = t.rows))) (by kernel_rfl) trivial (fun o ho => exec_move _ (hst.eval (by rfl)) o ho _) (by decide) (by decide) fun bt hst => ?_
 refine hst.cmp7 5 11 3 1 2 3 (by kernel_rfl) (by decide) (by rfl) (by rfl) (by rfl) (by omega) (by omega) (fun _ _ _ h o ho => ex_field1 h o ho _) (fun _ _ h o ho => ex_loadI h o ho _ (cellR HX 1 rfl).1) (fun _ _ h o ho => ex_loadI h o ho _ (cellR HY 1 rfl).1) (fun _ _ _ h e o ho => ex_neqGI h e o ho _) fun bt z11 hz11 hst => ?_
 refine hst.cmp7 12 18 3 3 2 3 (by kernel_rfl) (by decide) (by rfl) (by rfl) (by rfl) (by omega) (by omega) (fun _ _ _ h o ho => ex_field3 h o ho _) (fun _ _ h o ho => ex_loadI h o ho _ (cellR HX 3 rfl).1) (fun _ _ h o ho => ex_loadI h o ho _ (cellR HY 3 rfl).1) (fun _ _ _ h e o ho => ex_neqGI h e o ho _) fun bt z18 hz18 hst => ?_
 refine hst.cmp7 19 25 3 4 2 3 (by kernel_rfl) (by decide) (by rfl) (by rfl) (by rfl) (by omega) (by omega) (fun _ _ _ h o ho => ex_field4 h o ho _) (fun _ _ h o ho => ex_loadI h o ho _ (cellR HX 4 rfl).1) (fun _ _ h o ho => ex_loadI h o ho _ (cellR HY 4 rfl).1) (fun _ _ _ h e o ho => ex_neqGI h e o ho _) fun bt z25 hz25 hst => ?_
 refine hst.cmp7 26 32 4 5 2 3 (by kernel_rfl) (by decide) (by rfl) (by rfl) (by rfl) (by omega) (by omega) (fun _ _ _ h o ho => ex_field5 h o ho _) (fun _ _ h o ho => ex_loadB h o ho _ (cellR HX 5 rfl).1) (fun _ _ h o ho => ex_loadB h o ho _ (cellR HY 5 rfl).1) (fun _ _ _ h e o ho => ex_neqGB h e o ho _) fun bt z32 hz32 hst => ?_
 refine hst.cmp7 33 39 23 6 2 3 (by kernel_rfl) (by decide) (by rfl) (by rfl) (by rfl) (by omega) (by omega) (fun _ _ _ h o ho => ex_field6 h o ho _) (fun _ _ h o ho => ex_loadU h o ho _ (cellR HX 6 rfl).1) (fun _ _ h o ho => ex_loadU h o ho _ (cellR HY 6 rfl).1) (fun _ _ _ h e o ho => ex_neqGU h e o ho _) fun bt z39 hz39 hst => ?_
 refine hst.cmp7 40 46 3 7 2 3 (by kernel_rfl) (by decide) (by rfl) (by rfl) (by rfl) (by omega) (by omega) (fun _ _ _ h o ho => ex_field7 h o ho _) (fun _ _ h o ho => ex_loadI h o ho _ (cellR HX 7 rfl).1) (fun _ _ h o ho => ex_loadI h o ho _ (cellR HY 7 rfl).1) (fun _ _ _ h e o ho => ex_neqGI h e o ho _) fun bt z46 hz46 hst => ?_
 refine hst.cmp7 47 53 3 8 2 3 (by kernel_rfl) (by decide) (by rfl) (by rfl) (by rfl) (by omega) (by omega) (fun _ _ _ h o ho => ex_field8 h o ho _) (fun _ _ h o ho => ex_loadI h o ho _ (cellR HX 8 rfl).1) (fun _ _ h o ho => ex_loadI h o ho _ (cellR HY 8 rfl).1) (fun _ _ _ h e o ho => ex_neqGI h e o ho _) fun bt z53 hz53 hst => ?_
 refine hst.cmp7 54 60 3 10 2 3 (by kernel_rfl) (by decide) (by rfl) (by rfl) (by rfl) (by omega) (by omega) (fun _ _ _ h o ho => ex_field10 h o ho _) (fun _ _ h o ho => ex_loadI h o ho _ (cellR HX 10 rfl).1) (fun _ _ h o ho => ex_loadI h o ho _ (cellR HY 10 rfl).1) (fun _ _ _ h e o ho => ex_neqGI h e o ho _) fun bt z60 hz60 hst => ?_
 refine hst.cmp7 61 67 3 11 2 3 (by kernel_rfl) (by decide) (by rfl) (by rfl) (by rfl) (by omega) (by omega) (fun _ _ _ h o ho => ex_field11 h o ho _) (fun _ _ h o ho => ex_loadI h o ho _ (cellR HX 11 rfl).1) (fun _ _ h o ho => ex_loadI h o ho _ (cellR HY 11 rfl).1) (fun _ _ _ h e o ho => ex_neqGI h e o ho _) fun bt z67 hz67 hst => ?_
 refine hst.cmp7 68 74 23 12 2 3 (by kernel_rfl) (by decide) (by rfl) (by rfl) (by rfl) (by omega) (by omega) (fun _ _ _ h o ho => ex_field12 h o ho _) (fun _ _ h o ho => ex_loadU h o ho _ (cellR HX 12 rfl).1) (fun _ _ h o ho => ex_loadU h o ho _ (cellR HY 12 rfl).1) (fun _ _ _ h e o ho => ex_neqGU h e o ho _) fun bt z74 hz74 hst => ?_
 refine hst.cmp7 75 81 4 13 2 3 (by kernel_rfl) (by decide) (by rfl) (by rfl) (by rfl) (by omega) (by omega) (fun _ _ _ h o ho => ex_field13 h o ho _) (fun _ _ h o ho => ex_loadB h o ho _ (cellR HX 13 rfl).1) (fun _ _ h o ho => ex_loadB h o ho _ (cellR HY 13 rfl).1) (fun _ _ _ h e o ho => ex_neqGB h e o ho _) fun bt z81 hz81 hst => ?_
 refine hst.cmp7 82 88 4 14 2 3 (by kernel_rfl) (by decide) (by rfl) (by rfl) (by rfl) (by omega) (by omega) (fun _ _ _ h o ho => ex_field14 h o ho _) (fun _ _ h o ho => ex_loadB h o ho _ (cellR HX 14 rfl).1) (fun _ _ h o ho => ex_loadB h o ho _ (cellR HY 14 rfl).1) (fun _ _ _ h e o ho => ex_neqGB h e o ho _) fun bt z88 hz88 hst => ?_
 refine hst.cmp7 89 95 4 15 2 3 (by kernel_rfl) (by decide) (by rfl) (by rfl) (by rfl) (by omega) (by omega) (fun _ _ _ h o ho => ex_field15 h o ho _) (fun _ _ h o ho => ex_loadB h o ho _ (cellR HX 15 rfl).1) (fun _ _ h o ho => ex_loadB h o ho _ (cellR HY 15 rfl).1) (fun _ _ _ h e o ho => ex_neqGB h e o ho _) fun bt z95 hz95 hst => ?_
 refine hst.cmp7 96 102 3 17 2 3 (by kernel_rfl) (by decide) (by rfl) (by rfl) (by rfl) (by omega) (by omega) (fun _ _ _ h o ho => ex_field17 h o ho _) (fun _ _ h o ho => ex_loadI h o ho _ (cellR HX 17 rfl).1) (fun _ _ h o ho => ex_loadI h o ho _ (cellR HY 17 rfl).1) (fun _ _ _ h e o ho => ex_neqGI h e o ho _) fun bt z102 hz102 hst => ?_
 refine hst.cmp7 103 109 3 18 2 3 (by kernel_rfl) (by decide) (by rfl) (by rfl) (by rfl) (by omega) (by omega) (fun _ _ _ h o ho => ex_field18 h o ho _) (fun _ _ h o ho => ex_loadI h o ho _ (cellR HX 18 rfl).1) (fun _ _ h o ho => ex_loadI h o ho _ (cellR HY 18 rfl).1) (fun _ _ _ h e o ho => ex_neqGI h e o ho _) fun bt z109 hz109 hst => ?_
 refine hst.lgpure 111 117 (.fieldAddr 30 (.tmp 2) 9) 110 116 (z109) (.pointer (some ⟨w.heap.size, 9, none⟩)) (by kernel_rfl) (by kernel_rfl) (by rfl) (fun hb o ho => ex_field9 (hst.eval (by rfl)) o ho _) (by decide) (by decide) fun bt hst => ?_
 refine hst.lgpure 112 118 (.load 24 (.tmp 117)) 110 116 (z109) (.slice A2 n2 k2) (by kernel_rfl) (by kernel_rfl) (by rfl) (fun hb o ho => ex_loadT (hst.evaln (by rfl) hb) o ho _ (cellR HX 9 rfl).1) (by decide) (by decide) fun bt hst => ?_
 refine hst.lgpure 113 119 (.call { callee := .builtin .len, args := #[.tmp 118], argTypes := #[24] }) 110 116 (z109) (.int .i64 (n2 : Int)) (by kernel_rfl) (by kernel_rfl) (by rfl) (fun hb o ho => ex_lenT (hst.evaln (by rfl) hb) o ho _) (by decide) (by decide) fun bt hst => ?_
 refine hst.lgpure 114 120 (.fieldAddr 30 (.tmp 3) 9) 110 116 (z109) (.pointer (some ⟨w.heap.size + 1, 9, none⟩)) (by kernel_rfl) (by kernel_rfl) (by rfl) (fun hb o ho => ex_field9 (hst.eval (by rfl)) o ho _) (by decide) (by decide) fun bt hst => ?_
 refine hst.lgpure 115 121 (.load 24 (.tmp 120)) 110 116 (z109) (.slice B2 j2 l2) (by kernel_rfl) (by kernel_rfl) (by rfl) (fun hb o ho => ex_loadT (hst.evaln (by rfl) hb) o ho _ (cellR HY 9 rfl).1) (by decide) (by decide) fun bt hst => ?_
 refine hst.lgpure 116 122 (.call { callee := .builtin .len, args := #[.tmp 121], argTypes := #[24] }) 110 116 (z109) (.int .i64 (j2 : Int)) (by kernel_rfl) (by kernel_rfl) (by rfl) (fun hb o ho => ex_lenT (hst.evaln (by rfl) hb) o ho _) (by decide) (by decide) fun bt hst => ?_
 refine hst.lgpure 117 123 (.binOp .neq 3 (.tmp 119) (.tmp 122) 3) 110 116 (z109) (.bool (!decide ((n2 : Int) = (j2 : Int)))) (by kernel_rfl) (by kernel_rfl) (by rfl) (fun hb o ho => ex_neqGI (hst.evaln (by rfl) hb) (hst.evaln (by rfl) hb) o ho _) (by decide) (by decide) fun bt hst => ?_
 refine hst.lpure 118 124 (.pick (.tmp 116) (.const (.bool true)) (.tmp 123)) none (.bool ((z109) || (!decide ((n2 : Int) = (j2 : Int))))) (by kernel_rfl) trivial (fun o ho => exec_pickH (hst.eval (by rfl)) (hst.eval (by rfl)) o ho _ rfl) (by decide) (by decide) fun bt hst => ?_
 obtain ⟨z118, hz118⟩ : ∃ z : Bool, ((z109) || (!decide ((n2 : Int) = (j2 : Int)))) = z := ⟨_, rfl⟩
 rw [hz118] at hst
 refine hst.lpure 119 125 (.move (.tmp 124)) none (.bool z118) (by kernel_rfl) trivial (fun o ho => exec_move _ (hst.eval (by rfl)) o ho _) (by decide) (by decide) fun bt hst => ?_
 refine hst.lgpure 120 126 (.fieldAddr 30 (.tmp 2) 2) 119 125 (z118) (.pointer (some ⟨w.heap.size, 2, none⟩)) (by kernel_rfl) (by kernel_rfl) (by rfl) (fun hb o ho => ex_field2 (hst.eval (by rfl)) o ho _) (by decide) (by decide) fun bt hst => ?_
 refine hst.lgpure 121 127 (.load 22 (.tmp 126)) 119 125 (z118) (.slice A1 n1 k1) (by kernel_rfl) (by kernel_rfl) (by rfl) (fun hb o ho => ex_loadC (hst.evaln (by rfl) hb) o ho _ (cellR HX 2 rfl).1) (by decide) (by decide) fun bt hst => ?_
 refine hst.lgpure 122 128 (.fieldAddr 30 (.tmp 3) 2) 119 125 (z118) (.pointer (some ⟨w.heap.size + 1, 2, none⟩)) (by kernel_rfl) (by kernel_rfl) (by rfl) (fun hb o ho => ex_field2 (hst.eval (by rfl)) o ho _) (by decide) (by decide) fun bt hst => ?_
 refine hst.lgpure 123 129 (.load 22 (.tmp 128)) 119 125 (z118) (.slice B1 j1 l1) (by kernel_rfl) (by kernel_rfl) (by rfl) (fun hb o ho => ex_loadC (hst.evaln (by rfl) hb) o ho _ (cellR HY 2 rfl).1) (by decide) (by decide) fun bt hst => ?_
 refine hst.lgcall (W0 := w) (R := RC) 124 130 34 #[.tmp 127, .tmp 129] #[22, 22] 119 125 (z118) #[.slice A1 n1 k1, .slice B1 j1 l1] (by kernel_rfl) (by kernel_rfl) (by rfl) (fun hb => map2 (hst.evaln (by rfl) hb) (hst.evaln (by rfl) hb)) (by kernel_rfl) (by decide) (by decide) HB (HC _ HB) HB.size fun bt W3 r1 hst hr1 hbw HB2 => ?_
 have HX := (hbw.block _ (by omega)).trans HX
 have HY := (hbw.block _ hz).trans HY
 have hz := Nat.lt_of_lt_of_le hz hbw.size
 have HB := HB2
 refine hst.lgpure 125 131 (.unOp .not 4 (.tmp 130)) 119 125 (z118) (.bool (!r1)) (by kernel_rfl) (by kernel_rfl) (by rfl) (fun hb o ho => exec_not r1 (hst.evaln (by rfl) hb) o ho _) (by decide) (by decide) fun bt hst => ?_
 refine hst.lpure 126 132 (.pick (.tmp 125) (.const (.bool true)) (.tmp 131)) none (.bool ((z118) || (!r1))) (by kernel_rfl) trivial (fun o ho => exec_pickH (hst.eval (by rfl)) (hst.eval (by rfl)) o ho _ rfl) (by decide) (by decide) fun bt hst => ?_
 obtain ⟨z126, hz126⟩ : ∃ z : Bool, ((z118) || (!r1)) = z := ⟨_, rfl⟩
 rw [hz126] at hst
 refine hst.lpure 127 133 (.move (.tmp 132)) none (.bool z126) (by kernel_rfl) trivial (fun o ho => exec_move _ (hst.eval (by rfl)) o ho _) (by decide) (by decide) fun bt hst => ?_
 refine hst.lgpure 128 134 (.fieldAddr 30 (.tmp 2) 16) 127 133 (z126) (.pointer (some ⟨w.heap.size, 16, none⟩)) (by kernel_rfl) (by kernel_rfl) (by rfl) (fun hb o ho => ex_field16 (hst.eval (by rfl)) o ho _) (by decide) (by decide) fun bt hst => ?_
 refine hst.lgpure 129 135 (.load 22 (.tmp 134)) 127 133 (z126) (.slice A3 n3 k3) (by kernel_rfl) (by kernel_rfl) (by rfl) (fun hb o ho => ex_loadC (hst.evaln (by rfl) hb) o ho _ (cellR HX 16 rfl).1) (by decide) (by decide) fun bt hst => ?_
 refine hst.lgpure 130 136 (.fieldAddr 30 (.tmp 3) 16) 127 133 (z126) (.pointer (some ⟨w.heap.size + 1, 16, none⟩)) (by kernel_rfl) (by kernel_rfl) (by rfl) (fun hb o ho => ex_field16 (hst.eval (by rfl)) o ho _) (by decide) (by decide) fun bt hst => ?_
 refine hst.lgpure 131 137 (.load 22 (.tmp 136)) 127 133 (z126) (.slice B3 j3 l3) (by kernel_rfl) (by kernel_rfl) (by rfl) (fun hb o ho => ex_loadC (hst.evaln (by rfl) hb) o ho _ (cellR HY 16 rfl).1) (by decide) (by decide) fun bt hst => ?_
 refine hst.lgcall (W0 := w) (R := RO) 132 138 34 #[.tmp 135, .tmp 137] #[22, 22] 127 133 (z126) #[.slice A3 n3 k3, .slice B3 j3 l3] (by kernel_rfl) (by kernel_rfl) (by rfl) (fun hb => map2 (hst.evaln (by rfl) hb) (hst.evaln (by rfl) hb)) (by kernel_rfl) (by decide) (by decide) HB (HO _ HB) HB.size fun bt W4 r2 hst hr2 hbw HB2 => ?_
 have HX := (hbw.block _ (by omega)).trans HX
 have HY := (hbw.block _ hz).trans HY
 have hz := Nat.lt_of_lt_of_le hz hbw.size
 have HB := HB2
 refine hst.lgpure 133 139 (.unOp .not 4 (.tmp 138)) 127 133 (z126) (.bool (!r2)) (by kernel_rfl) (by kernel_rfl) (by rfl) (fun hb o ho => exec_not r2 (hst.evaln (by rfl) hb) o ho _) (by decide) (by decide) fun bt hst => ?_
 refine hst.lpure 134 140 (.pick (.tmp 133) (.const (.bool true)) (.tmp 139)) none (.bool ((z126) || (!r2))) (by kernel_rfl) trivial (fun o ho => exec_pickH (hst.eval (by rfl)) (hst.eval (by rfl)) o ho _ rfl) (by decide) (by decide) fun bt hst => ?_
 obtain ⟨z134, hz134⟩ : ∃ z : Bool, ((z126) || (!r2)) = z := ⟨_, rfl⟩
 rw [hz134] at hst
 refine hst.lpure 135 141 (.move (.tmp 140)) none (.bool z134) (by kernel_rfl) trivial (fun o ho => exec_move _ (hst.eval (by rfl)) o ho _) (by decide) (by decide) fun bt hst => ?_
 refine hst.lgpure 136 142 (.fieldAddr 30 (.tmp 2) 19) 135 141 (z134) (.pointer (some ⟨w.heap.size, 19, none⟩)) (by kernel_rfl) (by kernel_rfl) (by rfl) (fun hb o ho => ex_field19 (hst.eval (by rfl)) o ho _) (by decide) (by decide) fun bt hst => ?_
 refine hst.lgpure 137 143 (.load 28 (.tmp 142)) 135 141 (z134) (.agg #[.int .i64 m, .int .u8 (s.p.priv : Int), .slice A4 n4 k4, .slice A5 n5 k5, .slice A6 n6 k6]) (by kernel_rfl) (by kernel_rfl) (by rfl) (fun hb o ho => ex_loadP (hst.evaln (by rfl) hb) o ho _ (cellR HX 19 rfl).1 (cellR HX 20 rfl).1 (cellR HX 21 rfl).1 (cellR HX 22 rfl).1 (cellR HX 23 rfl).1) (by decide) (by decide) fun bt hst => ?_
 refine hst.lgpure 138 144 (.fieldAddr 30 (.tmp 3) 19) 135 141 (z134) (.pointer (some ⟨w.heap.size + 1, 19, none⟩)) (by kernel_rfl) (by kernel_rfl) (by rfl) (fun hb o ho => ex_field19 (hst.eval (by rfl)) o ho _) (by decide) (by decide) fun bt hst => ?_
 refine hst.lgpure 139 145 (.load 28 (.tmp 144)) 135 141 (z134) (.agg #[.int .i64 m', .int .u8 (t.p.priv : Int), .slice B4 j4 l4, .slice B5 j5 l5, .slice B6 j6 l6]) (by kernel_rfl) (by kernel_rfl) (by rfl) (fun hb o ho => ex_loadP (hst.evaln (by rfl) hb) o ho _ (cellR HY 19 rfl).1 (cellR HY 20 rfl).1 (cellR HY 21 rfl).1 (cellR HY 22 rfl).1 (cellR HY 23 rfl).1) (by decide) (by decide) fun bt hst => ?_
 refine hst.lgcall (W0 := w) (R := RP) 140 146 35 #[.tmp 143, .tmp 145] #[28, 28] 135 141 (z134) #[.agg #[.int .i64 m, .int .u8 (s.p.priv : Int), .slice A4 n4 k4, .slice A5 n5 k5, .slice A6 n6 k6], .agg #[.int .i64 m', .int .u8 (t.p.priv : Int), .slice B4 j4 l4, .slice B5 j5 l5, .slice B6 j6 l6]] (by kernel_rfl) (by kernel_rfl) (by rfl) (fun hb => map2 (hst.evaln (by rfl) hb) (hst.evaln (by rfl) hb)) (by kernel_rfl) (by decide) (by decide) HB (HP _ HB) HB.size fun bt W5 r3 hst hr3 hbw HB2 => ?_
 have HX := (hbw.block _ (by omega)).trans HX
 have HY := (hbw.block _ hz).trans HY
 have hz := Nat.lt_of_lt_of_le hz hbw.size
 have HB := HB2
 refine hst.lgpure 141 147 (.unOp .not 4 (.tmp 146)) 135 141 (z134) (.bool (!r3)) (by kernel_rfl) (by kernel_rfl) (by rfl) (fun hb o ho => exec_not r3 (hst.evaln (by rfl) hb) o ho _) (by decide) (by decide) fun bt hst => ?_
 refine hst.lpure 142 148 (.pick (.tmp 141) (.const (.bool true)) (.tmp 147)) none (.bool ((z134) || (!r3))) (by kernel_rfl) trivial (fun o ho => exec_pickH (hst.eval (by rfl)) (hst.eval (by rfl)) o ho _ rfl) (by decide) (by decide) fun bt hst => ?_
 obtain ⟨z142, hz142⟩ : ∃ z : Bool, ((z134) || (!r3)) = z := ⟨_, rfl⟩
 rw [hz142] at hst
 refine lrun_end rmSize ?_
 exact hQ _ _ _ hst.agree (hst.holds 148 _ (by rfl)) HX HY HB ((or_chain hz142 (or_chain hz134 (or_chain hz126 (or_dec hz118 (or_dec hz109 (or_dec hz102 (or_dec hz95 (or_dec hz88 (or_dec hz81 (or_dec hz74 (or_dec hz67 (or_dec hz60 (or_dec hz53 (or_dec hz46 (or_dec hz39 (or_dec hz32 (or_dec hz25 (or_dec hz18 (or_dec hz11 not_dec)))))))))))))))) hr1) hr2) hr3).trans (by simp only [and_assoc, Int.ofNat_inj]))
theorem rmAt (s t : Sc) (m m' : Int) (A1 A2 A3 A4 A5 A6 B1 B2 B3 B4 B5 B6 : Option Addr) (n1 n2 n3 n4 n5 n6 k1 k2 k3 k4 k5 k6 j1 j2 j3 j4 j5 j6 l1 l2 l3 l4 l5 l6 : Nat) (w W2 : World) (RC RO RP : Prop) (HX : W2.heap[w.heap.size]? = some (.cells (vNq m s A1 A2 A3 A4 A5 A6 n1 n2 n3 n4 n5 n6 k1 k2 k3 k4 k5 k6) 30)) (HY : W2.heap[w.heap.size + 1]? = some (.cells (vNq m' t B1 B2 B3 B4 B5 B6 j1 j2 j3 j4 j5 j6 l1 l2 l3 l4 l5 l6) 30)) (HB : Below w.heap.size w W2) (HC : ∀ W, Below w.heap.size w W → Calls Tryz.prog 34 #[.slice A1 n1 k1, .slice B1 j1 l1] W (EqPost RC W)) (HO : ∀ W, Below w.heap.size w W → Calls Tryz.prog 34 #[.slice A3 n3 k3, .slice B3 j3 l3] W (EqPost RO W)) (HP : ∀ W, Below w.heap.size w W → Calls Tryz.prog 35 #[.agg #[.int .i64 m, .int .u8 (s.p.priv : Int), .slice A4 n4 k4, .slice A5 n5 k5, .slice A6 n6 k6], .agg #[.int .i64 m', .int .u8 (t.p.priv : Int), .slice B4 j4 l4, .slice B5 j5 l5, .slice B6 j6 l6]] W (EqPost RP W)) (Q : Exit → Act → World → Prop) {u0 u1 u4 u5 u6 u7 u8 u9 u10 u11 u12 u13 u14 u15 u16 u17 u18 u19 u20 u21 u22 u23 u24 u25 u26 u27 u28 u29 u30 u31 u32 u33 u34 u35 u36 u37 u38 u39 u40 u41 u42 u43 u44 u45 u46 u47 u48 u49 u50 u51 u52 u53 u54 u55 u56 u57 u58 u59 u60 u61 u62 u63 u64 u65 u66 u67 u68 u69 u70 u71 u72 u73 u74 u75 u76 u77 u78 u79 u80 u81 u82 u83 u84 u85 u86 u87 u88 u89 u90 u91 u92 u93 u94 u95 u96 u97 u98 u99 u100 u101 u102 u103 u104 u105 u106 u107 u108 u109 u110 u111 u112 u113 u114 u115 u116 u117 u118 u119 u120 u121 u122 u123 u124 u125 u126 u127 u128 u129 u130 u131 u132 u133 u134 u135 u136 u137 u138 u139 u140 u141 u142 u143 u144 u145 u146 u147 u148 u149 u150 u151 u152 u153 u154 u155 u156 u157 u158 u159 u160 u161 u162 u163 u164 u165 u166 : Value}
  (hQ : ∀ (bz : Bool) (f : Nat → Value) (wfin : World), wfin.heap[w.heap.size]? = some (.cells (vNq m s A1 A2 A3 A4 A5 A6 n1 n2 n3 n4 n5 n6 k1 k2 k3 k4 k5 k6) 30) → wfin.heap[w.heap.size + 1]? = some (.cells (vNq m' t B1 B2 B3 B4 B5 B6 j1 j2 j3 j4 j5 j6 l1 l2 l3 l4 l5 l6) 30) → Below w.heap.size w wfin → (bz = false ↔ (s.rows = t.rows ∧ s.cols = t.cols ∧ s.y = t.y ∧ s.x = t.x ∧ s.wrap = t.wrap ∧ s.attr = t.attr ∧ s.top = t.top ∧ s.bottom = t.bottom ∧ s.sy = t.sy ∧ s.sx = t.sx ∧ s.sattr = t.sattr ∧ s.auto = t.auto ∧ s.shown = t.shown ∧ s.alt = t.alt ∧ s.oy = t.oy ∧ s.ox = t.ox ∧ n2 = j2) ∧ RC ∧ RO ∧ RP) → Q .normal ⟨#[u0, u1, .pointer (some ⟨w.heap.size, 0, none⟩), .pointer (some ⟨w.heap.size + 1, 0, none⟩), u4, u5, f 6, f 7, f 8, f 9, f 10, f 11, f 12, f 13, f 14, f 15, f 16, f 17, f 18, f 19, f 20, f 21, f 22, f 23, f 24, f 25, f 26, f 27, f 28, f 29, f 30, f 31, f 32, f 33, f 34, f 35, f 36, f 37, f 38, f 39, f 40, f 41, f 42, f 43, f 44, f 45, f 46, f 47, f 48, f 49, f 50, f 51, f 52, f 53, f 54, f 55, f 56, f 57, f 58, f 59, f 60, f 61, f 62, f 63, f 64, f 65, f 66, f 67, f 68, f 69, f 70, f 71, f 72, f 73, f 74, f 75, f 76, f 77, f 78, f 79, f 80, f 81, f 82, f 83, f 84, f 85, f 86, f 87, f 88, f 89, f 90, f 91, f 92, f 93, f 94, f 95, f 96, f 97, f 98, f 99, f 100, f 101, f 102, f 103, f 104, f 105, f 106, f 107, f 108, f 109, f 110, f 111, f 112, f 113, f 114, f 115, f 116, f 117, f 118, f 119, f 120, f 121, f 122, f 123, f 124, f 125, f 126, f 127, f 128, f 129, f 130, f 131, f 132, f 133, f 134, f 135, f 136, f 137, f 138, f 139, f 140, f 141, f 142, f 143, f 144, f 145, f 146, f 147, .bool bz, u149, u150, u151, u152, u153, u154, u155, u156, u157, u158, u159, u160, u161, u162, u163, u164, u165, u166], []⟩ wfin) :
  Code.wp Tryz.prog rmReg Q ⟨#[u0, u1, .pointer (some ⟨w.heap.size, 0, none⟩), .pointer (some ⟨w.heap.size + 1, 0, none⟩), u4, u5, u6, u7, u8, u9, u10, u11, u12, u13, u14, u15, u16, u17, u18, u19, u20, u21, u22, u23, u24, u25, u26, u27, u28, u29, u30, u31, u32, u33, u34, u35, u36, u37, u38, u39, u40, u41, u42, u43, u44, u45, u46, u47, u48, u49, u50, u51, u52, u53, u54, u55, u56, u57, u58, u59, u60, u61, u62, u63, u64, u65, u66, u67, u68, u69, u70, u71, u72, u73, u74, u75, u76, u77, u78, u79, u80, u81, u82, u83, u84, u85, u86, u87, u88, u89, u90, u91, u92, u93, u94, u95, u96, u97, u98, u99, u100, u101, u102, u103, u104, u105, u106, u107, u108, u109, u110, u111, u112, u113, u114, u115, u116, u117, u118, u119, u120, u121, u122, u123, u124, u125, u126, u127, u128, u129, u130, u131, u132, u133, u134, u135, u136, u137, u138, u139, u140, u141, u142, u143, u144, u145, u146, u147, u148, u149, u150, u151, u152, u153, u154, u155, u156, u157, u158, u159, u160, u161, u162, u163, u164, u165, u166], []⟩ (W2) := by
 rw [rmIs]
 refine lrun_start ?_
 refine rmRun s t m m' A1 A2 A3 A4 A5 A6 B1 B2 B3 B4 B5 B6 n1 n2 n3 n4 n5 n6 k1 k2 k3 k4 k5 k6 j1 j2 j3 j4 j5 j6 l1 l2 l3 l4 l5 l6 w W2 RC RO RP HX HY HB HC HO HP _ _ ⟨rfl, Agree.refl, fun j v h => ?_⟩ fun bz bfr wfin hag hv148 h1 h2 h3 h4 => ?_
 ·simp only [List.lookup_cons] at h
  repeat (split at h; · (rename_i e; have e2 := eq_of_beq e; subst e2; injection h with h; subst h; rfl))
  cases h
 ·obtain ⟨f, rfl, hf⟩ := hag.formA 167 rfl
  have e148 : f 148 = .bool bz := hf 148 _ hv148
  have := hQ bz f wfin h1 h2 h3 h4
  rw [← e148] at this
  exact (congrArg (fun l => Q .normal ⟨l, []⟩ wfin) (by kernel_rfl)).mpr this
theorem sameR_of (m m' : Int) (s t : Sc) : ((s.rows = t.rows ∧ s.cols = t.cols ∧ s.y = t.y ∧ s.x = t.x ∧ s.wrap = t.wrap ∧ s.attr = t.attr ∧ s.top = t.top ∧ s.bottom = t.bottom ∧ s.sy = t.sy ∧ s.sx = t.sx ∧ s.sattr = t.sattr ∧ s.auto = t.auto ∧ s.shown = t.shown ∧ s.alt = t.alt ∧ s.oy = t.oy ∧ s.ox = t.ox ∧ s.tabs.length = t.tabs.length) ∧ s.cells = t.cells ∧ s.other = t.other ∧ SameQ m s.p.priv s.p.params s.p.inter s.p.utf m' t.p.priv t.p.params t.p.inter t.p.utf) ∧ s.tabs = t.tabs ↔ SameR m s m' t := by
 unfold SameR fixB SameQ
 simp only [Bool.and_eq_true, decide_eq_true_eq, Int.ofNat_inj]
 constructor
 ·rintro ⟨⟨⟨a1, a2, a3, a4, a5, a6, a7, a8, a9, a10, a11, a12, a13, a14, a15, a16, -⟩, c, o, q1, q2, q3, q4, q5⟩, t⟩
  exact ⟨⟨a1, a2, a3, a4, a5, a12, a13, a14, a6, a11, a7, a8, a9, a10, a15, a16, q1, q2, trivial⟩, c, o, t, q3, q4, q5⟩
 ·rintro ⟨⟨a1, a2, a3, a4, a5, a12, a13, a14, a6, a11, a7, a8, a9, a10, a15, a16, q1, q2, -⟩, c, o, t, q3, q4, q5⟩
  exact ⟨⟨⟨a1, a2, a3, a4, a5, a6, a7, a8, a9, a10, a11, a12, a13, a14, a15, a16, by rw [t]⟩, c, o, q1, q2, q3, q4, q5⟩, t⟩
def TabEqRel (n g0 g1 : Nat) (l m : List Bool) (a b : Array Value) (w : World) (i : Value) (wr : World) : Prop := ∃ k : Nat, k ≤ n ∧ i = .int .i64 (k : Int) ∧ (∀ j, j < k → l[j]? = m[j]?) ∧ wr.heap[g0]? = some (.cells a 30) ∧ wr.heap[g1]? = some (.cells b 30) ∧ Below w.heap.size w wr
theorem sameSr_any (m m' : Int) (s t : Sc) (vc vt vo vp vi vu uc ut uo up ui uu : Value) (S : Nat → Prop) (w : World) (hS : ∀ x, S x → x < w.heap.size) (hs : SSl w S s vc vt vo vp vi vu) (ht : SSl w S t uc ut uo up ui uu)
  (h1 : s.cells.length ≤ 1048576 ∧ s.other.length ≤ 1048576 ∧ s.tabs.length ≤ 1048576 ∧ s.p.params.length ≤ 1048576 ∧ s.p.inter.length ≤ 1048576 ∧ s.p.utf.length ≤ 1048576) (h2 : t.cells.length ≤ 1048576 ∧ t.other.length ≤ 1048576 ∧ t.tabs.length ≤ 1048576 ∧ t.p.params.length ≤ 1048576 ∧ t.p.inter.length ≤ 1048576 ∧ t.p.utf.length ≤ 1048576) :
  Calls Tryz.prog 12 #[.agg (vRaw m s vc vt vo vp vi vu), .agg (vRaw m' t uc ut uo up ui uu)] w (EqPost (SameR m s m' t) w) := by
 have HSS := Lh hS
 have HS := Lh hs
 have HT := Lh ht
 have H1 := Lh h1
 have H2 := Lh h2
 obtain ⟨A1, k1, A2, k2, A3, k3, A4, k4, A5, k5, A6, k6, rfl, rfl, rfl, rfl, rfl, rfl⟩ := sslForms hs
 obtain ⟨B1, l1, B2, l2, B3, l3, B4, l4, B5, l5, B6, l6, rfl, rfl, rfl, rfl, rfl, rfl⟩ := sslForms ht
 clear hs ht h1 h2 hS
 have HX : Hid (∀ w', Below w.heap.size w w' → SSl w' S s (.slice A1 s.cells.length k1) (.slice A2 s.tabs.length k2) (.slice A3 s.other.length k3) (.slice A4 s.p.params.length k4) (.slice A5 s.p.inter.length k5) (.slice A6 s.p.utf.length k6) ∧ SSl w' S t (.slice B1 t.cells.length l1) (.slice B2 t.tabs.length l2) (.slice B3 t.other.length l3) (.slice B4 t.p.params.length l4) (.slice B5 t.p.inter.length l5) (.slice B6 t.p.utf.length l6) ∧ ∀ x, S x → x < w'.heap.size) := fun w' hb => ⟨HS.out.bel HSS.out hb, HT.out.bel HSS.out hb, fun x hx => Nat.lt_of_lt_of_le (HSS.out x hx) hb.size⟩
 go_enter Tryz.func12, Tryz.ntmps12
 go_upto_region 1 with fail
 refine rmAt s t m m' A1 A2 A3 A4 A5 A6 B1 B2 B3 B4 B5 B6 _ _ _ _ _ _ k1 k2 k3 k4 k5 k6 _ _ _ _ _ _ l1 l2 l3 l4 l5 l6 w _ (s.cells = t.cells) (s.other = t.other) (SameQ m s.p.priv s.p.params s.p.inter s.p.utf m' t.p.priv t.p.params t.p.inter t.p.utf) (heap_a1 w _ _) (heap_a2 w _ _) (two_new w _ _).1 ?_ ?_ ?_ _ fun bz f wf hx hy hb hz => ?_
 ·exact fun w' hb => sameCr_any _ _ _ _ _ ((HX.out w' hb).1.1.cs (HX.out w' hb).2.2) ((HX.out w' hb).2.1.1.cs (HX.out w' hb).2.2) H1.out.1 H2.out.1
 ·exact fun w' hb => sameCr_any _ _ _ _ _ ((HX.out w' hb).1.2.2.1.cs (HX.out w' hb).2.2) ((HX.out w' hb).2.1.2.2.1.cs (HX.out w' hb).2.2) H1.out.2.1 H2.out.2.1
 ·exact fun w' hb => samePr_any m m' s.p.priv t.p.priv _ _ _ _ _ _ _ _ _ _ _ _ S _ (HX.out w' hb).1.2.2.2.1 (HX.out w' hb).1.2.2.2.2.1 (HX.out w' hb).1.2.2.2.2.2 (HX.out w' hb).2.1.2.2.2.1 (HX.out w' hb).2.1.2.2.2.2.1 (HX.out w' hb).2.1.2.2.2.2.2 (HX.out w' hb).2.2 H1.out.2.2.2.1 H2.out.2.2.2.1
 have HXk := Lh hx
 have HYk := Lh hy
 have HBk := Lh hb
 have HZ := Lh hz
 have HR := Lh (sameR_of m m' s t)
 clear hx hy hb hz
 go_simp
 cases bz with
 | true =>
  have hno := Lh (show ¬ SameR m s m' t from fun h => by have := HZ.out.2 (HR.out.2 h).1; cases this)
  go_wp2
  go_ret
  exact eqp_no hno.out HBk.out
 | false =>
  have hz := HZ.out.1 rfl
  have hlen : s.tabs.length = t.tabs.length := hz.1.2.2.2.2.2.2.2.2.2.2.2.2.2.2.2.2
  have HIFF := Lh (show SameR m s m' t ↔ s.tabs = t.tabs from ⟨fun h => (HR.out.2 h).2, fun h => HR.out.1 ⟨hz, h⟩⟩)
  clear hz
  have HM := Lh hlen
  clear hlen
  go_wp2
  go_loopw [5] (fun i wr => TabEqRel s.tabs.length w.heap.size (w.heap.size + 1) s.tabs t.tabs _ _ w i wr) (fun i _ => s.tabs.length - (intOf i).toNat)
  case atStart => exact ⟨0, Nat.zero_le _, rfl, fun j hj => absurd hj (by omega), HXk.out, HYk.out, HBk.out⟩
  case round =>
   clear HXk HYk HBk
   generalize wr = w5 at *
   obtain ⟨k, hk, rfl, hall, hx, hy, hb⟩ := hrel
   obtain ⟨e9, -⟩ := cellR (v := .slice A2 s.tabs.length k2) hx 9 rfl
   obtain ⟨f9, -⟩ := cellR (v := .slice B2 t.tabs.length l2) hy 9 rfl
   have HX5 := Lh hx
   have HY5 := Lh hy
   have HBB := Lh hb
   have HALL := Lh hall
   clear hx hy hb hall
   by_cases hlt : k < s.tabs.length
   ·obtain ⟨x, hx⟩ : ∃ x, s.tabs[k]? = some x := ⟨_, List.getElem?_eq_getElem hlt⟩
    obtain ⟨y, hy⟩ : ∃ y, t.tabs[k]? = some y := ⟨_, List.getElem?_eq_getElem (by have := HM.out; omega)⟩
    obtain ⟨a1, hA1, s0⟩ := (HX.out w5 HBB.out).1.2.1.get k x hx
    obtain ⟨a2, hB1, u0⟩ := (HX.out w5 HBB.out).2.1.2.1.get k y hy
    unfold vT at s0 u0
    subst hA1 hB1
    have HXx := Lh hx
    have HYy := Lh hy
    have hki : (k : Int) < (s.tabs.length : Int) := by omega
    have hbd : s.tabs.length ≤ 1048576 := H1.out.2.2.1
    have hki2 : (k : Int) < (t.tabs.length : Int) := by have := HM.out; omega
    clear hx hy
    by_cases hxy : x = y
    ·subst hxy
     go_wp2
     go_quiet (fail)
     have hbq := below_drewW HBB.out nq
     have hxq : (World.drewN w5 nq).heap[w.heap.size]? = _ := HX5.out
     have hyq : (World.drewN w5 nq).heap[w.heap.size + 1]? = _ := HY5.out
     have HXq := Lh hxq
     have HYq := Lh hyq
     clear hxq hyq
     go_wp2
     go_roundw
     case rel =>
      refine ⟨k + 1, hlt, by go_num, ?_, HXq.out, HYq.out, hbq⟩
      intro j hj
      by_cases e : j = k
      ·rw [e, HXx.out, HYy.out]
      ·exact HALL.out j (by omega)
     case measure => simp [intOf]; omega
    ·have hbq : (!x == y) = true := by simpa using hxy
     have HNO := Lh (show ¬ SameR m s m' t from fun h => hxy (by have h1 := HXx.out; rw [HIFF.out.1 h, HYy.out] at h1; exact (Option.some.inj h1).symm))
     clear hxy
     go_wp2
     go_quiet (fail)
     have hbq2 := below_drewW HBB.out nq
     go_wp2
     go_ret
     exact eqp_no HNO.out hbq2
   ·obtain rfl : k = s.tabs.length := by omega
    have heq : s.tabs = t.tabs := by
     apply List.ext_getElem?
     intro j
     by_cases hj : j < s.tabs.length
     ·exact HALL.out j hj
     ·rw [List.getElem?_eq_none (by omega), List.getElem?_eq_none (by have := HM.out; omega)]
    have HE := Lh (HIFF.out.2 heq)
    clear heq
    go_wp2
    go_ret
    exact eqp_yes HE.out HBB.out
end Go.Proofs.YthepofkdgbcifaaGreat
