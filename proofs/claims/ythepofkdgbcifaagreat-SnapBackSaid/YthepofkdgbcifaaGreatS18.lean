/- What is proved here: parts of layer 10's proofs. -/
import Derived.Test.YthepofkdgbcifaaGreatS16
import Derived.Lib.AppendStr
import Derived.Deep.Onto
namespace Go.Proofs.YthepofkdgbcifaaGreat
open Go.RowKit
set_option linter.unusedVariables false
set_option linter.unusedSimpArgs false
set_option maxHeartbeats 4000000
set_option maxRecDepth 100000
theorem ex_eqKI {ρ : Operand → Value} {x y : Operand} {n : Int} (h : ρ x = .int .i64 n) (h2 : ρ y = .int .i64 n) (o : Oper) (ho : o.op = .binOp .eql 3 x y 3) (w : World) : (execOp ρ o).run Tryz.prog w = .ok (.value (.bool true)) w := by
 obtain ⟨dst, op, ty, pos, after, guard⟩ := o
 simp only at ho
 subst ho
 unfold execOp
 simp only [h, h2]
 go_simp
theorem ex_eqKB {ρ : Operand → Value} {x y : Operand} {n : Bool} (h : ρ x = .bool n) (h2 : ρ y = .bool n) (o : Oper) (ho : o.op = .binOp .eql 4 x y 4) (w : World) : (execOp ρ o).run Tryz.prog w = .ok (.value (.bool true)) w := by
 obtain ⟨dst, op, ty, pos, after, guard⟩ := o
 simp only at ho
 subst ho
 unfold execOp
 simp only [h, h2]
 go_simp
theorem ex_eqKS {ρ : Operand → Value} {x y : Operand} {a b : List UInt8} (h : ρ x = .string (strB a)) (h2 : ρ y = .string (strB b)) (o : Oper) (ho : o.op = .binOp .eql 9 x y 9) (w : World) : (execOp ρ o).run Tryz.prog w = .ok (.value (.bool (a == b))) w := by
 obtain ⟨dst, op, ty, pos, after, guard⟩ := o
 simp only at ho
 subst ho
 unfold execOp
 simp only [h, h2]
 go_simp
 rw [strB_toList, strB_toList]
theorem exec_pickT {P : Program} {ρ : Operand → Value} {c x y : Operand} (v : Value) (hc : ρ c = .bool true) (h : ρ x = v) (o : Oper) (ho : o.op = .pick c x y) (w : World) : (execOp ρ o).run P w = .ok (.value v) w := exec_pick true v hc h o ho w
theorem ex_strK {ρ : Operand → Value} {x : Operand} {v : Value} {B : Nat} {l : List UInt8} {w : World} (h : ρ x = v) (hb : BS w B v l) (o : Oper) (ho : o.op = .convert 26 9 x) (_w : World) : (execOp ρ o).run Tryz.prog w = .ok (.value (.string (strB l))) w := by
 obtain ⟨dst, op, ty, pos, after, guard⟩ := o
 simp only at ho
 subst ho
 unfold execOp
 simp only [h, Sem.run_bind, run_str hb, Result.andThen_ok, Sem.run_pure]
noncomputable def skReg : Code := (Tryz.f4.body.bind (findReg 9)).getD .skip
noncomputable def skOps : Array Oper := match skReg with
 | .region _ ops _ => ops
 | _ => #[]
def skD : List Nat := 8 :: List.range' 50 31
theorem skIs : skReg = .region 9 skOps true := by kernel_rfl
theorem skSize : skOps.size = 32 := by kernel_rfl
def skOrd : List (Nat × Bool × Nat) := [(0, true, 1), (1, true, 3), (2, true, 7), (3, true, 15), (4, true, 31), (5, true, 63), (6, true, 127), (7, true, 255), (8, true, 511), (9, true, 1023), (10, true, 2047), (11, true, 4095), (12, true, 8191), (13, false, 16383), (14, true, 32767), (15, true, 65535), (16, true, 131071), (17, true, 262143), (18, true, 524287), (19, true, 1048575), (20, true, 2097151), (21, true, 4194303), (22, true, 8388607), (23, false, 16777215), (24, true, 33554431), (25, true, 67108863), (26, true, 134217727), (27, true, 268435455), (28, true, 536870911), (29, false, 1073741823), (30, true, 2147483647), (31, true, 4294967295)]
theorem skOwn : okOwn skOps = true := by kernel_rfl
theorem skOk : okSteps skOps 32 skOrd 0 = true := by kernel_rfl
theorem skSel : Region.noSelect skOps = true := by kernel_rfl
theorem skLen : Nat.ble skOrd.length 32 = true := by kernel_rfl
theorem skRun (X Y Z : Array Value) (hX : X.size = 24) (hY : Y.size = 24) (hZ : Z.size = 24) (gs gt gu : Nat) (Aa Ab : Option Addr) (na ka nb kb : Nat) (la lb : List UInt8) (W : World) (hs : W.heap[gs]? = some (.cells X 30)) (ht : W.heap[gt]? = some (.cells Y 30)) (hu : W.heap[gu]? = some (.cells Z 30)) (ha : BS W W.heap.size (.slice Aa na ka) la) (hb : BS W W.heap.size (.slice Ab nb kb) lb) (H1 : ∀ V, Below W.heap.size W V → Calls Tryz.prog 12 #[.agg Z, .agg X] V fun e w' => e = .returned (.bool true) ∧ Below V.heap.size V w') (H2 : ∀ V, Below W.heap.size W V → Calls Tryz.prog 12 #[.agg X, .agg Y] V fun e w' => e = .returned (.bool (la == lb)) ∧ Below V.heap.size V w') (H3 : ∀ V, Below W.heap.size W V → Calls Tryz.prog 11 #[.agg X, .agg Z] V fun e w' => e = .returned (.bool true) ∧ Below V.heap.size V w') (Q : Exit → Act → World → Prop)
  (act : Act) (hst : St 81 skD act act [(9, .pointer (some ⟨gs, 0, none⟩)), (10, .pointer (some ⟨gt, 0, none⟩)), (11, .slice Aa na ka), (12, .int .i64 0), (13, .slice Ab nb kb), (14, .int .i64 0), (15, .pointer (some ⟨gu, 0, none⟩)), (16, .int .i64 0)]) (hQ : ∀ bfr wfin, Agree skD act bfr → Has bfr 8 (.bool true) → Below W.heap.size W wfin → Q .normal bfr wfin) :
  RunH Tryz.prog skOps Q (fun x : World => x.heap[gs]? = some (.cells X 30) ∧ x.heap[gt]? = some (.cells Y 30) ∧ x.heap[gu]? = some (.cells Z 30) ∧ BS x W.heap.size (.slice Aa na ka) la ∧ BS x W.heap.size (.slice Ab nb kb) lb) (skOrd.map fun x => (x.1, x.2.1)) act (W).drew := by
 have HS9 : ∀ x : World, Below W.heap.size W x → (fun x : World => x.heap[gs]? = some (.cells X 30) ∧ x.heap[gt]? = some (.cells Y 30) ∧ x.heap[gu]? = some (.cells Z 30) ∧ BS x W.heap.size (.slice Aa na ka) la ∧ BS x W.heap.size (.slice Ab nb kb) lb) x := fun x hx => ⟨(hx.block _ (lt3 hs)).trans hs, (hx.block _ (lt3 ht)).trans ht, (hx.block _ (lt3 hu)).trans hu, ha.below hx, hb.below hx⟩
 have B0 : Below W.heap.size W W.drew := (Below.refl _ _).drew
 have hSw := HS9 _ B0
 simp only [skOrd, List.map_cons, List.map_nil]
 refine hst.pure 0 50 (.move (.tmp 12)) none (.int .i64 0) (by kernel_rfl) trivial (fun o ho w hw => exec_move _ (hst.eval (by rfl)) o ho _) hSw (by decide) (by decide) fun bt hst => ?_
 refine hst.pure 1 51 (.binOp .eql 3 (.tmp 50) (.const (.int .i64 0)) 3) none (.bool true) (by kernel_rfl) trivial (fun o ho w hw => ex_eqKI (hst.eval (by rfl)) rfl o ho w) hSw (by decide) (by decide) fun bt hst => ?_
 refine hst.pure 2 52 (.move (.tmp 51)) none (.bool true) (by kernel_rfl) trivial (fun o ho w hw => exec_move _ (hst.eval (by rfl)) o ho _) hSw (by decide) (by decide) fun bt hst => ?_
 refine hst.pure 3 53 (.move (.tmp 14)) (some (2, true)) (.int .i64 0) (by kernel_rfl) (hst.asked 2 true 52 (by kernel_rfl) (by rfl)) (fun o ho w hw => exec_move _ (hst.eval (by rfl)) o ho _) hSw (by decide) (by decide) fun bt hst => ?_
 refine hst.pure 4 54 (.binOp .eql 3 (.tmp 53) (.const (.int .i64 0)) 3) (some (2, true)) (.bool true) (by kernel_rfl) (hst.asked 2 true 52 (by kernel_rfl) (by rfl)) (fun o ho w hw => ex_eqKI (hst.eval (by rfl)) rfl o ho w) hSw (by decide) (by decide) fun bt hst => ?_
 refine hst.pure 5 55 (.pick (.tmp 52) (.tmp 54) (.const (.bool false))) none (.bool true) (by kernel_rfl) trivial (fun o ho w hw => exec_pickT _ (hst.eval (by rfl)) (hst.eval (by rfl)) o ho w) hSw (by decide) (by decide) fun bt hst => ?_
 refine hst.pure 6 56 (.move (.tmp 55)) none (.bool true) (by kernel_rfl) trivial (fun o ho w hw => exec_move _ (hst.eval (by rfl)) o ho _) hSw (by decide) (by decide) fun bt hst => ?_
 refine hst.pure 7 57 (.move (.tmp 16)) (some (6, true)) (.int .i64 0) (by kernel_rfl) (hst.asked 6 true 56 (by kernel_rfl) (by rfl)) (fun o ho w hw => exec_move _ (hst.eval (by rfl)) o ho _) hSw (by decide) (by decide) fun bt hst => ?_
 refine hst.pure 8 58 (.binOp .eql 3 (.tmp 57) (.const (.int .i64 0)) 3) (some (6, true)) (.bool true) (by kernel_rfl) (hst.asked 6 true 56 (by kernel_rfl) (by rfl)) (fun o ho w hw => ex_eqKI (hst.eval (by rfl)) rfl o ho w) hSw (by decide) (by decide) fun bt hst => ?_
 refine hst.pure 9 59 (.pick (.tmp 56) (.tmp 58) (.const (.bool false))) none (.bool true) (by kernel_rfl) trivial (fun o ho w hw => exec_pickT _ (hst.eval (by rfl)) (hst.eval (by rfl)) o ho w) hSw (by decide) (by decide) fun bt hst => ?_
 refine hst.pure 10 60 (.move (.tmp 59)) none (.bool true) (by kernel_rfl) trivial (fun o ho w hw => exec_move _ (hst.eval (by rfl)) o ho _) hSw (by decide) (by decide) fun bt hst => ?_
 refine hst.pure 11 61 (.load 30 (.tmp 15)) (some (10, true)) (.agg Z) (by kernel_rfl) (hst.asked 10 true 60 (by kernel_rfl) (by rfl)) (fun o ho w hw => ex_loadS (hst.eval (by rfl)) o ho w hw.2.2.1 hZ) hSw (by decide) (by decide) fun bt hst => ?_
 refine hst.pure 12 62 (.load 30 (.tmp 9)) (some (10, true)) (.agg X) (by kernel_rfl) (hst.asked 10 true 60 (by kernel_rfl) (by rfl)) (fun o ho w hw => ex_loadS (hst.eval (by rfl)) o ho w hw.1 hX) hSw (by decide) (by decide) fun bt hst => ?_
 refine hst.call 13 63 12 #[.tmp 61, .tmp 62] #[30, 30] (some (10, true)) #[.agg Z, .agg X] (by kernel_rfl) (hst.asked 10 true 60 (by kernel_rfl) (by rfl)) (map2 (hst.eval (by rfl)) (hst.eval (by rfl))) (by kernel_rfl) (by decide) (by decide) ?_
 refine (H1 _ B0).mono ?_
 rintro e w1 ⟨rfl, bx1⟩
 have B1 := B0.trans (bx1.mono B0.size)
 refine ⟨_, rfl, HS9 _ B1, fun bt hst => ?_⟩
 have hSw := HS9 _ B1
 refine hst.pure 14 64 (.pick (.tmp 60) (.tmp 63) (.const (.bool false))) none (.bool true) (by kernel_rfl) trivial (fun o ho w hw => exec_pickT _ (hst.eval (by rfl)) (hst.eval (by rfl)) o ho w) hSw (by decide) (by decide) fun bt hst => ?_
 refine hst.pure 15 65 (.move (.tmp 64)) none (.bool true) (by kernel_rfl) trivial (fun o ho w hw => exec_move _ (hst.eval (by rfl)) o ho _) hSw (by decide) (by decide) fun bt hst => ?_
 refine hst.pure 16 66 (.move (.tmp 11)) (some (15, true)) (.slice Aa na ka) (by kernel_rfl) (hst.asked 15 true 65 (by kernel_rfl) (by rfl)) (fun o ho w hw => exec_move _ (hst.eval (by rfl)) o ho _) hSw (by decide) (by decide) fun bt hst => ?_
 refine hst.pure 17 67 (.convert 26 9 (.tmp 66)) (some (15, true)) (.string (strB la)) (by kernel_rfl) (hst.asked 15 true 65 (by kernel_rfl) (by rfl)) (fun o ho w hw => ex_strK (hst.eval (by rfl)) hw.2.2.2.1 o ho w) hSw (by decide) (by decide) fun bt hst => ?_
 refine hst.pure 18 68 (.move (.tmp 13)) (some (15, true)) (.slice Ab nb kb) (by kernel_rfl) (hst.asked 15 true 65 (by kernel_rfl) (by rfl)) (fun o ho w hw => exec_move _ (hst.eval (by rfl)) o ho _) hSw (by decide) (by decide) fun bt hst => ?_
 refine hst.pure 19 69 (.convert 26 9 (.tmp 68)) (some (15, true)) (.string (strB lb)) (by kernel_rfl) (hst.asked 15 true 65 (by kernel_rfl) (by rfl)) (fun o ho w hw => ex_strK (hst.eval (by rfl)) hw.2.2.2.2 o ho w) hSw (by decide) (by decide) fun bt hst => ?_
 refine hst.pure 20 70 (.binOp .eql 9 (.tmp 67) (.tmp 69) 9) (some (15, true)) (.bool (la == lb)) (by kernel_rfl) (hst.asked 15 true 65 (by kernel_rfl) (by rfl)) (fun o ho w hw => ex_eqKS (hst.eval (by rfl)) (hst.eval (by rfl)) o ho w) hSw (by decide) (by decide) fun bt hst => ?_
 refine hst.pure 21 71 (.load 30 (.tmp 9)) (some (15, true)) (.agg X) (by kernel_rfl) (hst.asked 15 true 65 (by kernel_rfl) (by rfl)) (fun o ho w hw => ex_loadS (hst.eval (by rfl)) o ho w hw.1 hX) hSw (by decide) (by decide) fun bt hst => ?_
 refine hst.pure 22 72 (.load 30 (.tmp 10)) (some (15, true)) (.agg Y) (by kernel_rfl) (hst.asked 15 true 65 (by kernel_rfl) (by rfl)) (fun o ho w hw => ex_loadS (hst.eval (by rfl)) o ho w hw.2.1 hY) hSw (by decide) (by decide) fun bt hst => ?_
 refine hst.call 23 73 12 #[.tmp 71, .tmp 72] #[30, 30] (some (15, true)) #[.agg X, .agg Y] (by kernel_rfl) (hst.asked 15 true 65 (by kernel_rfl) (by rfl)) (map2 (hst.eval (by rfl)) (hst.eval (by rfl))) (by kernel_rfl) (by decide) (by decide) ?_
 refine (H2 _ B1).mono ?_
 rintro e w2 ⟨rfl, bx2⟩
 have B2 := B1.trans (bx2.mono B1.size)
 refine ⟨_, rfl, HS9 _ B2, fun bt hst => ?_⟩
 have hSw := HS9 _ B2
 refine hst.pure 24 74 (.binOp .eql 4 (.tmp 70) (.tmp 73) 4) (some (15, true)) (.bool true) (by kernel_rfl) (hst.asked 15 true 65 (by kernel_rfl) (by rfl)) (fun o ho w hw => ex_eqKB (hst.eval (by rfl)) (hst.eval (by rfl)) o ho w) hSw (by decide) (by decide) fun bt hst => ?_
 refine hst.pure 25 75 (.pick (.tmp 65) (.tmp 74) (.const (.bool false))) none (.bool true) (by kernel_rfl) trivial (fun o ho w hw => exec_pickT _ (hst.eval (by rfl)) (hst.eval (by rfl)) o ho w) hSw (by decide) (by decide) fun bt hst => ?_
 refine hst.pure 26 76 (.move (.tmp 75)) none (.bool true) (by kernel_rfl) trivial (fun o ho w hw => exec_move _ (hst.eval (by rfl)) o ho _) hSw (by decide) (by decide) fun bt hst => ?_
 refine hst.pure 27 77 (.load 30 (.tmp 9)) (some (26, true)) (.agg X) (by kernel_rfl) (hst.asked 26 true 76 (by kernel_rfl) (by rfl)) (fun o ho w hw => ex_loadS (hst.eval (by rfl)) o ho w hw.1 hX) hSw (by decide) (by decide) fun bt hst => ?_
 refine hst.pure 28 78 (.load 30 (.tmp 15)) (some (26, true)) (.agg Z) (by kernel_rfl) (hst.asked 26 true 76 (by kernel_rfl) (by rfl)) (fun o ho w hw => ex_loadS (hst.eval (by rfl)) o ho w hw.2.2.1 hZ) hSw (by decide) (by decide) fun bt hst => ?_
 refine hst.call 29 79 11 #[.tmp 77, .tmp 78] #[30, 30] (some (26, true)) #[.agg X, .agg Z] (by kernel_rfl) (hst.asked 26 true 76 (by kernel_rfl) (by rfl)) (map2 (hst.eval (by rfl)) (hst.eval (by rfl))) (by kernel_rfl) (by decide) (by decide) ?_
 refine (H3 _ B2).mono ?_
 rintro e w3 ⟨rfl, bx3⟩
 have B3 := B2.trans (bx3.mono B2.size)
 refine ⟨_, rfl, HS9 _ B3, fun bt hst => ?_⟩
 have hSw := HS9 _ B3
 refine hst.pure 30 80 (.pick (.tmp 76) (.tmp 79) (.const (.bool false))) none (.bool true) (by kernel_rfl) trivial (fun o ho w hw => exec_pickT _ (hst.eval (by rfl)) (hst.eval (by rfl)) o ho w) hSw (by decide) (by decide) fun bt hst => ?_
 refine hst.pure 31 8 (.assign (.tmp 80)) none (.bool true) (by kernel_rfl) trivial (fun o ho w hw => ex_assign _ (hst.eval (by rfl)) o ho _) hSw (by decide) (by decide) fun bt hst => ?_
 exact hQ _ _ hst.agree (hst.holds 8 _ (by rfl)) B3
theorem skAt (X Y Z : Array Value) (hX : X.size = 24) (hY : Y.size = 24) (hZ : Z.size = 24) (gs gt gu : Nat) (Aa Ab : Option Addr) (na ka nb kb : Nat) (la lb : List UInt8) (W : World) (hs : W.heap[gs]? = some (.cells X 30)) (ht : W.heap[gt]? = some (.cells Y 30)) (hu : W.heap[gu]? = some (.cells Z 30)) (ha : BS W W.heap.size (.slice Aa na ka) la) (hb : BS W W.heap.size (.slice Ab nb kb) lb) (H1 : ∀ V, Below W.heap.size W V → Calls Tryz.prog 12 #[.agg Z, .agg X] V fun e w' => e = .returned (.bool true) ∧ Below V.heap.size V w') (H2 : ∀ V, Below W.heap.size W V → Calls Tryz.prog 12 #[.agg X, .agg Y] V fun e w' => e = .returned (.bool (la == lb)) ∧ Below V.heap.size V w') (H3 : ∀ V, Below W.heap.size W V → Calls Tryz.prog 11 #[.agg X, .agg Z] V fun e w' => e = .returned (.bool true) ∧ Below V.heap.size V w') (Q : Exit → Act → World → Prop) {u0 u1 u2 u3 u4 u5 u6 u7 u8 u17 u18 u19 u20 u21 u22 u23 u24 u25 u26 u27 u28 u29 u30 u31 u32 u33 u34 u35 u36 u37 u38 u39 u40 u41 u42 u43 u44 u45 u46 u47 u48 u49 u50 u51 u52 u53 u54 u55 u56 u57 u58 u59 u60 u61 u62 u63 u64 u65 u66 u67 u68 u69 u70 u71 u72 u73 u74 u75 u76 u77 u78 u79 u80 : Value}
  (hQ : ∀ (f : Nat → Value) (wfin : World), Below W.heap.size W wfin → Q .normal ⟨#[u0, u1, u2, u3, u4, u5, u6, u7, .bool true, .pointer (some ⟨gs, 0, none⟩), .pointer (some ⟨gt, 0, none⟩), .slice Aa na ka, .int .i64 0, .slice Ab nb kb, .int .i64 0, .pointer (some ⟨gu, 0, none⟩), .int .i64 0, u17, u18, u19, u20, u21, u22, u23, u24, u25, u26, u27, u28, u29, u30, u31, u32, u33, u34, u35, u36, u37, u38, u39, u40, u41, u42, u43, u44, u45, u46, u47, u48, u49, f 50, f 51, f 52, f 53, f 54, f 55, f 56, f 57, f 58, f 59, f 60, f 61, f 62, f 63, f 64, f 65, f 66, f 67, f 68, f 69, f 70, f 71, f 72, f 73, f 74, f 75, f 76, f 77, f 78, f 79, f 80], []⟩ wfin) :
  Code.wp Tryz.prog skReg Q ⟨#[u0, u1, u2, u3, u4, u5, u6, u7, u8, .pointer (some ⟨gs, 0, none⟩), .pointer (some ⟨gt, 0, none⟩), .slice Aa na ka, .int .i64 0, .slice Ab nb kb, .int .i64 0, .pointer (some ⟨gu, 0, none⟩), .int .i64 0, u17, u18, u19, u20, u21, u22, u23, u24, u25, u26, u27, u28, u29, u30, u31, u32, u33, u34, u35, u36, u37, u38, u39, u40, u41, u42, u43, u44, u45, u46, u47, u48, u49, u50, u51, u52, u53, u54, u55, u56, u57, u58, u59, u60, u61, u62, u63, u64, u65, u66, u67, u68, u69, u70, u71, u72, u73, u74, u75, u76, u77, u78, u79, u80], []⟩ (W) := by
 refine Code.wp_mono NoPanic.imp ?_
 rw [skIs]
 refine region_run (S := (fun x : World => x.heap[gs]? = some (.cells X 30) ∧ x.heap[gt]? = some (.cells Y 30) ∧ x.heap[gu]? = some (.cells Z 30) ∧ BS x W.heap.size (.slice Aa na ka) la ∧ BS x W.heap.size (.slice Ab nb kb) lb)) skOrd (by kernel_rfl) skSel (fun _ _ _ _ _ h => h) skSize skLen skOwn skOk (⟨hs, ht, hu, ha, hb⟩) ?_
 refine skRun X Y Z hX hY hZ gs gt gu Aa Ab na ka nb kb la lb W hs ht hu ha hb H1 H2 H3 _ _ ⟨rfl, Agree.refl, fun j v h => ?_⟩ fun bfr wfin hag hv8 h1 => NoPanic.normal ?_
 ·simp only [List.lookup_cons] at h
  repeat (split at h; · (rename_i e; have e2 := eq_of_beq e; subst e2; injection h with h; subst h; rfl))
  cases h
 ·obtain ⟨f, rfl, hf⟩ := hag.formA 81 rfl
  have e8 : f 8 = .bool true := hf 8 _ hv8
  have := hQ f wfin h1
  rw [← e8] at this
  exact (congrArg (fun l => Q .normal ⟨l, []⟩ wfin) (by kernel_rfl)).mpr this
def KindOk (a : Ac) : Prop := a.kind ≤ 3
theorem printsL_kd (p : List UInt8) (b : UInt8) : ∀ a ∈ printsL (stepL p b).2, KindOk a := by
 intro a ha
 unfold printsL at ha
 rw [List.mem_map] at ha
 obtain ⟨r, hr, rfl⟩ := ha
 show 0 ≤ 3
 omega
theorem one_kd {a : Ac} (h : KindOk a) : ∀ x ∈ [a], KindOk x := fun x hx => by rw [List.mem_singleton.1 hx]; exact h
theorem nil_kd : ∀ x ∈ ([] : List Ac), KindOk x := fun x hx => by cases hx
theorem csiL_kd (p : Pr) (b : UInt8) (h : PrOk p) : ∀ a ∈ (csiL p b).2, KindOk a := by
 unfold csiL
 split
 ·exact one_kd (by show 3 ≤ 3; omega)
 split
 ·split <;> exact nil_kd
 split
 ·exact nil_kd
 split
 ·split <;> exact nil_kd
 split
 ·split <;> exact nil_kd
 ·exact nil_kd
theorem vtM_kd (p : Pr) (b : UInt8) (h : PrOk p) : ∀ a ∈ (vtM p b).2, KindOk a := by
 unfold vtM
 split
 ·split
  ·exact nil_kd
  split
  ·exact nil_kd
  split
  ·exact nil_kd
  ·exact one_kd (by show 2 ≤ 3; omega)
 split
 ·split
  ·exact one_kd (by show 2 ≤ 3; omega)
  split
  ·exact nil_kd
  ·exact nil_kd
 split
 ·split <;> exact nil_kd
 split
 ·split <;> exact nil_kd
 ·exact csiL_kd p b h
theorem vtN_kd (p : Pr) (b : UInt8) (h : PrOk p) : ∀ a ∈ (vtN p b).2, KindOk a := by
 unfold vtN
 split
 ·exact nil_kd
 split
 ·exact nil_kd
 split
 ·split
  ·exact one_kd (by show 1 ≤ 3; omega)
  split
  ·exact nil_kd
  ·exact printsL_kd _ _
 split
 ·split <;> exact nil_kd
 split
 ·exact one_kd (by show 1 ≤ 3; omega)
 split
 ·exact nil_kd
 split
 ·exact nil_kd
 ·exact vtM_kd p b h
theorem vtL_kd (p : Pr) (b : UInt8) (h : PrOk p) : ∀ a ∈ (vtL p b).2, KindOk a := by
 unfold vtL
 split
 ·split
  ·exact printsL_kd _ _
  ·intro a ha
   rcases List.mem_cons.1 ha with h1 | h1
   ·rw [h1]; show 0 ≤ 3; omega
   ·exact vtN_kd _ b (drop_ok p h) a h1
 ·exact vtN_kd p b h
structure ScAt (s : Sc) (r c : Nat) (S : Nat → Prop) (w : World) (Z : Obj) (wr : World) (uc ut uo up ui uu : Value) : Prop where
 inn : ScIn s r c
 bel : Below w.heap.size w wr
 size : w.heap.size + 1 + 1 ≤ wr.heap.size
 kZ : wr.heap[w.heap.size + 1]? = some Z
 kS : wr.heap[w.heap.size]? = some (.cells (vS s uc ut uo up ui uu) 30)
 sl : SSl wr (fun x => S x ∨ (w.heap.size + 1 < x ∧ x < wr.heap.size)) s uc ut uo up ui uu
def FeedRel (s : Sc) (b : List UInt8) (r c : Nat) (S : Nat → Prop) (w : World) (Z : Obj) (i : Value) (wr : World) : Prop :=
 ∃ j : Nat, j ≤ b.length ∧ i = .int .i64 (j : Int) ∧ ∃ uc ut uo up ui uu, ScAt (feedS s (b.take j)) r c S w Z wr uc ut uo up ui uu
def ActsRel (s : Sc) (l : List Ac) (r c : Nat) (S : Nat → Prop) (w : World) (Z : Obj) (w7 : World) (i : Value) (wr : World) : Prop :=
 ∃ j : Nat, j ≤ l.length ∧ i = .int .i64 (j : Int) ∧ w7.heap.size ≤ wr.heap.size ∧ (∀ x, x ≠ w.heap.size → x < w7.heap.size → wr.heap[x]? = w7.heap[x]?) ∧ ∃ uc ut uo up ui uu, ScAt ((l.take j).foldl doS s) r c S w Z wr uc ut uo up ui uu
theorem feed_on (s : Sc) (b : List UInt8) (j : Nat) (h : j < b.length) : feedS s (b.take (j + 1)) = stepS (feedS s (b.take j)) b[j] := by
 unfold feedS
 rw [List.take_succ_eq_append_getElem h, List.foldl_append]
 rfl
theorem acts_on (s : Sc) (l : List Ac) (j : Nat) (a : Ac) (h : l[j]? = some a) : (l.take (j + 1)).foldl doS s = doS ((l.take j).foldl doS s) a := by
 rw [List.take_add_one, h, List.foldl_append]
 rfl
theorem row_parser {w : World} {g : Nat} {s : Sc} {p : Pr} {uc ut uo up ui uu xp xi xu : Value} (h : w.heap[g]? = some (.cells (vS s uc ut uo up ui uu) 30)) :
  (((((w.setCell ⟨g, 19, none⟩ (.int .i64 (p.mode : Int))).setCell ⟨g, 20, none⟩ (.int .u8 (p.priv : Int))).setCell ⟨g, 21, none⟩ xp).setCell ⟨g, 22, none⟩ xi).setCell ⟨g, 23, none⟩ xu).heap[g]? = some (.cells (vS { s with p := p } uc ut uo xp xi xu) 30) := by
 rw [heap_setCell_same _ g 23 _ _ _ (heap_setCell_same _ g 22 _ _ _ (heap_setCell_same _ g 21 _ _ _ (heap_setCell_same _ g 20 _ _ _ (heap_setCell_same _ g 19 _ _ _ h))))]
 rfl
theorem parser_blk {w5 w6 : World} {o : Obj} (b6 : Below (w5.alloc o).drew.heap.size (w5.alloc o).drew w6) : w6.heap[w5.heap.size]? = some o := by
 have e : (w5.alloc o).drew.heap[w5.heap.size]? = some o := by
  show (w5.heap.push o)[w5.heap.size]? = some o
  simp
 refine (b6.block _ ?_).trans e
 show w5.heap.size < (w5.heap.push o).size
 simp
theorem parser_cells {w : World} {g : Nat} {x0 x1 x2 x3 x4 : Value} {t : TypeId} (h : w.heap[g]? = some (.cells #[x0, x1, x2, x3, x4] t)) : w.cell? ⟨g, 0, none⟩ = some x0 ∧ w.cell? ⟨g, 1, none⟩ = some x1 ∧ w.cell? ⟨g, 2, none⟩ = some x2 ∧ w.cell? ⟨g, 3, none⟩ = some x3 ∧ w.cell? ⟨g, 4, none⟩ = some x4 :=
 ⟨(cellR h 0 rfl).1, (cellR h 1 rfl).1, (cellR h 2 rfl).1, (cellR h 3 rfl).1, (cellR h 4 rfl).1⟩
theorem parser_frz {w : World} {g : Nat} {x0 x1 x2 x3 x4 : Value} {t : TypeId} (h : w.heap[g]? = some (.cells #[x0, x1, x2, x3, x4] t)) : w.frozen? ⟨g, 0, none⟩ = false ∧ w.frozen? ⟨g, 1, none⟩ = false ∧ w.frozen? ⟨g, 2, none⟩ = false ∧ w.frozen? ⟨g, 3, none⟩ = false ∧ w.frozen? ⟨g, 4, none⟩ = false :=
 ⟨(cellR h 0 rfl).2, (cellR h 1 rfl).2, (cellR h 2 rfl).2, (cellR h 3 rfl).2, (cellR h 4 rfl).2⟩
def StepAt (q : Pr) (acts : List Ac) (S : Nat → Prop) (w w5 : World) (s6 s7 : Value) (wx : World) : Prop :=
 ∃ pb xp xi xu, s6 = .pointer (some ⟨pb, 0, none⟩) ∧ w.heap.size + 1 < pb ∧ pb < wx.heap.size ∧ Below w5.heap.size w5 wx ∧ wx.heap[pb]? = some (.cells #[.int .i64 (q.mode : Int), .int .u8 (q.priv : Int), xp, xi, xu] 28) ∧
  SL vI wx (fun x => S x ∨ (w.heap.size + 1 < x ∧ x < wx.heap.size)) xp q.params ∧ SL vB wx (fun x => S x ∨ (w.heap.size + 1 < x ∧ x < wx.heap.size)) xi q.inter ∧ SL vB wx (fun x => S x ∨ (w.heap.size + 1 < x ∧ x < wx.heap.size)) xu q.utf ∧
  AS wx (fun x => w.heap.size + 1 < x ∧ x < wx.heap.size) (fun x => S x ∨ (w.heap.size + 1 < x ∧ x < wx.heap.size)) s7 acts
section
variable {q : Pr} {acts : List Ac} {S : Nat → Prop} {w w5 W w6 : World} {xp xi xu av : Value}
theorem stepA (hS : ∀ x, S x → x < w.heap.size) (hsz : w.heap.size + 1 + 1 ≤ w5.heap.size) (hW : Below w5.heap.size w5 W) (b6 : Below W.heap.size W w6)
  (r1 : SL vI w6 (fun x => (S x ∨ (w.heap.size + 1 < x ∧ x < w5.heap.size)) ∨ NewB w6 W.heap.size x) xp q.params) (r2 : SL vB w6 (fun x => (S x ∨ (w.heap.size + 1 < x ∧ x < w5.heap.size)) ∨ NewB w6 W.heap.size x) xi q.inter) (r3 : SL vB w6 (fun x => (S x ∨ (w.heap.size + 1 < x ∧ x < w5.heap.size)) ∨ NewB w6 W.heap.size x) xu q.utf)
  (ha : AS w6 (NewB w6 W.heap.size) (fun x => (S x ∨ (w.heap.size + 1 < x ∧ x < w5.heap.size)) ∨ NewB w6 W.heap.size x) av acts) :
  StepAt q acts S w w5 (.pointer (some ⟨w6.heap.size, 0, none⟩)) av (w6.alloc (.cells #[.int .i64 (q.mode : Int), .int .u8 (q.priv : Int), xp, xi, xu] 28)) := by
 have z1 : w5.heap.size ≤ W.heap.size := hW.size
 have z2 : W.heap.size ≤ w6.heap.size := b6.size
 have z3 : (w6.alloc (.cells #[.int .i64 (q.mode : Int), .int .u8 (q.priv : Int), xp, xi, xu] 28)).heap.size = w6.heap.size + 1 := by simp
 have hm : ∀ x, ((S x ∨ (w.heap.size + 1 < x ∧ x < w5.heap.size)) ∨ NewB w6 W.heap.size x) → (S x ∨ (w.heap.size + 1 < x ∧ x < (w6.alloc (.cells #[.int .i64 (q.mode : Int), .int .u8 (q.priv : Int), xp, xi, xu] 28)).heap.size)) := by
  intro x hx
  rw [z3]
  rcases hx with (h | h) | h
  ·exact .inl h
  ·exact .inr ⟨h.1, by omega⟩
  ·have h1 : W.heap.size ≤ x := h.1
   have h2 : x < w6.heap.size := h.2
   exact .inr ⟨by omega, by omega⟩
 have hlt : ∀ x, ((S x ∨ (w.heap.size + 1 < x ∧ x < w5.heap.size)) ∨ NewB w6 W.heap.size x) → x < w6.heap.size := by
  intro x hx
  rcases hx with (h | h) | h
  ·have := hS x h; omega
  ·omega
  ·exact h.2
 have hk : ∀ p : Addr, ((S p.block ∨ (w.heap.size + 1 < p.block ∧ p.block < w5.heap.size)) ∨ NewB w6 W.heap.size p.block) → (w6.alloc (.cells #[.int .i64 (q.mode : Int), .int .u8 (q.priv : Int), xp, xi, xu] 28)).cell? p = w6.cell? p := fun p hp => World.cell?_alloc_lt w6 _ p (hlt _ hp)
 refine ⟨_, xp, xi, xu, rfl, by omega, by rw [z3]; omega, (hW.trans (b6.mono z1)).alloc (by omega) _, ?_, (r1.keep hk).mono hm, (r2.keep hk).mono hm, (r3.keep hk).mono hm, (ha.keep (fun p hp => World.cell?_alloc_lt w6 _ p hp.2) hk).mono (fun x hx => ?_) hm⟩
 ·show (w6.heap.push _)[w6.heap.size]? = _
  simp
 ·have h1 : W.heap.size ≤ x := hx.1
  have h2 : x < w6.heap.size := hx.2
  rw [z3]
  exact ⟨by omega, by omega⟩
theorem row_five {w : World} {g : Nat} {x0 x1 x2 x3 x4 y0 y1 y2 y3 y4 : Value} {t : TypeId} (h : w.heap[g]? = some (.cells #[x0, x1, x2, x3, x4] t)) :
  (((((w.setCell ⟨g, 0, none⟩ y0).setCell ⟨g, 1, none⟩ y1).setCell ⟨g, 2, none⟩ y2).setCell ⟨g, 3, none⟩ y3).setCell ⟨g, 4, none⟩ y4).heap[g]? = some (.cells #[y0, y1, y2, y3, y4] t) := by
 rw [heap_setCell_same _ g 4 _ _ _ (heap_setCell_same _ g 3 _ _ _ (heap_setCell_same _ g 2 _ _ _ (heap_setCell_same _ g 1 _ _ _ (heap_setCell_same _ g 0 _ _ _ h))))]
 rfl
theorem stepB {Z : Obj} {x0 x1 x2 x3 x4 : Value} (hS : ∀ x, S x → x < w.heap.size) (hsz : w.heap.size + 1 + 1 ≤ w5.heap.size) (hz : Z = .cells #[x0, x1, x2, x3, x4] 28) (b6 : Below (w5.alloc Z).drew.heap.size (w5.alloc Z).drew w6)
  (r1 : SL vI w6 (fun x => (S x ∨ (w.heap.size + 1 < x ∧ x < w5.heap.size)) ∨ NewB w6 (w5.alloc Z).drew.heap.size x) xp q.params) (r2 : SL vB w6 (fun x => (S x ∨ (w.heap.size + 1 < x ∧ x < w5.heap.size)) ∨ NewB w6 (w5.alloc Z).drew.heap.size x) xi q.inter) (r3 : SL vB w6 (fun x => (S x ∨ (w.heap.size + 1 < x ∧ x < w5.heap.size)) ∨ NewB w6 (w5.alloc Z).drew.heap.size x) xu q.utf)
  (ha : AS w6 (NewB w6 (w5.alloc Z).drew.heap.size) (fun x => (S x ∨ (w.heap.size + 1 < x ∧ x < w5.heap.size)) ∨ NewB w6 (w5.alloc Z).drew.heap.size x) av acts) :
  StepAt q acts S w w5 (.pointer (some ⟨w5.heap.size, 0, none⟩)) av (((((w6.setCell ⟨w5.heap.size, 0, none⟩ (.int .i64 (q.mode : Int))).setCell ⟨w5.heap.size, 1, none⟩ (.int .u8 (q.priv : Int))).setCell ⟨w5.heap.size, 2, none⟩ xp).setCell ⟨w5.heap.size, 3, none⟩ xi).setCell ⟨w5.heap.size, 4, none⟩ xu) := by
 have hblk := parser_blk b6
 subst hz
 have z0 : (w5.alloc (.cells #[x0, x1, x2, x3, x4] 28)).drew.heap.size = w5.heap.size + 1 := by
  show (w5.heap.push _).size = _
  simp
 rw [z0] at b6 r1 r2 r3 ha
 have z2 : w5.heap.size + 1 ≤ w6.heap.size := by have := b6.size; rw [z0] at this; exact this
 obtain ⟨W7, hW7⟩ : ∃ W7, W7 = ((((w6.setCell ⟨w5.heap.size, 0, none⟩ (.int .i64 (q.mode : Int))).setCell ⟨w5.heap.size, 1, none⟩ (.int .u8 (q.priv : Int))).setCell ⟨w5.heap.size, 2, none⟩ xp).setCell ⟨w5.heap.size, 3, none⟩ xi).setCell ⟨w5.heap.size, 4, none⟩ xu := ⟨_, rfl⟩
 have hrow := row_five (y0 := .int .i64 (q.mode : Int)) (y1 := .int .u8 (q.priv : Int)) (y2 := xp) (y3 := xi) (y4 := xu) hblk
 rw [← hW7] at hrow ⊢
 have z3 : W7.heap.size = w6.heap.size := by rw [hW7]; simp [World.setCell]
 have ho : ∀ b, b ≠ w5.heap.size → W7.heap[b]? = w6.heap[b]? := fun b hb => by
  rw [hW7, Below.heap_setCell _ _ _ _ hb, Below.heap_setCell _ _ _ _ hb, Below.heap_setCell _ _ _ _ hb, Below.heap_setCell _ _ _ _ hb, Below.heap_setCell _ _ _ _ hb]
 have hbel : Below w5.heap.size w5 W7 := by
  have h0 : Below w5.heap.size w5 w6 := (((Below.refl _ _).alloc (Nat.le_refl _) _).drew).trans (b6.mono (Nat.le_succ _))
  rw [hW7]
  exact ((((h0.setCell (p := ⟨w5.heap.size, 0, none⟩) (Nat.le_refl _) _).setCell (p := ⟨w5.heap.size, 1, none⟩) (Nat.le_refl _) _).setCell (p := ⟨w5.heap.size, 2, none⟩) (Nat.le_refl _) _).setCell (p := ⟨w5.heap.size, 3, none⟩) (Nat.le_refl _) _).setCell (p := ⟨w5.heap.size, 4, none⟩) (Nat.le_refl _) _
 have hne : ∀ x, ((S x ∨ (w.heap.size + 1 < x ∧ x < w5.heap.size)) ∨ NewB w6 (w5.heap.size + 1) x) → x ≠ w5.heap.size := by
  intro x hx
  rcases hx with (h | h) | h
  ·have := hS x h; omega
  ·omega
  ·have h1 : w5.heap.size + 1 ≤ x := h.1; omega
 have hm : ∀ x, ((S x ∨ (w.heap.size + 1 < x ∧ x < w5.heap.size)) ∨ NewB w6 (w5.heap.size + 1) x) → (S x ∨ (w.heap.size + 1 < x ∧ x < W7.heap.size)) := by
  intro x hx
  rw [z3]
  rcases hx with (h | h) | h
  ·exact .inl h
  ·exact .inr ⟨h.1, by omega⟩
  ·have h1 : w5.heap.size + 1 ≤ x := h.1
   have h2 : x < w6.heap.size := h.2
   exact .inr ⟨by omega, by omega⟩
 have hk : ∀ p : Addr, ((S p.block ∨ (w.heap.size + 1 < p.block ∧ p.block < w5.heap.size)) ∨ NewB w6 (w5.heap.size + 1) p.block) → W7.cell? p = w6.cell? p := fun p hp => World.cell?_of_block (ho _ (hne _ hp))
 refine ⟨_, xp, xi, xu, rfl, by omega, by rw [z3]; omega, hbel, hrow, (r1.keep hk).mono hm, (r2.keep hk).mono hm, (r3.keep hk).mono hm, (ha.keep (fun p hp => World.cell?_of_block (ho _ (by have h1 : w5.heap.size + 1 ≤ p.block := hp.1; omega))) hk).mono (fun x hx => ?_) hm⟩
 have h1 : w5.heap.size + 1 ≤ x := hx.1
 have h2 : x < w6.heap.size := hx.2
 rw [z3]
 exact ⟨by omega, by omega⟩
end
theorem ScAt.on {s : Sc} {r c : Nat} {S : Nat → Prop} {w w5 wc : World} {Z : Obj} {uc ut uo up ui uu : Value} (h : ScAt s r c S w Z w5 uc ut uo up ui uu) (hS : ∀ x, S x → x < w.heap.size) (hb : Below w5.heap.size w5 wc) : ScAt s r c S w Z wc uc ut uo up ui uu := by
 have z := hb.size
 have z5 := h.size
 refine ⟨h.inn, h.bel.trans (hb.mono (by omega)), by omega, (hb.block _ (by omega)).trans h.kZ, (hb.block _ (by omega)).trans h.kS, (h.sl.keep (fun q hq => hb.cell ?_)).mono (fun x hx => ?_)⟩
 ·rcases hq with hq | hq
  ·have := hS _ hq; omega
  ·exact hq.2
 ·rcases hx with hx | hx
  ·exact .inl hx
  ·exact .inr ⟨hx.1, by omega⟩
theorem feedr_any (v bv : Value) (s : Sc) (b : List UInt8) (r c : Nat) (S : Nat → Prop) (w : World) (hS : ∀ x, S x → x < w.heap.size) (h : SCV w S v s) (hi : ScIn s r c) (hb : BS w w.heap.size bv b) (hbl : b.length ≤ 1099511627776) : Calls Tryz.prog 16 #[v, bv] w (ScPost S (feedS s b) w) := by
 have HSS := Lh hS
 clear hS
 obtain ⟨vc, vt, vo, vp, vi, vu, rfl, hs⟩ := h
 have HS := Lh hs
 obtain ⟨A1, kk1, A2, k2, A3, k3, A4, k4, A5, k5, A6, k6, rfl, rfl, rfl, rfl, rfl, rfl, p1, q1, p2, q2, p3, q3, p4, q4, p5, q5, p6, q6⟩ := sslSix hs
 have HI := Lh hi
 have HB := Lh hb
 obtain ⟨Ab, kb, rfl, pb1, pb2, -⟩ := hb.at_
 unfold maxLen at pb2
 have H2 := Lh (fun x y => two_new w x y)
 clear hi hb
 go_enter Tryz.func16, Tryz.ntmps16
 go_wp2
 go_loopw [5] (fun i wr => FeedRel s b r c S w (.cells zQ 30) i wr) (fun i _ => b.length - (intOf i).toNat)
 case atStart => exact ⟨0, Nat.zero_le _, rfl, _, _, _, _, _, _, HI.out, (H2.out _ _).1, by rw [(H2.out _ _).2]; exact Nat.le_refl _, heap_a2 w _ _, heap_a1 w _ _, (HS.out.below HSS.out (H2.out _ _).1).mono (fun x hx => .inl hx)⟩
 case round =>
  generalize wr = w5 at *
  obtain ⟨j, hj, rfl, uc, ut, uo, up, ui, uu, hat⟩ := hrel
  by_cases hlt : j < b.length
  ·have HON := Lh (feed_on s b j hlt)
   generalize hsj : feedS s (b.take j) = sj at *
   have HAT := Lh hat
   obtain ⟨c19, f19⟩ := cellR (w := w5.drew) (v := .int .i64 (sj.p.mode : Int)) hat.kS 19 rfl
   obtain ⟨c20, f20⟩ := cellR (w := w5.drew) (v := .int .u8 (sj.p.priv : Int)) hat.kS 20 rfl
   obtain ⟨c21, f21⟩ := cellR (w := w5.drew) (v := up) hat.kS 21 rfl
   obtain ⟨c22, f22⟩ := cellR (w := w5.drew) (v := ui) hat.kS 22 rfl
   obtain ⟨c23, f23⟩ := cellR (w := w5.drew) (v := uu) hat.kS 23 rfl
   obtain ⟨ad, rfl, hc⟩ := (HB.out.below hat.bel).cellC j hlt
   have hc' : w5.drew.cell? (ad.add j) = _ := hc
   have hsz5 := hat.size
   have hgl : w.heap.size < w5.heap.size := by omega
   have hadb : (ad.add j).block < w5.heap.size := by
    rw [block_add]
    have := (HB.out.below hat.bel).blockC (by omega)
    omega
   unfold vB at hc hc'
   obtain ⟨-, -, -, sp, si, su⟩ := hat.sl
   have hSx : ∀ x, (S x ∨ (w.heap.size + 1 < x ∧ x < w5.heap.size)) → x < w5.drew.heap.size := fun x hx => hx.elim (fun h => by show x < w5.heap.size; have := HSS.out x h; have := hat.size; omega) (fun h => h.2)
   have hstep : ∀ W : World, Below w5.heap.size w5 W → Calls Tryz.prog 41 #[.agg #[.int .i64 (sj.p.mode : Int), .int .u8 (sj.p.priv : Int), up, ui, uu], .int .u8 ((b[j]).toNat : Int)] W (VtPost (fun x => S x ∨ (w.heap.size + 1 < x ∧ x < w5.heap.size)) (vtL sj.p b[j]) W) := by
    intro W hW
    have hk : ∀ q : Addr, (S q.block ∨ (w.heap.size + 1 < q.block ∧ q.block < w5.heap.size)) → W.cell? q = w5.cell? q := fun q hq => hW.cell (hSx _ hq)
    exact vtr_any up ui uu sj.p b[j] (fun x => S x ∨ (w.heap.size + 1 < x ∧ x < w5.heap.size)) W (sp.keep hk) (si.keep hk) (su.keep hk) (fun x hx => Nat.lt_of_lt_of_le (hSx x hx) hW.size) hat.inn.p
   have HST := Lh hstep
   have hB0 : Below w5.heap.size w5 w5.drew := (Below.refl _ _).drew
   have hB1 : ∀ o, Below w5.heap.size w5 (w5.alloc o).drew := fun o => ((Below.refl _ _).alloc (Nat.le_refl _) o).drew
   obtain ⟨d19, -⟩ := cellR (w := w5) (v := .int .i64 (sj.p.mode : Int)) hat.kS 19 rfl
   obtain ⟨d20, -⟩ := cellR (w := w5) (v := .int .u8 (sj.p.priv : Int)) hat.kS 20 rfl
   obtain ⟨d21, -⟩ := cellR (w := w5) (v := up) hat.kS 21 rfl
   obtain ⟨d22, -⟩ := cellR (w := w5) (v := ui) hat.kS 22 rfl
   obtain ⟨d23, -⟩ := cellR (w := w5) (v := uu) hat.kS 23 rfl
   clear hat sp si su hstep f19 f20 f21 f22 f23
   go_upto_region 4 with fail
   go_cut [6, 7] from 9 to 38 (fun s6 s7 wx => StepAt (vtL sj.p b[j]).1 (vtL sj.p b[j]).2 S w w5 s6 s7 wx)
   case first =>
    go_region_with (go_at_call 41; refine (HST.out _ (by first | exact hB0 | exact hB1 _)).mono ?_; rintro e w6 ⟨qv, av, rfl, hq, ha, b6⟩; obtain ⟨xp, xi, xu, rfl, r1, r2, r3⟩ := hq; obtain ⟨Ap, cp, rfl, s1, s2⟩ := r1.form; obtain ⟨Ai, ci, rfl, s3, s4⟩ := r2.form; obtain ⟨Au, cu, rfl, s5, s6⟩ := r3.form; obtain ⟨Aa, ca, rfl, s7, s8⟩ := ha.form; (first | (have kp := parser_blk b6; obtain ⟨kc0, kc1, kc2, kc3, kc4⟩ := parser_cells kp; obtain ⟨kf0, kf1, kf2, kf3, kf4⟩ := parser_frz kp) | skip))
    all_goals (go_simp; go_wp2_with fail; go_meet)
    all_goals first
     | (have hkc := kc0; clear hkc; exact stepB HSS.out hsz5 rfl b6 r1 r2 r3 ha)
     | exact stepA HSS.out hsz5 hB0 b6 r1 r2 r3 ha
   case rest =>
    obtain ⟨pb, xp, xi, xu, rfl, hpb1, hpb2, hbc, kp, t1, t2, t3, has⟩ := hcut
    obtain ⟨Aa, ca, rfl, s7, s8⟩ := has.form
    obtain ⟨Bp, cp, rfl, m1, m2⟩ := t1.form
    obtain ⟨Bi, ci, rfl, m3, m4⟩ := t2.form
    obtain ⟨Bu, cu, rfl, m5, m6⟩ := t3.form
    have HATC := Lh (HAT.out.on HSS.out hbc)
    obtain ⟨acts, hacts⟩ : ∃ l, (vtL sj.p b[j]).2 = l := ⟨_, rfl⟩
    obtain ⟨qp, hqp⟩ : ∃ l, (vtL sj.p b[j]).1 = l := ⟨_, rfl⟩
    have HOK := Lh (vtL_acts sj.p b[j] HAT.out.inn.p)
    have HKD := Lh (vtL_kd sj.p b[j] HAT.out.inn.p)
    have HPO := Lh (vtL_ok sj.p b[j] HAT.out.inn.p)
    have HSTE := Lh (show stepS sj b[j] = { acts.foldl doS sj with p := qp } by unfold stepS; rw [hacts, hqp])
    rw [hacts] at has s7 HOK HKD
    rw [hqp] at kp t1 t2 t3 HPO m1 m3 m5
    rw [hacts]
    have HAS := Lh has
    have KP := Lh kp
    have HT1 := Lh t1
    have HT2 := Lh t2
    have HT3 := Lh t3
    clear has kp t1 t2 t3 hbc hacts hqp c19 c20 c21 c22 c23 d19 d20 d21 d22 d23 hc hc' hadb hB0 hB1 HST
    go_wp2
    go_loopw [8] (fun kv wr => ActsRel sj acts r c S w (.cells zQ 30) wc kv wr) (fun kv _ => acts.length - (intOf kv).toNat)
    case atStart => exact ⟨0, Nat.zero_le _, rfl, Nat.le_refl _, fun _ _ _ => rfl, uc, ut, uo, up, ui, uu, HATC.out⟩
    case round =>
     obtain ⟨k, hk, rfl, hz7, hfr, yc, yt, yo, yp, yi, yu, hat⟩ := hrel
     have HFR := Lh hfr
     have HAT2 := Lh hat
     have hsz9 := hat.size
     clear hfr hat
     by_cases hlk : k < acts.length
     ·obtain ⟨a, ha⟩ : ∃ a, acts[k]? = some a := ⟨_, List.getElem?_eq_getElem hlk⟩
      have hmem : a ∈ acts := List.mem_of_getElem? ha
      have HAO := Lh (HOK.out a hmem)
      have hko : a.kind ≤ 3 := HKD.out a hmem
      have HKO := Lh hko
      clear hko
      have HON2 := Lh (acts_on sj acts k a ha)
      have hasr := HAS.out.keep (w' := wr.drew) (fun q hq => World.cell?_of_block (w := wc) (w' := wr.drew) (HFR.out _ (by omega) hq.2)) (fun q hq => by
       rcases hq with hq | hq
       ·have := HSS.out _ hq
        exact World.cell?_of_block (w := wc) (w' := wr.drew) (HFR.out _ (by omega) (by omega))
       ·exact World.cell?_of_block (w := wc) (w' := wr.drew) (HFR.out _ (by omega) hq.2))
      obtain ⟨ad2, vp2, vi2, hAd, hTb, l1, l2, s0, s1, s2, s3, s4, s5⟩ := hasr.get k a ha
      subst hAd
      obtain ⟨sk, hsk⟩ : ∃ x, (acts.take k).foldl doS sj = x := ⟨_, rfl⟩
      rw [hsk] at HAT2 HON2
      clear hsk
      have HVd := Lh (show SCV wr.drew (fun x => S x ∨ (w.heap.size + 1 < x ∧ x < wr.heap.size)) (.agg (vS sk yc yt yo yp yi yu)) sk from ⟨_, _, _, _, _, _, rfl, HAT2.out.sl⟩)
      have HSd : Hid (∀ x, (S x ∨ (w.heap.size + 1 < x ∧ x < wr.heap.size)) → x < wr.drew.heap.size) := fun x hx => hx.elim (fun h => by show x < wr.heap.size; have := HSS.out x h; omega) (fun h => h.2)
      have HTd : Hid (∀ x, (S x ∨ (w.heap.size + 1 < x ∧ x < wc.heap.size)) → x < wr.drew.heap.size) := fun x hx => hx.elim (fun h => by show x < wr.heap.size; have := HSS.out x h; omega) (fun h => by show x < wr.heap.size; omega)
      have HL1 := Lh l1
      have HL2 := Lh l2
      have KS := Lh (show wr.drew.heap[w.heap.size]? = some (.cells (vS sk yc yt yo yp yi yu) 30) from HAT2.out.kS)
      have hTb2 : (ad2.add (k * 6)).block < wr.heap.size := by omega
      clear ha hmem hasr l1 l2 hTb
      go_wp2_with fail
      refine wp_region_still_tail 5 (by kernel_rfl) (by kernel_rfl) ?_
      simp only [List.take_succ_cons, List.take_zero, List.drop_succ_cons, List.drop_zero]
      refine wpStill_loadS rfl (.tmp 2) rfl rfl KS.out rfl ?_
      repeat still_step
      try refine wpStill_nil ?_
      go_wp2_with fail
      ((with_reducible refine (dor_any _ vp2 vi2 sk a r c (fun x => S x ∨ (w.heap.size + 1 < x ∧ x < wr.heap.size)) (fun x => S x ∨ (w.heap.size + 1 < x ∧ x < wc.heap.size)) _ HSd.out HTd.out HVd.out HAT2.out.inn HL1.out HL2.out HAO.out HKO.out).mono ?_); rintro e w8 ⟨v8, rfl, hv8, b8⟩)
      have z8 : wr.heap.size ≤ w8.heap.size := b8.size
      have k8 : w8.heap[w.heap.size]? = _ := (b8.block _ (by show w.heap.size < wr.heap.size; omega)).trans KS.out
      have k81 : w8.heap[w.heap.size + 1]? = _ := (b8.block _ (by show w.heap.size + 1 < wr.heap.size; omega)).trans HAT2.out.kZ
      obtain ⟨zc, zt, zo, zp, zi, zu, rfl, hs8⟩ := hv8
      rename_i K hK
      refine hK _ _ ?_
      clear hK
      refine wpl_storeS rfl (.tmp 2) (.tmp 36) rfl rfl rfl k8 rfl rfl hs8.one ?_
      obtain ⟨W9, hW9⟩ : ∃ W9, W9 = w8.setRow w.heap.size (vS (doS sk a) zc zt zo zp zi zu) := ⟨_, rfl⟩
      rw [← hW9]
      have k9 : W9.heap[w.heap.size]? = some (.cells (vS (doS sk a) zc zt zo zp zi zu) 30) := by rw [hW9]; exact heap_setRow_same k8
      have o9 : ∀ b, b ≠ w.heap.size → W9.heap[b]? = w8.heap[b]? := fun b hb => by rw [hW9]; exact heap_setRow_other (fun e => hb e.symm)
      have z9 : W9.heap.size = w8.heap.size := by rw [hW9, size_setRow]
      have b9 : Below w.heap.size w W9 := by rw [hW9]; exact below_setRow (HAT2.out.bel.drew.trans (b8.mono (by show w.heap.size ≤ wr.heap.size; omega))) (Nat.le_refl _) _
      have hs9 : SSl W9 (fun x => S x ∨ (w.heap.size + 1 < x ∧ x < W9.heap.size)) (doS sk a) zc zt zo zp zi zu := (hs8.keep (fun q hq => World.cell?_of_block (o9 _ (by
       rcases hq with (h | h) | h
       ·have := HSS.out _ h; omega
       ·omega
       ·have h1 : wr.heap.size ≤ q.block := h.1; omega)))).mono (fun x hx => by
       rcases hx with (h | h) | h
       ·exact .inl h
       ·exact .inr ⟨h.1, by rw [z9]; omega⟩
       ·have h1 : wr.heap.size ≤ x := h.1
        exact .inr ⟨by omega, by rw [z9]; exact h.2⟩)
      have f9 : ∀ x, x ≠ w.heap.size → x < wc.heap.size → W9.heap[x]? = wc.heap[x]? := fun x hx hl => (o9 x hx).trans ((b8.block x (by show x < wr.heap.size; omega)).trans (HFR.out x hx hl))
      have R9 : Hid (ActsRel sj acts r c S w (.cells zQ 30) wc (.int .i64 ((k + 1 : Nat) : Int)) W9) :=
       ⟨k + 1, hlk, rfl, by rw [z9]; omega, f9, zc, zt, zo, zp, zi, zu, by rw [HON2.out]; exact ⟨doS_in HAT2.out.inn a HAO.out, b9, by rw [z9]; omega, (o9 _ (by omega)).trans k81, k9, hs9⟩⟩
      clear k9 o9 z9 b9 hs9 hs8 k8 k81 hW9 b8 f9 s0 s1 s2 s3 s4 s5 z8
      go_simp
      go_wp2
      go_roundw
      case rel =>
       have h := R9.out
       rw [show ((k + 1 : Nat) : Int) = (k : Int) + 1 by omega] at h
       exact h
      case measure => simp [intOf]; omega
     ·obtain rfl : k = acts.length := by omega
      have kpr : wr.heap[pb]? = _ := (HFR.out pb (by omega) hpb2).trans KP.out
      obtain ⟨kc0, kc1, kc2, kc3, kc4⟩ := parser_cells kpr
      obtain ⟨e19, g19⟩ := cellR (w := wr) HAT2.out.kS 19 rfl
      obtain ⟨e20, g20⟩ := cellR (w := wr) HAT2.out.kS 20 rfl
      obtain ⟨e21, g21⟩ := cellR (w := wr) HAT2.out.kS 21 rfl
      obtain ⟨e22, g22⟩ := cellR (w := wr) HAT2.out.kS 22 rfl
      obtain ⟨e23, g23⟩ := cellR (w := wr) HAT2.out.kS 23 rfl
      rw [List.take_of_length_le (Nat.le_refl _)] at HAT2
      clear kpr
      go_wp2
      go_roundw
      case rel =>
       obtain ⟨W9, hW9⟩ : ∃ W9, W9 = ((((wr.setCell ⟨w.heap.size, 19, none⟩ (.int .i64 (qp.mode : Int))).setCell ⟨w.heap.size, 20, none⟩ (.int .u8 (qp.priv : Int))).setCell ⟨w.heap.size, 21, none⟩ (.slice Bp qp.params.length cp)).setCell ⟨w.heap.size, 22, none⟩ (.slice Bi qp.inter.length ci)).setCell ⟨w.heap.size, 23, none⟩ (.slice Bu qp.utf.length cu) := ⟨_, rfl⟩
       have hrow := row_parser (p := qp) (xp := .slice Bp qp.params.length cp) (xi := .slice Bi qp.inter.length ci) (xu := .slice Bu qp.utf.length cu) HAT2.out.kS
       rw [← hW9] at hrow ⊢
       have z9 : W9.heap.size = wr.heap.size := by rw [hW9]; simp [World.setCell]
       have ho : ∀ b, b ≠ w.heap.size → W9.heap[b]? = wr.heap[b]? := fun b hb => by
        rw [hW9, Below.heap_setCell _ _ _ _ hb, Below.heap_setCell _ _ _ _ hb, Below.heap_setCell _ _ _ _ hb, Below.heap_setCell _ _ _ _ hb, Below.heap_setCell _ _ _ _ hb]
       have hbel : Below w.heap.size w W9 := by
        rw [hW9]
        exact ((((HAT2.out.bel.setCell (p := ⟨w.heap.size, 19, none⟩) (Nat.le_refl _) _).setCell (p := ⟨w.heap.size, 20, none⟩) (Nat.le_refl _) _).setCell (p := ⟨w.heap.size, 21, none⟩) (Nat.le_refl _) _).setCell (p := ⟨w.heap.size, 22, none⟩) (Nat.le_refl _) _).setCell (p := ⟨w.heap.size, 23, none⟩) (Nat.le_refl _) _
       have hkeep : ∀ q : Addr, (S q.block ∨ (w.heap.size + 1 < q.block ∧ q.block < wr.heap.size)) → W9.cell? q = wr.cell? q := fun q hq => World.cell?_of_block (ho _ (by
        rcases hq with h | h
        ·have := HSS.out _ h; omega
        ·omega))
       have hkeep2 : ∀ q : Addr, (S q.block ∨ (w.heap.size + 1 < q.block ∧ q.block < wc.heap.size)) → W9.cell? q = wc.cell? q := fun q hq => World.cell?_of_block ((ho _ (by
        rcases hq with h | h
        ·have := HSS.out _ h; omega
        ·omega)).trans (HFR.out _ (by
        rcases hq with h | h
        ·have := HSS.out _ h; omega
        ·omega) (by
        rcases hq with h | h
        ·have := HSS.out _ h; omega
        ·omega)))
       have hm2 : ∀ x, (S x ∨ (w.heap.size + 1 < x ∧ x < wc.heap.size)) → (S x ∨ (w.heap.size + 1 < x ∧ x < W9.heap.size)) := fun x hx => by
        rcases hx with h | h
        ·exact .inl h
        ·exact .inr ⟨h.1, by rw [z9]; omega⟩
       have hm1 : ∀ x, (S x ∨ (w.heap.size + 1 < x ∧ x < wr.heap.size)) → (S x ∨ (w.heap.size + 1 < x ∧ x < W9.heap.size)) := fun x hx => by rw [z9]; exact hx
       obtain ⟨y1, y2, y3, -, -, -⟩ := (HAT2.out.sl.keep hkeep).mono hm1
       refine ⟨j + 1, hlt, by go_num, yc, yt, yo, .slice Bp qp.params.length cp, .slice Bi qp.inter.length ci, .slice Bu qp.utf.length cu, ?_⟩
       rw [HON.out, HSTE.out]
       exact ⟨{ HAT2.out.inn with p := HPO.out }, hbel, by rw [z9]; exact hsz9, (ho _ (by omega)).trans HAT2.out.kZ, hrow, y1, y2, y3, (HT1.out.keep hkeep2).mono hm2, (HT2.out.keep hkeep2).mono hm2, (HT3.out.keep hkeep2).mono hm2⟩
      case measure => simp [intOf]; omega
  ·obtain rfl : j = b.length := by omega
   rw [List.take_of_length_le (Nat.le_refl _)] at hat
   have HAT := Lh hat
   have hsz5 := hat.size
   clear hat
   go_upto_region 10 with fail
   refine wp_region_lit ?_
   refine wpl_loadS rfl (.tmp 2) rfl rfl HAT.out.kS rfl ?_
   refine wpl_storeS rfl (.tmp 4) (.tmp 39) rfl rfl rfl HAT.out.kZ rfl rfl HAT.out.sl.one ?_
   go_wp2
   refine scEndV (w.heap.size + 1) 4 Tryz.results16 ?_ ?_ HAT.out.kZ (by omega) HAT.out.bel HSS.out HAT.out.sl (fun x hx => hx)
   all_goals rfl
theorem wpl_appZ (w : World) {ops : Array Oper} {rest : List Oper} {o : Oper} {a : Act} {Q : Exit → Act → World → Prop} (hgd : o.guard = none) (s x : Operand)
  (ho : o.op = .call { callee := .builtin .append, args := #[s, x], argTypes := #[26, 9] })
  (base : Nat) (v : Value) (l : List UInt8) (m : ByteArray) (hs : a.eval s = v) (hx : a.eval x = .string m) (hown : OB w base v l) (hlen : l.length + m.size ≤ 1099511627776) (hbase : base ≤ w.heap.size)
  (h : ∀ v' w', OB w' base v' (l ++ m.data.toList) → w.grownBy w' v.ownBlock → Below base w w' → wpList Tryz.prog ops Q rest (a.put o.dst v') w') :
  wpList Tryz.prog ops Q (o :: rest) a w := by
 obtain ⟨i0, hi0, hz0, hz1, hz2⟩ := info_parts byteInfo
 have hlt := World.ownsRow.lt hown
 refine Lib.wpList_append_own_string w hgd s x 26 9 ho base 5 i0 Tryz.underlying26 Tryz.underlying9 hi0 hz0 hz1 hz2 v l.length (vBs l) hs hown m hx (by simp only [maxLen]; omega) (by omega) hbase ?_
 intro v' w' h1 h2 _
 refine h v' w' ?_ h2 ((Below.refl _ _).grown h2 hbase (fun k hk => (hlt k hk).1))
 unfold OB
 have e1 : (l ++ m.data.toList).length = l.length + m.size := by simp
 have e2 : vBs (l ++ m.data.toList) = vBs l ++ Lib.strCells m := by simp [vBs, vB, Lib.strCells]
 rw [e1, e2]
 exact h1
def seatP : List (List UInt8) := [[97, 98], [120], [230, 188, 162], [195, 169], [13, 10], [10], [13], [8], [9], [27, 91, 65], [27, 91, 51, 66], [27, 91, 50, 67], [27, 91, 68], [27, 91, 50, 59, 51, 72], [27, 91, 74], [27, 91, 49, 74], [27, 91, 50, 74], [27, 91, 75], [27, 91, 49, 75], [27, 91, 76], [27, 91, 50, 77], [27, 91, 50, 64], [27, 91, 80], [27, 91, 51, 88], [27, 91, 83], [27, 91, 84], [27, 91, 50, 59, 52, 114], [27, 91, 114], [27, 77], [27, 68], [27, 69], [27, 55], [27, 56], [27, 99], [27, 72], [27, 91, 103], [27, 91, 51, 103], [27, 91, 49, 59, 51, 49, 109], [27, 91, 48, 59, 52, 59, 52, 55, 109], [27, 91, 109], [27, 91, 63, 55, 108], [27, 91, 63, 55, 104], [27, 91, 63, 50, 53, 108], [27, 91, 63, 49, 48, 52, 57, 104], [27, 91, 63, 49, 48, 52, 57, 108], [27, 91, 53, 71], [27, 91, 50, 100], [27, 93, 48, 59, 116, 7], [27, 80, 49, 27, 92], [230], [255], [27, 91], [27], [49, 50, 59], [24], [97, 98, 99, 100, 101, 102, 103, 104], [27, 91, 57, 57, 57, 57, 57, 57, 57, 57, 57, 57, 57, 109], [27, 40, 66], [27, 91, 49, 58, 50, 109], [27, 91, 62, 99], [195], [169], [229, 173, 151, 229, 173, 151], [27, 91, 33, 112], [204, 129], [12], [127], [27, 91, 59, 72], [27, 91, 48, 75]]
def seatP1 (j : Nat) : List UInt8 := seatP.getD j []
def seatB (l : List UInt8) : List UInt8 := l.flatMap fun b => seatP1 (b.toNat % 69)
theorem seatP1_len (j : Nat) : (seatP1 j).length ≤ 20 := by
 by_cases h : j < 69
 ·revert h
  revert j
  have h := (List.all_eq_true (l := List.range 69) (p := fun j => decide ((seatP1 j).length ≤ 20))).1 (by kernel_rfl)
  exact fun j hj => of_decide_eq_true (h j (List.mem_range.2 hj))
 ·unfold seatP1
  rw [List.getD_eq_getElem?_getD, List.getElem?_eq_none (by show 69 ≤ j; omega)]
  simp
theorem seatB_take (l : List UInt8) (k : Nat) (h : k < l.length) : seatB (l.take (k + 1)) = seatB (l.take k) ++ seatP1 (l[k].toNat % 69) := by
 unfold seatB
 rw [List.take_succ_eq_append_getElem h, List.flatMap_append]
 simp
theorem seatB_len (l : List UInt8) : (seatB l).length ≤ 20 * l.length := by
 induction l with
 | nil => simp [seatB]
 | cons b l ih =>
  have h := seatP1_len (b.toNat % 69)
  have e : seatB (b :: l) = seatP1 (b.toNat % 69) ++ seatB l := rfl
  rw [e, List.length_append, List.length_cons]
  omega
def SeatBP (l : List UInt8) (w : World) (e : Ending) (w' : World) : Prop := ∃ v, e = .returned v ∧ OB w' w.heap.size v (seatB l) ∧ Below w.heap.size w w'
def SeatBRel (l : List UInt8) (B : Nat) (w1 : World) (o i : Value) (wr : World) : Prop :=
 ∃ k : Nat, k ≤ l.length ∧ i = .int .i64 (k : Int) ∧ OB wr (B + 1) o (seatB (l.take k)) ∧ Below (B + 1) w1 wr
def pieceS (j : Nat) : Option Value → Bool
 | some (.string s) => s.data.toList == seatP1 j
 | _ => false
theorem pieceS_ex {j : Nat} {x : Option Value} (h : pieceS j x = true) : ∃ s : ByteArray, s.data.toList = seatP1 j ∧ x = some (.string s) := by
 unfold pieceS at h
 split at h
 ·exact ⟨_, by simpa using h, rfl⟩
 ·cases h
theorem short_lt {n : Nat} {f : Nat → Bool} (h : (List.range n).all f = true) : ∀ j, j < n → f j = true := fun j hj => List.all_eq_true.1 h j (List.mem_range.2 hj)
theorem seatBytesF_any (v : Value) (l : List UInt8) (w : World) (hv : BS w w.heap.size v l) (hl : l.length ≤ 1048576) : Calls Tryz.prog 17 #[v] w (SeatBP l w) := by
 obtain ⟨A, cp, rfl, g1, g2, _⟩ := hv.at_
 unfold maxLen at g2
 go_enter Tryz.func17, Tryz.ntmps17
 go_wp2
 generalize hO : Obj.cells _ 9 _ = O
 have hC : ∀ j, j < 69 → ∃ s : ByteArray, s.data.toList = seatP1 j ∧ (w.alloc O).cell? ⟨w.heap.size, j, none⟩ = some (.string s) := by
  subst hO
  intro j hj
  rw [World.cell?_alloc_new]
  refine pieceS_ex ?_
  revert j
  refine short_lt (n := 69) (f := fun j => pieceS j _) ?_
  kernel_rfl
 clear hO
 have hB1 : Below w.heap.size w (w.alloc O) := (Below.refl _ _).alloc (Nat.le_refl _) _
 have hs1 : (w.alloc O).heap.size = w.heap.size + 1 := by simp
 have hv1 := hv.below hB1
 generalize w.alloc O = W1 at *
 go_loopw [4, 5] (fun o i wr => SeatBRel l w.heap.size W1 o i wr) (fun _ i _ => l.length - (intOf i).toNat)
 case atStart => exact ⟨0, Nat.zero_le _, rfl, OB.nil _ _, Below.refl _ _⟩
 case round =>
  obtain ⟨k, hk, rfl, ho, hbel⟩ := hrel
  have hm := Nat.le_trans (seatB_len (l.take k)) (Nat.mul_le_mul_left 20 (List.length_take_le k l))
  obtain ⟨m, hmm⟩ : ∃ m, seatB (l.take k) = m := ⟨_, rfl⟩
  rw [hmm] at ho hm
  by_cases hlt : k < l.length
  ·have hz := hbel.size
   obtain ⟨ad, rfl, hc⟩ := (hv1.below (hbel.mono (Nat.le_succ _))).cellC k hlt
   have hbl := (l[k]).toNat_lt
   have HN := Lh (seatB_take l k hlt)
   rw [hmm] at HN
   clear hmm
   unfold vB at hc
   generalize l[k].toNat = b at *
   obtain ⟨j, hj⟩ : ∃ j, b % 69 = j := ⟨_, rfl⟩
   have hj17 : j < 69 := by omega
   obtain ⟨s, hsz, hcs⟩ := hC j hj17
   have hcs2 : wr.cell? ⟨w.heap.size, j, none⟩ = some (.string s) := (hbel.cell (p := ⟨w.heap.size, j, none⟩) (Nat.lt_succ_self _)).trans hcs
   have e1 : (b : Int) % 69 = (j : Int) := by omega
   have HO := Lh ho
   have hsz2 : s.size ≤ 20 := by
    have h := seatP1_len j
    rw [← hsz, Array.length_toList] at h
    exact h
   have HSZ := Lh hsz
   rw [hj] at HN
   clear hsz
   have hj1 : (j : Int) < 69 := by omega
   clear hv ho hC hv1 hcs hj
   go_wp2_with (first
    | (at_builtin; refine wpl_appZ _ rfl (.tmp 13) (.tmp 24) rfl (w.heap.size + 1) _ _ s rfl rfl HO.out (by omega) (by omega) ?_; intro v3 w3 ho3 hg3 hbel3))
   go_roundw
   case rel => exact ⟨k + 1, hlt, by go_num, by rw [HN.out, ← HSZ.out]; exact ho3, hbel.trans hbel3⟩
   case measure => simp [intOf]; omega
  ·obtain rfl : k = l.length := by omega
   clear hv hC hv1
   go_wp2
   go_ret
   rw [List.take_of_length_le (Nat.le_refl _)] at hmm
   exact ⟨_, rfl, by rw [hmm]; exact World.ownsRow.mono ho (Nat.le_succ _), hB1.trans (hbel.mono (Nat.le_succ _))⟩
theorem step_loadS {ops : Array Oper} {o : Oper} {a : Act} {w : World} {K : Act → World → Prop} {Q : Exit → Act → World → Prop} {E : Prop} (hgd : o.guard = none) (x : Operand) (ho : o.op = .load 30 x) {g : Nat} {xs : Array Value} (hx : a.eval x = .pointer (some ⟨g, 0, none⟩))
  (hg : w.heap[g]? = some (.cells xs 30)) (hn : xs.size = 24) (h : K (a.put o.dst (.agg xs)) w) : if Region.wanted o (yielded ops a.tmps) = true then Oper.wp Tryz.prog o a w K Q else E := by
 have hw : Region.wanted o (yielded ops a.tmps) = true := by simp [Region.wanted, hgd]
 rw [if_pos hw]
 unfold Oper.wp execOp
 simp only [ho, hx, Sem.run_bind, run_loadS hg hn, Result.andThen_ok, Sem.run_pure]
 exact h
theorem step_storeS {ops : Array Oper} {o : Oper} {a : Act} {w : World} {K : Act → World → Prop} {Q : Exit → Act → World → Prop} {E : Prop} (hgd : o.guard = none) (x y : Operand) (ho : o.op = .store 30 x y) {g : Nat} {old xs : Array Value} (hx : a.eval x = .pointer (some ⟨g, 0, none⟩)) (hy : a.eval y = .agg xs)
  (hg : w.heap[g]? = some (.cells old 30)) (ho2 : old.size = 24) (hn : xs.size = 24) (h1 : xs.all (·.oneCell') = true) (h : K (a.put o.dst undef) (w.setRow g xs)) : if Region.wanted o (yielded ops a.tmps) = true then Oper.wp Tryz.prog o a w K Q else E := by
 have hw : Region.wanted o (yielded ops a.tmps) = true := by simp [Region.wanted, hgd]
 rw [if_pos hw]
 unfold Oper.wp execOp
 simp only [ho, hx, hy, Sem.run_bind, run_storeS hg ho2 hn h1, Result.andThen_ok, Sem.run_pure]
 exact h
def seatS (r c : Nat) (l : List UInt8) : Sc := feedS (newS ((r % 6 + 1 : Nat) : Int) ((c % 9 + 1 : Nat) : Int)) (seatB l)
theorem seatS_in (r c : Nat) (l : List UInt8) : ScIn (seatS r c l) (r % 6 + 1) (c % 9 + 1) := feedS_in (seatB l) (newS_in (r % 6 + 1) (c % 9 + 1) (by omega) (by omega) (by omega) (by omega))
theorem seatS_w (r c : Nat) (l : List UInt8) : ScW (seatS r c l) (r % 6 + 1) (c % 9 + 1) := feedS_w (seatB l) (newS_in (r % 6 + 1) (c % 9 + 1) (by omega) (by omega) (by omega) (by omega)) (newS_w _ _ _ _)
def SeatScrF (s : Sc) (w : World) (e : Ending) (w' : World) : Prop := ∃ v, e = .returned v ∧ SCV w' (NewB w' w.heap.size) v s ∧ Below w.heap.size w w'
theorem seatEnd {w W w2 w6 w7 : World} {s : Sc} (p : Tmp) {zc zt zo zp zi zu : Value} {fn : Func} {a : Act} {z : Array Value} (hfn : fn.results = #[.cell p 30]) (ht : a.tmps.getD p undef = .pointer (some ⟨w.heap.size, 0, none⟩)) (hd : a.defers = [])
  (k7 : w7.heap[w.heap.size]? = some (.cells z 30)) (b6 : Below W.heap.size W w6) (b3 : Below w.heap.size w W) (z3 : W.heap.size = w2.heap.size + 1) (z2 : w.heap.size + 1 ≤ w2.heap.size) (b7 : Below w6.heap.size w6 w7) (hs : SSl w7 (Since (NewB w2 (w.heap.size + 1)) w6 w7) s zc zt zo zp zi zu) :
  bodyPost Tryz.prog fn (SeatScrF s w) .ret a (w7.setRow w.heap.size (vS s zc zt zo zp zi zu)) := by
 have s6 := b6.size
 have s7 := b7.size
 refine bodyPost_ret (v := .agg (vS s zc zt zo zp zi zu)) (resultS hfn ht (heap_setRow_same k7) rfl) hd ?_
 have hb : Below w.heap.size w w7 := (b3.trans (b6.mono (by omega))).trans (b7.mono (by omega))
 refine ⟨_, rfl, ⟨_, _, _, _, _, _, rfl, (hs.keep (fun q hq => World.cell?_of_block (heap_setRow_other ?_))).mono (fun x hx => ?_)⟩, below_setRow hb (Nat.le_refl _) _⟩
 ·rcases hq with h | h
  ·have := h.1; omega
  ·have h1 : w6.heap.size ≤ q.block := h.1; omega
 ·rcases hx with h | h
  ·have h1 := h.1
   have h2 := h.2
   exact ⟨by omega, by rw [size_setRow]; omega⟩
  ·have h1 : w6.heap.size ≤ x := h.1
   have h2 : x < w7.heap.size := h.2
   exact ⟨by omega, by rw [size_setRow]; exact h2⟩
theorem seatScreenF_any (r c : Nat) (hr : r < 256) (hc : c < 256) (v : Value) (l : List UInt8) (w : World) (hv : BS w w.heap.size v l) (hl : l.length ≤ 1048576) : Calls Tryz.prog 8 #[.int .u8 (r : Int), .int .u8 (c : Int), v] w (SeatScrF (seatS r c l) w) := by
 have HV := Lh hv
 obtain ⟨A, cp, rfl, g1, g2, _⟩ := hv.at_
 unfold maxLen at g2
 clear hv
 obtain ⟨R, hR0⟩ : ∃ R : Nat, r % 6 = R := ⟨_, rfl⟩
 obtain ⟨C, hC0⟩ : ∃ C : Nat, c % 9 = C := ⟨_, rfl⟩
 have hR : (r : Int) % 6 = (R : Int) := by omega
 have hC : (c : Int) % 9 = (C : Int) := by omega
 unfold seatS
 rw [hR0, hC0]
 have HM := Lh (seatB_len l)
 obtain ⟨m, hm⟩ : ∃ m, seatB l = m := ⟨_, rfl⟩
 have HMM := Lh hm
 rw [hm] at HM
 rw [hm]
 clear hm hR0 hC0
 have hR6 : R < 6 := by omega
 have hC9 : C < 9 := by omega
 go_enter Tryz.func8, Tryz.ntmps8
 have hnew := fun W => Newr_yes (R + 1) (C + 1) W (by omega) (by omega) (by omega) (by omega)
 rw [show ((R + 1 : Nat) : Int) = (R : Int) + 1 by omega, show ((C + 1 : Nat) : Int) = (C : Int) + 1 by omega] at hnew
 have HNEW := Lh hnew
 have HNI := Lh (newS_in (R + 1) (C + 1) (by omega) (by omega) (by omega) (by omega))
 clear hnew
 go_wp2_with fail
 refine (HNEW.out _).mono ?_
 rintro e w2 ⟨v2, rfl, hv2, b2⟩
 obtain ⟨uc, ut, uo, up, ui, uu, rfl, hs2⟩ := hv2
 have z1 : (w.alloc (.cells zQ 30)).heap.size = w.heap.size + 1 := by simp
 have k1 : w2.heap[w.heap.size]? = some (.cells zQ 30) := by
  refine (b2.block _ (by rw [z1]; omega)).trans ?_
  show (w.heap.push _)[w.heap.size]? = _
  simp
 have z2 : w.heap.size + 1 ≤ w2.heap.size := by have := b2.size; rw [z1] at this; exact this
 have bel2 : Below w.heap.size w w2 := ((Below.refl _ _).alloc (Nat.le_refl _) _).trans (b2.mono (by rw [z1]; omega))
 rw [z1] at hs2
 clear b2 z1
 rename_i K hK
 refine hK _ _ ?_
 clear hK
 iterate 4 (refine wpList_plain rfl fun K hK => ?_; go_simp; refine hK _ _ ?_; clear hK K)
 have k2 : (w2.alloc (.cells zQ 30)).heap[w2.heap.size]? = some (.cells zQ 30) := by
  show (w2.heap.push _)[w2.heap.size]? = _
  simp
 refine wpl_storeS rfl (.tmp 7) (.tmp 19) rfl rfl rfl k2 rfl rfl hs2.one ?_
 obtain ⟨W, hW⟩ : ∃ W, W = (w2.alloc (.cells zQ 30)).setRow w2.heap.size (vS (newS (R + 1) (C + 1)) uc ut uo up ui uu) := ⟨_, rfl⟩
 rw [← hW]
 have kS : W.heap[w2.heap.size]? = some (.cells (vS (newS (R + 1) (C + 1)) uc ut uo up ui uu) 30) := by rw [hW]; exact heap_setRow_same k2
 have o3 : ∀ b, b < w2.heap.size → W.heap[b]? = w2.heap[b]? := fun b hb => by rw [hW, heap_setRow_other (by omega)]; exact Below.heap_alloc w2 _ b hb
 have z3 : W.heap.size = w2.heap.size + 1 := by rw [hW, size_setRow]; simp
 have kZ : W.heap[w.heap.size]? = some (.cells zQ 30) := (o3 _ (by omega)).trans k1
 have bel3 : Below w.heap.size w W := by rw [hW]; exact below_setRow (bel2.alloc (by omega) _) (by omega) _
 have hs3 : SSl W (NewB w2 (w.heap.size + 1)) (newS (R + 1) (C + 1)) uc ut uo up ui uu := hs2.keep (fun q hq => World.cell?_of_block (o3 _ hq.2))
 have hlt3 : ∀ x, NewB w2 (w.heap.size + 1) x → x < W.heap.size := fun x hx => by rw [z3]; have := hx.2; omega
 have KS := Lh (show W.drew.heap[w2.heap.size]? = _ from kS)
 have KZ := Lh (show W.drew.heap[w.heap.size]? = _ from kZ)
 have Z3 := Lh (show W.drew.heap.size = w2.heap.size + 1 from z3)
 have B3 := Lh bel3.drew
 have HS3 := Lh (show SSl W.drew (NewB w2 (w.heap.size + 1)) (newS (R + 1) (C + 1)) uc ut uo up ui uu from hs3)
 clear kS o3 z3 kZ bel3 hs3 hW k2 k1 hs2 hlt3
 go_simp
 go_wp2_with fail
 have hby := seatBytesF_any (.slice A l.length cp) l W.drew ((HV.out.below B3.out).more B3.out.size) hl
 have HBY := Lh hby
 clear hby
 have hfe : ∀ (W' : World) (bv : Value) (m : List UInt8), Below W.drew.heap.size W.drew W' → BS W' W'.heap.size bv m → m.length ≤ 1099511627776 → Calls Tryz.prog 16 #[.agg (vS (newS (R + 1) (C + 1)) uc ut uo up ui uu), bv] W' (ScPost (NewB w2 (w.heap.size + 1)) (feedS (newS (R + 1) (C + 1)) m) W') := by
  intro W' bv m hb hbs hm
  have hlt : ∀ x, NewB w2 (w.heap.size + 1) x → x < W.drew.heap.size := fun x hx => by rw [Z3.out]; have := hx.2; omega
  exact feedr_any _ bv (newS (R + 1) (C + 1)) m (R + 1) (C + 1) (NewB w2 (w.heap.size + 1)) W' (fun x hx => Nat.lt_of_lt_of_le (hlt x hx) hb.size) ⟨_, _, _, _, _, _, rfl, HS3.out.below hlt hb⟩ HNI.out hbs hm
 have HFE := Lh hfe
 clear hfe
 refine wp_region_any (by kernel_rfl) ?_
 try (change wpAny _ _ _ _ _ _ _ (World.drew _))
 refine wpAny_ready (rs := [0, 1]) (by kernel_rfl) (by simp) ?_
 refine AllReady.cons rfl (fun K hK => ?_) (AllReady.cons rfl (fun K hK => ?_) AllReady.nil)
 ·refine step_loadS rfl (.tmp 7) rfl rfl KS.out rfl ?_
  refine hK _ _ ?_
  clear hK K
  refine wpAny_ready (rs := [1]) (by kernel_rfl) (by simp) ?_
  refine AllReady.cons rfl (fun K hK => ?_) AllReady.nil
  go_simp
  refine hK _ _ ?_
  clear hK K
  refine wpAny_ready (rs := [2]) (by kernel_rfl) (by simp) ?_
  refine AllReady.cons rfl (fun K hK => ?_) AllReady.nil
  go_simp
  refine HBY.out.mono ?_
  rintro e w6 ⟨bv, rfl, hbv, b6⟩
  have hml := HM.out
  rw [HMM.out] at hbv
  obtain ⟨Ab, cb, rfl, g5, g6, -⟩ := hbv.bs.at_
  have hF := HFE.out w6 (.slice Ab m.length cb) m b6 hbv.bs (by omega)
  have HF := Lh hF
  have K6 := Lh ((b6.block _ (by rw [Z3.out]; omega)).trans KS.out)
  have HB6 := Lh b6
  have hz6 : w2.heap.size + 1 ≤ w6.heap.size := by have := b6.size; rw [Z3.out] at this; exact this
  clear hF
  refine hK _ _ ?_
  clear hK K
  refine wpAny_ready (rs := [3]) (by kernel_rfl) (by simp) ?_
  refine AllReady.cons rfl (fun K hK => ?_) AllReady.nil
  go_simp
  refine HF.out.mono ?_
  rintro e w7 ⟨v7, rfl, hv7, b7⟩
  obtain ⟨zc, zt, zo, zp, zi, zu, rfl, hs7⟩ := hv7
  have k7 : w7.heap[w.heap.size]? = _ := (b7.block _ (by omega)).trans ((HB6.out.block _ (by rw [Z3.out]; omega)).trans KZ.out)
  have z7 : w6.heap.size ≤ w7.heap.size := b7.size
  refine hK _ _ ?_
  clear hK K
  refine wpAny_ready (rs := [4]) (by kernel_rfl) (by simp) ?_
  refine AllReady.cons rfl (fun K hK => ?_) AllReady.nil
  refine step_storeS rfl (.tmp 6) (.tmp 24) rfl rfl rfl k7 rfl rfl hs7.one ?_
  refine hK _ _ ?_
  clear hK K
  refine wpAny_done (by kernel_rfl) ?_ _
  go_simp
  go_wp2_with fail
  refine seatEnd (w6 := w6) (w7 := w7) 6 Tryz.results8 ?_ ?_ k7 HB6.out B3.out Z3.out z2 b7 hs7
  all_goals rfl
 ·go_simp
  refine hK _ _ ?_
  clear hK K
  refine wpAny_ready (rs := [0, 2]) (by kernel_rfl) (by simp) ?_
  refine AllReady.cons rfl (fun K hK => ?_) (AllReady.cons rfl (fun K hK => ?_) AllReady.nil)
  ·refine step_loadS rfl (.tmp 7) rfl rfl KS.out rfl ?_
   refine hK _ _ ?_
   clear hK K
   refine wpAny_ready (rs := [2]) (by kernel_rfl) (by simp) ?_
   refine AllReady.cons rfl (fun K hK => ?_) AllReady.nil
   go_simp
   refine HBY.out.mono ?_
   rintro e w6 ⟨bv, rfl, hbv, b6⟩
   have hml := HM.out
   rw [HMM.out] at hbv
   obtain ⟨Ab, cb, rfl, g5, g6, -⟩ := hbv.bs.at_
   have hF := HFE.out w6 (.slice Ab m.length cb) m b6 hbv.bs (by omega)
   have HF := Lh hF
   have K6 := Lh ((b6.block _ (by rw [Z3.out]; omega)).trans KS.out)
   have HB6 := Lh b6
   have hz6 : w2.heap.size + 1 ≤ w6.heap.size := by have := b6.size; rw [Z3.out] at this; exact this
   clear hF
   refine hK _ _ ?_
   clear hK K
   refine wpAny_ready (rs := [3]) (by kernel_rfl) (by simp) ?_
   refine AllReady.cons rfl (fun K hK => ?_) AllReady.nil
   go_simp
   refine HF.out.mono ?_
   rintro e w7 ⟨v7, rfl, hv7, b7⟩
   obtain ⟨zc, zt, zo, zp, zi, zu, rfl, hs7⟩ := hv7
   have k7 : w7.heap[w.heap.size]? = _ := (b7.block _ (by omega)).trans ((HB6.out.block _ (by rw [Z3.out]; omega)).trans KZ.out)
   have z7 : w6.heap.size ≤ w7.heap.size := b7.size
   refine hK _ _ ?_
   clear hK K
   refine wpAny_ready (rs := [4]) (by kernel_rfl) (by simp) ?_
   refine AllReady.cons rfl (fun K hK => ?_) AllReady.nil
   refine step_storeS rfl (.tmp 6) (.tmp 24) rfl rfl rfl k7 rfl rfl hs7.one ?_
   refine hK _ _ ?_
   clear hK K
   refine wpAny_done (by kernel_rfl) ?_ _
   go_simp
   go_wp2_with fail
   refine seatEnd (w6 := w6) (w7 := w7) 6 Tryz.results8 ?_ ?_ k7 HB6.out B3.out Z3.out z2 b7 hs7
   all_goals rfl
  ·go_simp
   refine HBY.out.mono ?_
   rintro e w6 ⟨bv, rfl, hbv, b6⟩
   have hml := HM.out
   rw [HMM.out] at hbv
   obtain ⟨Ab, cb, rfl, g5, g6, -⟩ := hbv.bs.at_
   have hF := HFE.out w6 (.slice Ab m.length cb) m b6 hbv.bs (by omega)
   have HF := Lh hF
   have K6 := Lh ((b6.block _ (by rw [Z3.out]; omega)).trans KS.out)
   have HB6 := Lh b6
   have hz6 : w2.heap.size + 1 ≤ w6.heap.size := by have := b6.size; rw [Z3.out] at this; exact this
   clear hF
   refine hK _ _ ?_
   clear hK K
   refine wpAny_ready (rs := [0]) (by kernel_rfl) (by simp) ?_
   refine AllReady.cons rfl (fun K hK => ?_) AllReady.nil
   refine step_loadS rfl (.tmp 7) rfl rfl K6.out rfl ?_
   refine hK _ _ ?_
   clear hK K
   refine wpAny_ready (rs := [3]) (by kernel_rfl) (by simp) ?_
   refine AllReady.cons rfl (fun K hK => ?_) AllReady.nil
   go_simp
   refine HF.out.mono ?_
   rintro e w7 ⟨v7, rfl, hv7, b7⟩
   obtain ⟨zc, zt, zo, zp, zi, zu, rfl, hs7⟩ := hv7
   have k7 : w7.heap[w.heap.size]? = _ := (b7.block _ (by omega)).trans ((HB6.out.block _ (by rw [Z3.out]; omega)).trans KZ.out)
   have z7 : w6.heap.size ≤ w7.heap.size := b7.size
   refine hK _ _ ?_
   clear hK K
   refine wpAny_ready (rs := [4]) (by kernel_rfl) (by simp) ?_
   refine AllReady.cons rfl (fun K hK => ?_) AllReady.nil
   refine step_storeS rfl (.tmp 6) (.tmp 24) rfl rfl rfl k7 rfl rfl hs7.one ?_
   refine hK _ _ ?_
   clear hK K
   refine wpAny_done (by kernel_rfl) ?_ _
   go_simp
   go_wp2_with fail
   refine seatEnd (w6 := w6) (w7 := w7) 6 Tryz.results8 ?_ ?_ k7 HB6.out B3.out Z3.out z2 b7 hs7
   all_goals rfl
end Go.Proofs.YthepofkdgbcifaaGreat
