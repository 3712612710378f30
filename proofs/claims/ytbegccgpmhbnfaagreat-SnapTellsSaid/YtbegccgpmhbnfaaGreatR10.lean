/- What is proved here: parts of the proof of SnapTells. -/
import Derived.Test.YtbegccgpmhbnfaaGreatR9
namespace Go.Proofs.YtbegccgpmhbnfaaGreat
open Go.RowKit
set_option linter.unusedVariables false
set_option linter.unusedSimpArgs false
set_option maxRecDepth 10000
set_option maxHeartbeats 1000000
section
attribute [local simp] E.den O.den U.den vs dv_I dv_B dv_L dv_R DV.row
theorem bools_len (l : List Bool) : ((boolsD l).rows.length : Int) = l.length := by simp [boolsD, DV.rows]
theorem bools_get {l : List Bool} {k : Nat} (h : k < l.length) : ((boolsD l).rows[k]?.getD [])[0]?.getD (DV.I 0) = .B (l.getD k false) := by
 simp [boolsD, DV.rows, List.getElem?_eq_getElem h, List.getD_eq_getElem?_getD]
theorem bools_set (l : List Bool) (k : Nat) (b : Bool) : DV.L ((boolsD l).rows.set k [.B b]) = boolsD (l.set k b) := by
 simp [boolsD, DV.rows, List.map_set]
def tabsU (c x : Nat) : List Bool := (List.range c).map fun i => decide (i % 8 = 0 ∧ i < x)
theorem tabsU_zero (c : Nat) : tabsU c 0 = List.replicate c false := by
 apply List.ext_getElem?
 intro i
 by_cases h : i < c
 ·simp [tabsU, h]
 ·simp [tabsU, h]
theorem tabsU_set (c x : Nat) (h8 : x % 8 = 0) : (tabsU c x).set x true = tabsU c (x + 8) := by
 apply List.ext_getElem?
 intro i
 rw [List.getElem?_set]
 by_cases h : i < c
 ·by_cases e : x = i
  ·subst e
   simp [tabsU, h, h8]
  ·rw [if_neg e]
   simp only [tabsU, List.getElem?_map, List.getElem?_range h, Option.map_some]
   congr 1
   rw [decide_eq_decide]
   constructor
   ·intro ⟨a, b⟩; exact ⟨a, by omega⟩
   ·intro ⟨a, b⟩; exact ⟨a, by omega⟩
 ·by_cases e : x = i
  ·subst e
   simp [tabsU, h]
  ·rw [if_neg e]
   simp [tabsU, h]
theorem tabsU_all (c x : Nat) (h : c ≤ x) : tabsU c x = newTabs c := by
 unfold tabsU newTabs
 apply List.map_congr_left
 intro i hi
 have := List.mem_range.1 hi
 rw [decide_eq_decide]
 exact ⟨fun h => h.1, fun h => ⟨h, by omega⟩⟩
theorem New_sp (r c : Nat) (r1 : 1 ≤ r) (r2 : r ≤ 1000) (c1 : 1 ≤ c) (c2 : c ≤ 1000) : Spn n_r7_New sg_r7_New [.I r, .I c] (scD (newS r c) ++ [.I 0]) := by
 have hb : (blankL (r : Int) (c : Int)).length = r * c := by
  unfold blankL
  rw [if_pos (by unfold sizeOk; rw [decide_eq_true_eq]; omega)]
  simp
 have hrc : 1 * 1 ≤ r * c := Nat.mul_le_mul r1 c1
 refine rd_r7_New rfl (dcall (Blank_sp r c) rfl rfl rfl (dneed (by simp [cells_len, hb]; omega) (dfit (by simp; omega) (by simp; omega) (dneed (by simp; omega) ?_))))
 refine dloop (fun k : Nat => [boolsD (tabsU c k), .I k]) (fun k => k % 8 = 0 ∧ k ≤ c + 7) (fun k => c + 8 - k) 0 (by rw [tabsU_zero]; simp [boolsD]) ⟨rfl, by omega⟩ fun k hk _ => ?_
 have hl : (tabsU c k).length = c := by simp [tabsU]
 refine dlt (fun h => ?_) fun h => ?_
 ·simp at h
  refine dwithin (by simp) (by simp [bools_len, hl]; omega) (dfit (by simp; omega) (by simp; omega) (dagain rfl ⟨k + 8, ?_, ⟨by omega, by omega⟩, by omega⟩))
  rw [← tabsU_set c k hk.1, ← bools_set]
  simp
 ·simp at h
  refine dret ?_
  rw [tabsU_all c k h]
  simp [newS, scD, prM, cellsD, intsD, bytesD]
theorem lookA : (List.range 4096).all (fun a => (((O.den (.bor .u16) (.I a) (.I 1)).int == (lookN a 1 : Int)) && ((O.den (.bor .u16) (.I a) (.I 2)).int == (lookN a 4 : Int)) && ((O.den (.bor .u16) (.I a) (.I 4)).int == (lookN a 7 : Int)))) = true := by kernel_rfl
theorem lookB : (List.range 4096).all (fun a => (((O.den (.bnot .u16) (.I a) (.I 1)).int == (lookN a 22 : Int)) && ((O.den (.bnot .u16) (.I a) (.I 2)).int == (lookN a 24 : Int)) && ((O.den (.bnot .u16) (.I a) (.I 4)).int == (lookN a 27 : Int)))) = true := by kernel_rfl
theorem lookC : (List.range 4096).all (fun a => (((O.den (.bnot .u16) (.I a) (.I 240)).int == (lookN a 39 : Int)) && ((O.den (.bnot .u16) (.I a) (.I 3840)).int == (lookN a 49 : Int)))) = true := by kernel_rfl
theorem lookD : (List.range 4096).all (fun a => (List.range 8).all fun j => (O.den (.bor .u16) (O.den (.bnot .u16) (.I a) (.I 240)) (O.den (.shl .u16) (.I ((j : Int) + 1)) (.I 4))).int == (lookN a (30 + j) : Int)) = true := by kernel_rfl
theorem lookE : (List.range 4096).all (fun a => (List.range 8).all fun j => (O.den (.bor .u16) (O.den (.bnot .u16) (.I a) (.I 3840)) (O.den (.shl .u16) (.I ((j : Int) + 1)) (.I 8))).int == (lookN a (40 + j) : Int)) = true := by kernel_rfl
theorem wrap16 {n : Int} (h0 : 0 ≤ n) (h1 : n ≤ 65535) : IntKind.u16.wrap n = n := wrap_id ⟨h0, h1⟩
theorem look_sp (a : Nat) (k : Int) (ha : a < 4096) : Spn n_r7_look sg_r7_look [.I a, .I k] [.I (lookN a k)] := by
 have hA := List.all_eq_true.1 lookA a (List.mem_range.2 ha)
 have hB := List.all_eq_true.1 lookB a (List.mem_range.2 ha)
 have hC := List.all_eq_true.1 lookC a (List.mem_range.2 ha)
 have hD := fun j (hj : j < 8) => List.all_eq_true.1 (List.all_eq_true.1 lookD a (List.mem_range.2 ha)) j (List.mem_range.2 hj)
 have hE := fun j (hj : j < 8) => List.all_eq_true.1 (List.all_eq_true.1 lookE a (List.mem_range.2 ha)) j (List.mem_range.2 hj)
 simp only [Bool.and_eq_true, beq_iff_eq] at hA hB hC hD hE
 obtain ⟨⟨a1, a4⟩, a7⟩ := hA
 obtain ⟨⟨b22, b24⟩, b27⟩ := hB
 obtain ⟨c39, c49⟩ := hC
 have no : ¬ (k = 0 ∨ k = 1 ∨ k = 4 ∨ k = 7 ∨ k = 22 ∨ k = 24 ∨ k = 27 ∨ (30 ≤ k ∧ k ≤ 37) ∨ k = 39 ∨ (40 ≤ k ∧ k ≤ 47) ∨ k = 49) → lookN a k = a := fun h => by
  unfold lookN
  rw [if_neg (by omega), if_neg (by omega), if_neg (by omega), if_neg (by omega), if_neg (by omega), if_neg (by omega), if_neg (by omega), if_neg (by omega), if_neg (by omega), if_neg (by omega), if_neg (by omega)]
 have lift : ∀ {e : DV} {n : Nat}, (∃ m, e = .I m) → e.int = (n : Int) → [e] = [DV.I n] := fun ⟨m, h⟩ h2 => by rw [h] at h2 ⊢; rw [show m = _ from h2]
 refine rd_r7_look rfl (deq (fun h => dret ?_) fun h0 => deq (fun h => dret ?_) fun h1 => deq (fun h => dret ?_) fun h4 => deq (fun h => dret ?_) fun h7 => deq (fun h => dret ?_) fun h22 => deq (fun h => dret ?_) fun h24 => deq (fun h => dret ?_) fun h27 => dle (fun g1 => dle (fun g2 => dfit ?_ ?_ (dret ?_)) fun g2 => ?_) fun g1 => dret ?_)
 ·obtain rfl : k = 0 := h
  rfl
 ·obtain rfl : k = 1 := h
  exact lift ⟨_, rfl⟩ a1
 ·obtain rfl : k = 4 := h
  exact lift ⟨_, rfl⟩ a4
 ·obtain rfl : k = 7 := h
  exact lift ⟨_, rfl⟩ a7
 ·obtain rfl : k = 22 := h
  exact lift ⟨_, rfl⟩ b22
 ·obtain rfl : k = 24 := h
  exact lift ⟨_, rfl⟩ b24
 ·obtain rfl : k = 27 := h
  exact lift ⟨_, rfl⟩ b27
 all_goals simp at h0 h1 h4 h7 h22 h24 h27 g1
 ·simp at g2 ⊢; omega
 ·simp at g2 ⊢; omega
 ·simp at g2
  obtain ⟨j, hj⟩ : ∃ j : Nat, k = 30 + j := ⟨(k - 30).toNat, by omega⟩
  subst hj
  have hw : IntKind.u16.wrap (30 + (j : Int) - 29) = (j : Int) + 1 := by rw [wrap16 (by omega) (by omega)]; omega
  have := hD j (by omega)
  refine lift ⟨_, rfl⟩ ?_
  rw [← this]
  simp only [List.map, E.den, U.den, List.getD_cons_zero, List.getD_cons_succ, dv_I, O.den, hw]
 ·simp at g2
  refine deq (fun h => dret ?_) fun h39 => dle (fun g3 => dle (fun g4 => dfit ?_ ?_ (dret ?_)) fun g4 => deq (fun h => dret ?_) fun h49 => dret ?_) fun g3 => dret ?_
  ·obtain rfl : k = 39 := h
   exact lift ⟨_, rfl⟩ c39
  all_goals simp at h39 g3
  ·simp at g4 ⊢; omega
  ·simp at g4 ⊢; omega
  ·simp at g4
   obtain ⟨j, hj⟩ : ∃ j : Nat, k = 40 + j := ⟨(k - 40).toNat, by omega⟩
   subst hj
   have hw : IntKind.u16.wrap (40 + (j : Int) - 39) = (j : Int) + 1 := by rw [wrap16 (by omega) (by omega)]; omega
   have := hE j (by omega)
   refine lift ⟨_, rfl⟩ ?_
   rw [← this]
   simp only [List.map, E.den, U.den, List.getD_cons_zero, List.getD_cons_succ, dv_I, O.den, hw]
  ·obtain rfl : k = 49 := h
   exact lift ⟨_, rfl⟩ c49
  ·simp at g4 h49
   rw [no (by omega)]; rfl
  ·rw [no (by omega)]; rfl
 ·rw [no (by omega)]; rfl
end
section
attribute [local simp] E.den O.den U.den vs dv_I dv_B dv_L dv_R DV.row
def eraseT (fe te : E) : Tree := .call n_r7_own [.V 2] 1 (.loop [.V 26, fe] (.br (.O .lt (.V 28) te) (.call n_r7_blank [] 3 (.need (.O .and (.O .le (.I 0) (.V 28)) (.O .lt (.V 28) (.U .len (.V 27)))) (.need (.U (.fit .i64) (.O .add (.V 28) (.I 1)))
  (.again 0 [.P (.V 27) (.V 28) (.O .cns (.O .cns (.O .cns .R (.V 29)) (.V 30)) (.V 31)), .O .add (.V 28) (.I 1)])))) (.call n_r7_Mend [.V 27, .V 1, .V 3] 1 (.ret ([.V 0, .V 1, .V 29, .V 3, .V 4, .B false] ++ vs 6 18)))))
theorem eraseT_den {s : Sc} {r c : Nat} (h : ScIn s r c) {row : Bool} {k : Int} {fe te : E} {a b : Nat} {post : List DV → Prop} (hbd : te.bd 26 = true) (hfb : fe.bd 26 = true) (hf : fe.den (scD s ++ [.B row, .I k]) = .I a) (ht : (te.den (scD s ++ [.B row, .I k])).int = b) (ha : a ≤ s.cells.length) (hb : b ≤ s.cells.length)
  (hp : post (scD { s with wrap := false, cells := mendL (fillL s.cells (fun _ => blankC) a b) s.cols s.y })) : (eraseT fe te).den SpF1 post (scD s ++ [.B row, .I k]) [] := by
 have hlen := h.len
 unfold eraseT
 refine dcall (own_sp s.cells h.len) rfl rfl rfl ?_
 have h26 : (scD s ++ [DV.B row, DV.I k]).length = 26 := rfl
 have hT : ∀ x, (te.den (scD s ++ [.B row, .I k] ++ x)).int = b := fun x => by rw [E.den_ext (scD s ++ [DV.B row, DV.I k]) x te (by rw [h26]; exact hbd)]; exact ht
 have hF : ∀ x, fe.bd 26 = true → fe.den (scD s ++ [.B row, .I k] ++ x) = .I a := fun x hb => by rw [E.den_ext (scD s ++ [DV.B row, DV.I k]) x fe (by rw [h26]; exact hb)]; exact hf
 refine dloop (fun x : Nat => [cellsD (fillL s.cells (fun _ => blankC) a x), .I x]) (fun x => a ≤ x ∧ (x ≤ b ∨ x = a)) (fun x => b - x) a ?_ ⟨Nat.le_refl _, .inr rfl⟩ fun x hx _ => ?_
 ·rw [fillL_none _ _ _ _ (Nat.le_refl _)]
  simp only [List.map_cons, List.map_nil]
  rw [hF _ hfb]
  rfl
 ·refine dlt (fun hc => ?_) fun hc => ?_
  ·have hc : (x : Int) < (te.den (scD s ++ [.B row, .I k] ++ ([cellsD s.cells] ++ [cellsD (fillL s.cells (fun _ => blankC) a x), .I x]))).int := by rw [← List.append_assoc]; exact hc
   rw [hT] at hc
   refine dcall blank_sp rfl rfl rfl (dwithin (by simp [scD]) (by simp [scD, cells_len, fillL_len] <;> omega) (dfit (by simp [scD] <;> omega) (by simp [scD] <;> omega) (dagain rfl ⟨x + 1, ?_, ⟨by omega, by omega⟩, by omega⟩)))
   rw [← fillL_set s.cells (fun _ => blankC) a x blankC (by omega) rfl, ← cells_set]
   simp [scD]
   rfl
  ·have hc : ¬ (x : Int) < (te.den (scD s ++ [.B row, .I k] ++ ([cellsD s.cells] ++ [cellsD (fillL s.cells (fun _ => blankC) a x), .I x]))).int := by rw [← List.append_assoc]; exact hc
   rw [hT] at hc
   have e : fillL s.cells (fun _ => blankC) a x = fillL s.cells (fun _ => blankC) a b := by
    rcases hx.2 with h | h
    ·rw [show x = b by omega]
    ·rw [h, fillL_none _ _ _ _ (Nat.le_refl _), fillL_none _ _ _ _ (by omega)]
   refine dcall (mend_sp (fillL s.cells (fun _ => blankC) a x) s.cols s.y (by rw [fillL_len]; exact hlen)) rfl rfl rfl (dret ?_)
   rw [e]
   exact hp
theorem erase_sp' {s : Sc} {r c : Nat} (h : ScIn s r c) (row : Bool) (k : Int) : Spn n_r7_erase sg_r7_erase (scD s ++ [.B row, .I k]) (scD (eraseS s row k)) := by
 have e := h.rows
 have f := h.cols
 have y0 := h.y0
 have y1 := h.y1
 have x0 := h.x0
 have x1 := h.x1
 have gn := h.g.n
 have hrl := rc_le h.g.r2 h.g.c2
 have r2 := h.g.r2
 have c2 := h.g.c2
 obtain ⟨Y, hY⟩ : ∃ Y : Nat, s.y = Y := ⟨s.y.toNat, by omega⟩
 obtain ⟨X, hX⟩ : ∃ X : Nat, s.x = X := ⟨s.x.toNat, by omega⟩
 have hin := rc_lt (r := r) (c := c) (y := Y) (x := X) (by omega) (by omega)
 have hin2 : (Y + 1) * c ≤ r * c := Nat.mul_le_mul_right _ (by omega)
 have e1 : s.y * s.cols = ((Y * c : Nat) : Int) := by rw [hY, f]; push_cast; rfl
 have e2 : (s.y + 1) * s.cols = ((Y * c + c : Nat) : Int) := by rw [hY, f, Int.add_mul]; push_cast; omega
 rw [Nat.add_mul] at hin2
 unfold eraseS
 rw [e1, e2]
 generalize Y * c = K at *
 refine rd_r7_erase rfl (dlt (fun h1 => dret ?_) fun h1 => dbr (fun h2 => ?_) fun h2 => ?_)
 ·have h1 : 2 < k := h1
  rw [if_pos h1]; rfl
 ·replace h1 : ¬ 2 < k := h1
  replace h2 : row = true := h2
  subst h2
  rw [if_neg h1]
  refine dfit (by simp [scD, e1] <;> omega) (by simp [scD, e1] <;> omega) (dfit (by simp [scD] <;> omega) (by simp [scD] <;> omega) (dfit (by simp [scD, e2] <;> omega) (by simp [scD, e2] <;> omega) (dfit (by simp [scD, e1] <;> omega) (by simp [scD, e1] <;> omega) (deq (fun h3 => ?_) fun h3 => deq (fun h4 => dfit (by simp [scD, e1] <;> omega) (by simp [scD, e1] <;> omega) ?_) fun h4 => ?_))))
  ·replace h3 : k = 0 := h3
   subst h3
   refine eraseT_den h (a := K + X) (b := K + c) rfl rfl (by simp [scD, e1, hX]) (by simp [scD, e2]) (by omega) (by omega) ?_
   rw [hX]
   simp <;> rfl
  ·replace h3 : ¬ k = 0 := h3
   replace h4 : k = 1 := h4
   subst h4
   refine eraseT_den h (a := K) (b := K + X + 1) rfl rfl (by simp [scD, e1]) (by simp [scD, e1, hX]) (by omega) (by omega) ?_
   rw [hX]
   simp <;> rfl
  ·replace h3 : ¬ k = 0 := h3
   replace h4 : ¬ k = 1 := h4
   refine eraseT_den h (a := K) (b := K + c) rfl rfl (by simp [scD, e1]) (by simp [scD, e2]) (by omega) (by omega) ?_
   simp [h3, h4] <;> rfl
 ·replace h1 : ¬ 2 < k := h1
  replace h2 : row = false := h2
  subst h2
  rw [if_neg h1]
  refine dfit (by simp [scD, e1] <;> omega) (by simp [scD, e1] <;> omega) (dfit (by simp [scD, e1] <;> omega) (by simp [scD, e1] <;> omega) (deq (fun h3 => ?_) fun h3 => deq (fun h4 => dfit (by simp [scD, e1] <;> omega) (by simp [scD, e1] <;> omega) ?_) fun h4 => ?_))
  ·replace h3 : k = 0 := h3
   subst h3
   refine eraseT_den h (a := K + X) (b := s.cells.length) rfl rfl (by simp [scD, e1, hX]) (by simp [scD, cells_len]) (by omega) (by omega) ?_
   rw [hX]
   simp <;> rfl
  ·replace h3 : ¬ k = 0 := h3
   replace h4 : k = 1 := h4
   subst h4
   refine eraseT_den h (a := 0) (b := K + X + 1) rfl rfl (by simp [scD]) (by simp [scD, e1, hX]) (by omega) (by omega) ?_
   rw [hX]
   simp <;> rfl
  ·replace h3 : ¬ k = 0 := h3
   replace h4 : ¬ k = 1 := h4
   refine eraseT_den h (a := 0) (b := s.cells.length) rfl rfl (by simp [scD]) (by simp [scD, cells_len]) (by omega) (by omega) ?_
   simp [h3, h4] <;> rfl
theorem control_sp {s : Sc} {r c : Nat} (h : ScIn s r c) (b : Nat) : Spn n_r7_control sg_r7_control (scD s ++ [.I b]) (scD (controlS s b)) := by
 have f := h.cols
 have f1 := h.g.c2
 have f2 := h.g.c1
 have x0 := h.x0
 have x1 := h.x1
 have tl := h.tabs
 unfold controlS
 refine rd_r7_control rfl (deq (fun h1 => dfit (by simp [scD] <;> omega) (by simp [scD] <;> omega) (dret ?_)) fun h8 => deq (fun h1 => dfit (by simp [scD] <;> omega) (by simp [scD] <;> omega) ?_) fun h9 => deq (fun h1 => dcall (downS_sp h) rfl rfl rfl (dret ?_)) fun h10 => deq (fun h1 => dcall (downS_sp h) rfl rfl rfl (dret ?_)) fun h11 => deq (fun h1 => dcall (downS_sp h) rfl rfl rfl (dret ?_)) fun h12 => deq (fun h1 => dret ?_) fun h13 => dret ?_)
 ·have h1 : (b : Int) = 8 := h1
  rw [if_pos (by omega)]
  have : max (s.x - 1) 0 = if 0 > s.x - 1 then 0 else s.x - 1 := by split <;> omega
  rw [this]; rfl
 ·have h1 : (b : Int) = 9 := h1
  rw [if_neg (by omega), if_pos (by omega)]
  obtain ⟨X, hX⟩ : ∃ X : Nat, s.x = X := ⟨s.x.toNat, by omega⟩
  have ht : tabX s = min ((nextTab s.tabs (c - (X + 1)) (X + 1) : Nat) : Int) (s.cols - 1) := by
   unfold tabX
   rw [hX, f, show ((c : Int) - ((X : Int) + 1)).toNat = c - (X + 1) by omega, show ((X : Int) + 1).toNat = X + 1 by omega]
  rw [ht]
  generalize hN : nextTab s.tabs (c - (X + 1)) (X + 1) = N
  have mn : ∀ k : Nat, min (k : Int) (s.cols - 1) = if s.cols - 1 < (k : Int) then s.cols - 1 else k := fun k => by split <;> omega
  rw [mn]
  refine dloop (fun k : Nat => [.I k]) (fun k => X + 1 ≤ k ∧ k ≤ c ∧ nextTab s.tabs (c - k) k = N) (fun k => c - k) (X + 1) (by simp [scD, hX]) ⟨Nat.le_refl _, by omega, hN⟩ fun k hk _ => ?_
  obtain ⟨k1, k2, k3⟩ := hk
  refine dlt (fun h2 => ?_) fun h2 => ?_
  ·have h2 : (k : Int) < s.cols := h2
   have hkc : k < s.tabs.length := by omega
   obtain ⟨g, hg⟩ : ∃ g, c - k = g + 1 := ⟨c - k - 1, by omega⟩
   rw [hg] at k3
   unfold nextTab at k3
   rw [show s.tabs.getD k true = s.tabs.getD k false by simp [List.getD_eq_getElem?_getD, List.getElem?_eq_getElem hkc]] at k3
   have hb : (E.den (scD s ++ [.I b] ++ [.I k]) (.O (.at 0) (.V 9) (.V 25))) = .B (s.tabs.getD k false) := by
    have := bools_get hkc
    simp only [E.den, O.den]
    show (((boolsD s.tabs).rows.getD (k : Int).toNat []).getD 0 (.I 0)) = _
    rw [Int.toNat_natCast, List.getD_eq_getElem?_getD, List.getD_eq_getElem?_getD]
    exact this
   refine dwithin (by simp [scD]) (by simp [scD, bools_len] <;> omega) (dbr (fun h3 => dfit (by simp [scD] <;> omega) (by simp [scD] <;> omega) (dret ?_)) fun h3 => dfit (by simp [scD] <;> omega) (by simp [scD] <;> omega) (dagain rfl ⟨k + 1, ?_, ⟨by omega, by omega, ?_⟩, by omega⟩))
   ·rw [hb] at h3
    have h3 : s.tabs.getD k false = true := h3
    rw [if_pos h3] at k3
    subst k3
    rfl
   ·simp [scD]
   ·rw [hb] at h3
    have h3 : s.tabs.getD k false = false := h3
    rw [if_neg (by rw [h3]; decide)] at k3
    rw [show c - (k + 1) = g by omega]; exact k3
  ·have h2 : ¬ (k : Int) < s.cols := h2
   have : c - k = 0 := by omega
   rw [this] at k3
   unfold nextTab at k3
   subst k3
   exact dfit (by simp [scD] <;> omega) (by simp [scD] <;> omega) (dret rfl)
 ·have h1 : (b : Int) = 10 := h1
  rw [if_neg (by omega), if_neg (by omega), if_pos (by omega)]; rfl
 ·have h1 : (b : Int) = 11 := h1
  rw [if_neg (by omega), if_neg (by omega), if_pos (by omega)]; rfl
 ·have h1 : (b : Int) = 12 := h1
  rw [if_neg (by omega), if_neg (by omega), if_pos (by omega)]; rfl
 ·have h1 : (b : Int) = 13 := h1
  rw [if_neg (by omega), if_neg (by omega), if_neg (by omega), if_pos (by omega)]; rfl
 ·have h8 : ¬ (b : Int) = 8 := h8
  have h9 : ¬ (b : Int) = 9 := h9
  have h10 : ¬ (b : Int) = 10 := h10
  have h11 : ¬ (b : Int) = 11 := h11
  have h12 : ¬ (b : Int) = 12 := h12
  have h13 : ¬ (b : Int) = 13 := h13
  rw [if_neg (by omega), if_neg (by omega), if_neg (by omega), if_neg (by omega)]; rfl
theorem escape_sp {s : Sc} {r c : Nat} (h : ScIn s r c) (b : Nat) : Spn n_r7_escape sg_r7_escape (scD s ++ [.I b]) (scD (escapeS s b)) := by
 have e := h.rows
 have f := h.cols
 have r1 := h.g.r1
 have r2 := h.g.r2
 have c1 := h.g.c1
 have c2 := h.g.c2
 have y0 := h.y0
 have y1 := h.y1
 have x0 := h.x0
 have x1 := h.x1
 have tl := h.tabs
 unfold escapeS
 refine rd_r7_escape rfl (deq (fun h1 => dret ?_) fun h55 => deq (fun h1 => dret ?_) fun h56 => deq (fun h1 => dcall (downS_sp h) rfl rfl rfl (dret ?_)) fun h68 => deq (fun h1 => dcall (downS_sp h) rfl rfl rfl (dret ?_)) fun h69 => deq (fun h1 => deq (fun h2 => dcall (down_sp s.cells s.cols s.top s.bottom 1 h.len) rfl rfl rfl (dret ?_)) fun h2 => dlt (fun h3 => dfit (by simp [scD] <;> omega) (by simp [scD] <;> omega) (dret ?_)) fun h3 => dret ?_) fun h77 => deq (fun h1 => dneed (by simp [scD, bools_len, tl] <;> omega) (dwithin (by simp [scD] <;> omega) (by simp [scD, bools_len] <;> omega) (dret ?_))) fun h72 => deq (fun h1 => ?_) fun h99 => dret ?_)
 ·have h1 : (b : Int) = 55 := h1
  rw [if_pos (by omega)]; rfl
 ·have h1 : (b : Int) = 56 := h1
  rw [if_neg (by omega), if_pos (by omega)]; rfl
 ·have h1 : (b : Int) = 68 := h1
  rw [if_neg (by omega), if_neg (by omega), if_pos (by omega)]; rfl
 ·have h1 : (b : Int) = 69 := h1
  rw [if_neg (by omega), if_neg (by omega), if_neg (by omega), if_pos (by omega)]; rfl
 ·have h1 : (b : Int) = 77 := h1
  have h2 : s.y = s.top := h2
  rw [if_neg (by omega), if_neg (by omega), if_neg (by omega), if_neg (by omega), if_pos (by omega), if_pos h2]; rfl
 ·have h1 : (b : Int) = 77 := h1
  have h2 : ¬ s.y = s.top := h2
  have h3 : 0 < s.y := h3
  rw [if_neg (by omega), if_neg (by omega), if_neg (by omega), if_neg (by omega), if_pos (by omega), if_neg h2, if_pos h3]; rfl
 ·have h1 : (b : Int) = 77 := h1
  have h2 : ¬ s.y = s.top := h2
  have h3 : ¬ 0 < s.y := h3
  rw [if_neg (by omega), if_neg (by omega), if_neg (by omega), if_neg (by omega), if_pos (by omega), if_neg h2, if_neg h3]; rfl
 ·have h1 : (b : Int) = 72 := h1
  rw [if_neg (by omega), if_neg (by omega), if_neg (by omega), if_neg (by omega), if_neg (by omega), if_pos (by omega)]
  have := bools_set s.tabs s.x.toNat true
  simp [scD, ← this, boolsD, DV.rows]
 ·have h1 : (b : Int) = 99 := h1
  rw [if_neg (by omega), if_neg (by omega), if_neg (by omega), if_neg (by omega), if_neg (by omega), if_neg (by omega), if_pos (by omega), e, f]
  exact dcall (New_sp r c r1 r2 c1 c2) rfl (by simp [scD, e, f]) rfl (dret rfl)
 ·have h55 : ¬ (b : Int) = 55 := h55
  have h56 : ¬ (b : Int) = 56 := h56
  have h68 : ¬ (b : Int) = 68 := h68
  have h69 : ¬ (b : Int) = 69 := h69
  have h77 : ¬ (b : Int) = 77 := h77
  have h72 : ¬ (b : Int) = 72 := h72
  have h99 : ¬ (b : Int) = 99 := h99
  rw [if_neg (by omega), if_neg (by omega), if_neg (by omega), if_neg (by omega), if_neg (by omega), if_neg (by omega), if_neg (by omega)]; rfl
end
section
attribute [local simp] E.den O.den U.den vs dv_I dv_B dv_L dv_R DV.row
theorem ints_get' {l : List Int} {k : Nat} (h : k < l.length) : (((intsD l).rows[k]?.getD [])[0]?.getD (DV.I 0)) = .I (l[k]?.getD 0) := by
 simp [intsD, DV.rows, List.getElem?_eq_getElem h]
theorem may_sp (rn : Int) : Spn n_r1_May sg_r1_May [.I rn] [.B (mayR rn)] := by
 unfold mayR
 refine rd_r1_May rfl (dle (fun h1 => dle (fun h2 => dlt (fun h3 => dret ?_) fun h3 => dret ?_) fun h2 => dret ?_) fun h1 => dret ?_)
 ·have h1 : 0 ≤ rn := h1
  have h2 : rn ≤ 1114111 := h2
  have h3 : rn < 55296 := h3
  simp [h1, h2, h3]
 ·have h1 : 0 ≤ rn := h1
  have h2 : rn ≤ 1114111 := h2
  have h3 : ¬ rn < 55296 := h3
  simp [h1, h2, h3]
 ·have h2 : ¬ rn ≤ 1114111 := h2
  simp [h2]
 ·have h1 : ¬ 0 ≤ rn := h1
  simp [h1]
theorem in_sp (rn a b : Int) : Spn n_r1_in sg_r1_in [.I rn, .I a, .I b] [.B (inB rn a b)] := by
 unfold inB
 refine rd_r1_in rfl (dle (fun h1 => dret ?_) fun h1 => dret ?_)
 ·have h1 : a ≤ rn := h1
  simp [h1]
 ·have h1 : ¬ a ≤ rn := h1
  simp [h1]
theorem Width_sp (rn : Int) : Spn n_r1_Width sg_r1_Width [.I rn] [.I (widthL rn)] := by
 unfold widthL zeroB
 refine rd_r1_Width rfl (dcall (may_sp rn) rfl rfl rfl (dbr (fun h1 => dlt (fun h2 => dret ?_) fun h2 => dcall (in_sp rn 127 159) rfl rfl rfl (dbr (fun h3 => dret ?_) fun h3 => dcall (in_sp rn 768 879) rfl rfl rfl (dbr (fun h4 => dret ?_) fun h4 => dcall (in_sp rn 8203 8207) rfl rfl rfl (dbr (fun h5 => dret ?_) fun h5 => dcall (in_sp rn 65024 65039) rfl rfl rfl (dbr (fun h6 => dret ?_) fun h6 => ?_))))) fun h1 => dret ?_))
 ·have h2 : rn < 32 := h2
  rw [if_pos (by simp [h2])]; rfl
 ·have h3 : inB rn 127 159 = true := h3
  rw [if_pos (by simp [h3])]; rfl
 ·have h4 : inB rn 768 879 = true := h4
  rw [if_pos (by simp [h4])]; rfl
 ·have h5 : inB rn 8203 8207 = true := h5
  rw [if_pos (by simp [h5])]; rfl
 ·have h6 : inB rn 65024 65039 = true := h6
  rw [if_pos (by simp [h6])]; rfl
 ·have h1 : mayR rn = true := h1
  have h2 : ¬ rn < 32 := h2
  have h3 : inB rn 127 159 = false := h3
  have h4 : inB rn 768 879 = false := h4
  have h5 : inB rn 8203 8207 = false := h5
  have h6 : inB rn 65024 65039 = false := h6
  rw [if_neg (by simp [h1, h2, h3, h4, h5, h6])]
  have h30 : wideT.length = 30 := rfl
  refine dloop (fun k : Nat => [.I ((2 * k : Nat) : Int)]) (fun k => k ≤ 15 ∧ ∀ j, j < k → inB rn (wideT.getD (2 * j) 0) (wideT.getD (2 * j + 1) 0) = false) (fun k => 15 - k) 0 rfl ⟨by omega, fun j hj => by omega⟩ fun k hk _ => ?_
  refine dlt (fun g => ?_) fun g => ?_
  ·have g : ((2 * k : Nat) : Int) < 30 := by simp [lit_den] at g; omega
   have hb : ((2 * k : Nat) : Int) + 1 = ((2 * k + 1 : Nat) : Int) := by omega
   refine nle (by simp <;> omega) (dfit (by simp; omega) (by simp; omega) (dwithin (by simp; omega) ?_ ?_))
   ·simp [lit_den]; omega
   ·refine dcall (das := [.I rn, .I (wideT.getD (2 * k) 0), .I (wideT.getD (2 * k + 1) 0)]) (in_sp rn _ _) rfl ?_ rfl ?_
    ·have q1 : (O.at 0).den (intsD wideT) (.I ((2 * k : Nat) : Int)) = .I (wideT.getD (2 * k) 0) := by
      have := ints_get' (l := wideT) (k := 2 * k) (by omega)
      simp only [O.den, dv_I, Int.toNat_natCast, List.getD_eq_getElem?_getD] at this ⊢
      exact this
     have q2 : (O.at 0).den (intsD wideT) (.I (((2 * k : Nat) : Int) + 1)) = .I (wideT.getD (2 * k + 1) 0) := by
      have := ints_get' (l := wideT) (k := 2 * k + 1) (by omega)
      rw [hb]
      simp only [O.den, dv_I, Int.toNat_natCast, List.getD_eq_getElem?_getD] at this ⊢
      exact this
     rw [← q1, ← q2]
     simp only [List.map_cons, List.map_nil, E.den, O.den, lit_den]
     rfl
    ·refine dbr (fun h7 => dret ?_) fun h7 => dfit (by simp; omega) (by simp; omega) (dagain rfl ⟨k + 1, ?_, ⟨by omega, fun j hj => ?_⟩, by omega⟩)
     ·have h7 : inB rn (wideT.getD (2 * k) 0) (wideT.getD (2 * k + 1) 0) = true := h7
      have : wideB rn = true := List.any_eq_true.2 ⟨k, List.mem_range.2 (by omega), h7⟩
      rw [if_pos this]; rfl
     ·simp; omega
     ·have h7 : inB rn (wideT.getD (2 * k) 0) (wideT.getD (2 * k + 1) 0) = false := h7
      by_cases e : j = k
      ·rw [e]; exact h7
      ·exact hk.2 j (by omega)
  ·have g : ¬ ((2 * k : Nat) : Int) < 30 := by simp [lit_den] at g; omega
   have : wideB rn = false := by
    rw [← Bool.not_eq_true]
    intro h
    obtain ⟨j, hj, h⟩ := List.any_eq_true.1 h
    rw [hk.2 j (by have := List.mem_range.1 hj; omega)] at h
    cases h
   rw [if_neg (by rw [this]; decide)]
   exact dret rfl
 ·have h1 : mayR rn = false := h1
  rw [if_pos (by simp [h1])]; rfl
theorem put_facts {s : Sc} {r c : Nat} (h : ScIn s r c) : ∃ K X : Nat, s.y * s.cols = (K : Int) ∧ s.x = (X : Int) ∧ s.cols = (c : Int) ∧ atS s = K + X ∧ K + X < s.cells.length ∧ (X + 1 < c → K + X + 1 < s.cells.length) ∧ s.cells.length ≤ 1000000 ∧ X < c ∧ c ≤ 1000 := by
 have f := h.cols
 have y0 := h.y0
 have y1 := h.y1
 have x0 := h.x0
 have x1 := h.x1
 have gn := h.g.n
 have hrl := rc_le h.g.r2 h.g.c2
 obtain ⟨Y, hY⟩ : ∃ Y : Nat, s.y = Y := ⟨s.y.toNat, by omega⟩
 obtain ⟨X, hX⟩ : ∃ X : Nat, s.x = X := ⟨s.x.toNat, by omega⟩
 have hin := rc_lt (r := r) (c := c) (y := Y) (x := X) (by omega) (by omega)
 have hin2 : X + 1 < c → Y * c + (X + 1) < r * c := fun h => rc_lt (by omega) h
 have e1 : s.y * s.cols = ((Y * c : Nat) : Int) := by rw [hY, f]; push_cast; rfl
 exact ⟨Y * c, X, e1, hX, f, by unfold atS; rw [e1, hX]; omega, by omega, fun h => by have := hin2 h; omega, by omega, by omega, h.g.c2⟩
theorem cells_set2 (l : List Cl) (k : Nat) (c : Cl) : (cellsD l).rows.set k (clD c) = (cellsD (l.set k c)).rows := by
 simp [cellsD, DV.rows, List.map_set]
theorem wideRows {R : List (List DV)} {k : Nat} (h : k < R.length) {a b c d : DV} : (R.set k [a, b, c]).set k [((R.set k [a, b, c])[k]?.getD [])[0]?.getD (.I 0), ((R.set k [a, b, c])[k]?.getD [])[1]?.getD (.I 0), d] = R.set k [a, b, d] := by
 simp [h]
theorem width_cases (rn : Int) (h0 : ¬ widthL rn = 0) (h2 : ¬ widthL rn = 2) : widthL rn = 1 := by
 revert h0 h2
 unfold widthL
 split
 ·simp
 ·split <;> simp
theorem print_sp {s : Sc} {r c : Nat} (h : ScIn s r c) (rn : Int) : Spn n_r7_print sg_r7_print (scD s ++ [.I rn]) (scD (printS s rn)) := by
 have f := h.cols
 have c1 := h.g.c1
 have c2 := h.g.c2
 refine rd_r7_print rfl (dcall (Width_sp rn) rfl rfl rfl ?_)
 unfold printS
 refine deq (fun w0 => dret ?_) fun w0 => dbr (fun hw => ?_) fun hw => ?_
 ·replace w0 : widthL rn = 0 := w0
  rw [if_pos w0]; rfl
 ·replace w0 : ¬ widthL rn = 0 := w0
  replace hw : s.wrap = true := hw
  have ew : wrapS s = crS s := if_pos hw
  have hd := crS_in h
  have fd : (downS s).cols = (c : Int) := hd.cols
  rw [if_neg w0, ew]
  refine dcall (downS_sp h) rfl rfl rfl (deq (fun w2 => ?_) fun w2 => ?_)
  ·replace w2 : widthL rn = 2 := w2
   refine dfit (by simp [scD, fd] <;> omega) (by simp [scD, fd] <;> omega) (deq (fun hx => dbr (fun ha => deq (fun h1 => dret ?_) fun h1 => ?_) fun ha => dret ?_) fun hx => ?_)
   ·replace hx : (crS s).x = (crS s).cols - 1 := hx
    replace h1 : (crS s).cols = 1 := h1
    rw [if_pos ⟨w2, hx⟩, if_pos (.inr h1)]; rfl
   ·replace hx : (crS s).x = (crS s).cols - 1 := hx
    replace h1 : ¬ (crS s).cols = 1 := h1
    replace ha : (crS s).auto = true := ha
    have hq : ¬ ((crS s).auto = false ∨ (crS s).cols = 1) := fun q => q.elim (fun q => by rw [ha] at q; cases q) h1
    rw [if_pos ⟨w2, hx⟩, if_neg hq]
    have h1' : ¬ (c : Int) = 1 := fun q => h1 (fd.trans q)
    have ww := w2
    rw [ww]
    have hdd := crS_in hd
    refine dcall (downS_sp hd) rfl rfl rfl ?_
    obtain ⟨K, X, e1, hX, hC, hA, hin, hin2, hlen, hxc, hc⟩ := put_facts hdd
    replace e1 : (downS (crS s)).y * (downS (crS s)).cols = (K : Int) := e1
    replace hC : (downS (crS s)).cols = (c : Int) := hC
    have hcl : (crS (crS s)).cells = (downS (crS s)).cells := rfl
    rw [hcl] at hin hin2 hlen
    rw [hC] at e1
    replace hX : (0 : Int) = X := hX
    obtain rfl : X = 0 := by omega
    have hx2 : 0 + 1 < c := by omega
    have hin3 := hin2 hx2
    refine dcall (own_sp (downS (crS s)).cells (by omega)) rfl rfl rfl ?_
    refine dfit (by simp [scD, e1, hC, cells_len, ww] <;> omega) (by simp [scD, e1, hC, cells_len, ww] <;> omega) ?_
    refine dfit (by simp [scD, e1, hC, cells_len, ww] <;> omega) (by simp [scD, e1, hC, cells_len, ww] <;> omega) ?_
    refine dwithin (by simp [scD, e1, hC, cells_len, ww] <;> omega) (by simp [scD, e1, hC, cells_len, ww] <;> omega) ?_
    refine nlt (by simp [scD, e1, hC, cells_len, ww, List.length_set] <;> omega) ?_
    refine dfit (by simp [scD, e1, hC, cells_len, ww] <;> omega) (by simp [scD, e1, hC, cells_len, ww] <;> omega) ?_
    refine dwithin (by simp [scD, e1, hC, cells_len, ww] <;> omega) (by simp [scD, e1, hC, cells_len, ww, List.length_set] <;> omega) ?_
    refine dcall (mend_sp (cells2 (crS (crS s)) rn) (downS (crS s)).cols (downS (crS s)).y (by simp [cells2, hcl]; omega)) rfl ?_ rfl ?_
    ·have : cells2 (crS (crS s)) rn = ((downS (crS s)).cells.set (K) ⟨rn, (downS (crS s)).attr, 1⟩).set (K + 1) ⟨0, (downS (crS s)).attr, 2⟩ := by
      unfold cells2
      rw [hA, hcl]
      try rfl
     rw [this, ← cells_set, ← cells_set2]
     have hl : (cellsD (downS (crS s)).cells).rows.length = (downS (crS s)).cells.length := by simp [cellsD, DV.rows]
     have h1 : K < (cellsD (downS (crS s)).cells).rows.length := by omega
     simp [scD, e1, hC, clD, wideRows h1]
    refine dfit (by simp [scD, e1, hC, cells_len, ww] <;> omega) (by simp [scD, e1, hC, cells_len, ww] <;> omega) (dle (fun g1 => dfit (by simp [scD, e1, hC, cells_len, ww] <;> omega) (by simp [scD, e1, hC, cells_len, ww] <;> omega) (dret ?_)) fun g1 => dret ?_)
    ·replace g1 : (crS (crS s)).cols ≤ (crS (crS s)).x + 2 := g1
     have : putS (crS (crS s)) rn 2 = { (crS (crS s)) with cells := mendL (cells2 (crS (crS s)) rn) (crS (crS s)).cols (crS (crS s)).y, x := (crS (crS s)).cols - 1, wrap := (crS (crS s)).auto } := if_pos g1
     rw [this]; rfl
    ·replace g1 : ¬ (crS (crS s)).cols ≤ (crS (crS s)).x + 2 := g1
     have : putS (crS (crS s)) rn 2 = { (crS (crS s)) with cells := mendL (cells2 (crS (crS s)) rn) (crS (crS s)).cols (crS (crS s)).y, x := (crS (crS s)).x + 2 } := if_neg g1
     rw [this]; rfl
   ·replace hx : (crS s).x = (crS s).cols - 1 := hx
    replace ha : (crS s).auto = false := ha
    rw [if_pos ⟨w2, hx⟩, if_pos (.inl ha)]; rfl
   ·replace hx : ¬ (crS s).x = (crS s).cols - 1 := hx
    rw [if_neg (fun q => hx q.2), w2]
    have h1' : ¬ (0 : Int) = (downS s).cols - 1 := hx
    have ww := w2
    obtain ⟨K, X, e1, hX, hC, hA, hin, hin2, hlen, hxc, hc⟩ := put_facts hd
    replace e1 : (downS s).y * (downS s).cols = (K : Int) := e1
    replace hC : (downS s).cols = (c : Int) := hC
    have hcl : (crS s).cells = (downS s).cells := rfl
    rw [hcl] at hin hin2 hlen
    rw [hC] at e1
    replace hX : (0 : Int) = X := hX
    obtain rfl : X = 0 := by omega
    have hx2 : 0 + 1 < c := by omega
    have hin3 := hin2 hx2
    refine dcall (own_sp (downS s).cells (by omega)) rfl rfl rfl ?_
    refine dfit (by simp [scD, e1, hC, cells_len, ww] <;> omega) (by simp [scD, e1, hC, cells_len, ww] <;> omega) ?_
    refine dfit (by simp [scD, e1, hC, cells_len, ww] <;> omega) (by simp [scD, e1, hC, cells_len, ww] <;> omega) ?_
    refine dwithin (by simp [scD, e1, hC, cells_len, ww] <;> omega) (by simp [scD, e1, hC, cells_len, ww] <;> omega) ?_
    refine nlt (by simp [scD, e1, hC, cells_len, ww, List.length_set] <;> omega) ?_
    refine dfit (by simp [scD, e1, hC, cells_len, ww] <;> omega) (by simp [scD, e1, hC, cells_len, ww] <;> omega) ?_
    refine dwithin (by simp [scD, e1, hC, cells_len, ww] <;> omega) (by simp [scD, e1, hC, cells_len, ww, List.length_set] <;> omega) ?_
    refine dcall (mend_sp (cells2 (crS s) rn) (downS s).cols (downS s).y (by simp [cells2, hcl]; omega)) rfl ?_ rfl ?_
    ·have : cells2 (crS s) rn = ((downS s).cells.set (K) ⟨rn, (downS s).attr, 1⟩).set (K + 1) ⟨0, (downS s).attr, 2⟩ := by
      unfold cells2
      rw [hA, hcl]
      try rfl
     rw [this, ← cells_set, ← cells_set2]
     have hl : (cellsD (downS s).cells).rows.length = (downS s).cells.length := by simp [cellsD, DV.rows]
     have h1 : K < (cellsD (downS s).cells).rows.length := by omega
     simp [scD, e1, hC, clD, wideRows h1]
    refine dfit (by simp [scD, e1, hC, cells_len, ww] <;> omega) (by simp [scD, e1, hC, cells_len, ww] <;> omega) (dle (fun g1 => dret ?_) fun g1 => dret ?_)
    ·replace g1 : (crS s).cols ≤ (crS s).x + 2 := g1
     have : putS (crS s) rn 2 = { (crS s) with cells := mendL (cells2 (crS s) rn) (crS s).cols (crS s).y, x := (crS s).cols - 1, wrap := (crS s).auto } := if_pos g1
     rw [this]; rfl
    ·replace g1 : ¬ (crS s).cols ≤ (crS s).x + 2 := g1
     have : putS (crS s) rn 2 = { (crS s) with cells := mendL (cells2 (crS s) rn) (crS s).cols (crS s).y, x := (crS s).x + 2 } := if_neg g1
     rw [this]; rfl
  ·replace w2 : ¬ widthL rn = 2 := w2
   have ww := width_cases rn w0 w2
   rw [if_neg (fun q => w2 q.1), ww]
   obtain ⟨K, X, e1, hX, hC, hA, hin, hin2, hlen, hxc, hc⟩ := put_facts hd
   replace e1 : (downS s).y * (downS s).cols = (K : Int) := e1
   replace hC : (downS s).cols = (c : Int) := hC
   have hcl : (crS s).cells = (downS s).cells := rfl
   rw [hcl] at hin hin2 hlen
   rw [hC] at e1
   replace hX : (0 : Int) = X := hX
   obtain rfl : X = 0 := by omega
   refine dcall (own_sp (downS s).cells (by omega)) rfl rfl rfl ?_
   refine dfit (by simp [scD, e1, hC, cells_len, ww] <;> omega) (by simp [scD, e1, hC, cells_len, ww] <;> omega) ?_
   refine dfit (by simp [scD, e1, hC, cells_len, ww] <;> omega) (by simp [scD, e1, hC, cells_len, ww] <;> omega) ?_
   refine dwithin (by simp [scD, e1, hC, cells_len, ww] <;> omega) (by simp [scD, e1, hC, cells_len, ww] <;> omega) ?_
   refine dcall (mend_sp (cells1 (crS s) rn) (downS s).cols (downS s).y (by simp [cells1, hcl]; omega)) rfl ?_ rfl ?_
   ·have : cells1 (crS s) rn = (downS s).cells.set (K) ⟨rn, (downS s).attr, 0⟩ := by
     unfold cells1
     rw [hA, hcl]
     try rfl
    rw [this, ← cells_set]
    simp [scD, e1, hC, clD]
   refine dfit (by simp [scD, e1, hC, cells_len, ww] <;> omega) (by simp [scD, e1, hC, cells_len, ww] <;> omega) (dle (fun g1 => dfit (by simp [scD, e1, hC, cells_len, ww] <;> omega) (by simp [scD, e1, hC, cells_len, ww] <;> omega) (dret ?_)) fun g1 => dret ?_)
   ·replace g1 : (crS s).cols ≤ (crS s).x + 1 := g1
    have : putS (crS s) rn 1 = { (crS s) with cells := mendL (cells1 (crS s) rn) (crS s).cols (crS s).y, x := (crS s).cols - 1, wrap := (crS s).auto } := if_pos g1
    rw [this]; rfl
   ·replace g1 : ¬ (crS s).cols ≤ (crS s).x + 1 := g1
    have : putS (crS s) rn 1 = { (crS s) with cells := mendL (cells1 (crS s) rn) (crS s).cols (crS s).y, x := (crS s).x + 1 } := if_neg g1
    rw [this]; rfl
 ·replace w0 : ¬ widthL rn = 0 := w0
  replace hw : s.wrap = false := hw
  have ew : wrapS s = s := if_neg (by rw [hw]; decide)
  rw [if_neg w0, ew]
  refine deq (fun w2 => ?_) fun w2 => ?_
  ·replace w2 : widthL rn = 2 := w2
   refine dfit (by simp [scD, f] <;> omega) (by simp [scD, f] <;> omega) (deq (fun hx => dbr (fun ha => deq (fun h1 => dret ?_) fun h1 => ?_) fun ha => dret ?_) fun hx => ?_)
   ·replace hx : s.x = s.cols - 1 := hx
    replace h1 : s.cols = 1 := h1
    rw [if_pos ⟨w2, hx⟩, if_pos (.inr h1)]; rfl
   ·replace hx : s.x = s.cols - 1 := hx
    replace h1 : ¬ s.cols = 1 := h1
    replace ha : s.auto = true := ha
    have hq : ¬ (s.auto = false ∨ s.cols = 1) := fun q => q.elim (fun q => by rw [ha] at q; cases q) h1
    rw [if_pos ⟨w2, hx⟩, if_neg hq]
    have ww := w2
    rw [ww]
    have hd := crS_in h
    refine dcall (downS_sp h) rfl rfl rfl ?_
    obtain ⟨K, X, e1, hX, hC, hA, hin, hin2, hlen, hxc, hc⟩ := put_facts hd
    replace e1 : (downS s).y * (downS s).cols = (K : Int) := e1
    replace hC : (downS s).cols = (c : Int) := hC
    have hcl : (crS s).cells = (downS s).cells := rfl
    rw [hcl] at hin hin2 hlen
    rw [hC] at e1
    replace hX : (0 : Int) = X := hX
    obtain rfl : X = 0 := by omega
    have hx2 : 0 + 1 < c := by omega
    have hin3 := hin2 hx2
    refine dcall (own_sp (downS s).cells (by omega)) rfl rfl rfl ?_
    refine dfit (by simp [scD, e1, hC, cells_len, ww] <;> omega) (by simp [scD, e1, hC, cells_len, ww] <;> omega) ?_
    refine dfit (by simp [scD, e1, hC, cells_len, ww] <;> omega) (by simp [scD, e1, hC, cells_len, ww] <;> omega) ?_
    refine dwithin (by simp [scD, e1, hC, cells_len, ww] <;> omega) (by simp [scD, e1, hC, cells_len, ww] <;> omega) ?_
    refine nlt (by simp [scD, e1, hC, cells_len, ww, List.length_set] <;> omega) ?_
    refine dfit (by simp [scD, e1, hC, cells_len, ww] <;> omega) (by simp [scD, e1, hC, cells_len, ww] <;> omega) ?_
    refine dwithin (by simp [scD, e1, hC, cells_len, ww] <;> omega) (by simp [scD, e1, hC, cells_len, ww, List.length_set] <;> omega) ?_
    refine dcall (mend_sp (cells2 (crS s) rn) (downS s).cols (downS s).y (by simp [cells2, hcl]; omega)) rfl ?_ rfl ?_
    ·have : cells2 (crS s) rn = ((downS s).cells.set (K) ⟨rn, (downS s).attr, 1⟩).set (K + 1) ⟨0, (downS s).attr, 2⟩ := by
      unfold cells2
      rw [hA, hcl]
      try rfl
     rw [this, ← cells_set, ← cells_set2]
     have hl : (cellsD (downS s).cells).rows.length = (downS s).cells.length := by simp [cellsD, DV.rows]
     have h1 : K < (cellsD (downS s).cells).rows.length := by omega
     simp [scD, e1, hC, clD, wideRows h1]
    refine dfit (by simp [scD, e1, hC, cells_len, ww] <;> omega) (by simp [scD, e1, hC, cells_len, ww] <;> omega) (dle (fun g1 => dfit (by simp [scD, e1, hC, cells_len, ww] <;> omega) (by simp [scD, e1, hC, cells_len, ww] <;> omega) (dret ?_)) fun g1 => dret ?_)
    ·replace g1 : (crS s).cols ≤ (crS s).x + 2 := g1
     have : putS (crS s) rn 2 = { (crS s) with cells := mendL (cells2 (crS s) rn) (crS s).cols (crS s).y, x := (crS s).cols - 1, wrap := (crS s).auto } := if_pos g1
     rw [this]; rfl
    ·replace g1 : ¬ (crS s).cols ≤ (crS s).x + 2 := g1
     have : putS (crS s) rn 2 = { (crS s) with cells := mendL (cells2 (crS s) rn) (crS s).cols (crS s).y, x := (crS s).x + 2 } := if_neg g1
     rw [this]; rfl
   ·replace hx : s.x = s.cols - 1 := hx
    replace ha : s.auto = false := ha
    rw [if_pos ⟨w2, hx⟩, if_pos (.inl ha)]; rfl
   ·replace hx : ¬ s.x = s.cols - 1 := hx
    rw [if_neg (fun q => hx q.2), w2]
    have ww := w2
    obtain ⟨K, X, e1, hX, hC, hA, hin, hin2, hlen, hxc, hc⟩ := put_facts h
    replace e1 : s.y * s.cols = (K : Int) := e1
    replace hC : s.cols = (c : Int) := hC
    have hcl : (s).cells = s.cells := rfl
    rw [hcl] at hin hin2 hlen
    rw [hC] at e1
    replace hX : s.x = (X : Int) := hX
    have hx2 : X + 1 < c := by omega
    have hin3 := hin2 hx2
    refine dcall (own_sp s.cells (by omega)) rfl rfl rfl ?_
    refine dfit (by simp [scD, e1, hC, hX, cells_len, ww] <;> omega) (by simp [scD, e1, hC, hX, cells_len, ww] <;> omega) ?_
    refine dfit (by simp [scD, e1, hC, hX, cells_len, ww] <;> omega) (by simp [scD, e1, hC, hX, cells_len, ww] <;> omega) ?_
    refine dwithin (by simp [scD, e1, hC, hX, cells_len, ww] <;> omega) (by simp [scD, e1, hC, hX, cells_len, ww] <;> omega) ?_
    refine nlt (by simp [scD, e1, hC, hX, cells_len, ww, List.length_set] <;> omega) ?_
    refine dfit (by simp [scD, e1, hC, hX, cells_len, ww] <;> omega) (by simp [scD, e1, hC, hX, cells_len, ww] <;> omega) ?_
    refine dwithin (by simp [scD, e1, hC, hX, cells_len, ww] <;> omega) (by simp [scD, e1, hC, hX, cells_len, ww, List.length_set] <;> omega) ?_
    refine dcall (mend_sp (cells2 (s) rn) s.cols s.y (by simp [cells2, hcl]; omega)) rfl ?_ rfl ?_
    ·have : cells2 (s) rn = (s.cells.set (K + X) ⟨rn, s.attr, 1⟩).set (K + X + 1) ⟨0, s.attr, 2⟩ := by
      unfold cells2
      rw [hA, hcl]
      try rfl
     rw [this, ← cells_set, ← cells_set2]
     have hl : (cellsD s.cells).rows.length = s.cells.length := by simp [cellsD, DV.rows]
     have h1 : K + X < (cellsD s.cells).rows.length := by omega
     simp [scD, e1, hC, hX, show ((K : Int) + X).toNat = K + X by omega, show ((K : Int) + X + 1).toNat = K + X + 1 by omega, clD, wideRows h1]
    refine dfit (by simp [scD, e1, hC, hX, cells_len, ww] <;> omega) (by simp [scD, e1, hC, hX, cells_len, ww] <;> omega) (dle (fun g1 => dret ?_) fun g1 => dret ?_)
    ·replace g1 : (s).cols ≤ (s).x + 2 := g1
     have : putS (s) rn 2 = { (s) with cells := mendL (cells2 (s) rn) (s).cols (s).y, x := (s).cols - 1, wrap := (s).auto } := if_pos g1
     rw [this]; rfl
    ·replace g1 : ¬ (s).cols ≤ (s).x + 2 := g1
     have : putS (s) rn 2 = { (s) with cells := mendL (cells2 (s) rn) (s).cols (s).y, x := (s).x + 2 } := if_neg g1
     rw [this]; rfl
  ·replace w2 : ¬ widthL rn = 2 := w2
   have ww := width_cases rn w0 w2
   rw [if_neg (fun q => w2 q.1), ww]
   obtain ⟨K, X, e1, hX, hC, hA, hin, hin2, hlen, hxc, hc⟩ := put_facts h
   replace e1 : s.y * s.cols = (K : Int) := e1
   replace hC : s.cols = (c : Int) := hC
   have hcl : (s).cells = s.cells := rfl
   rw [hcl] at hin hin2 hlen
   rw [hC] at e1
   replace hX : s.x = (X : Int) := hX
   refine dcall (own_sp s.cells (by omega)) rfl rfl rfl ?_
   refine dfit (by simp [scD, e1, hC, hX, cells_len, ww] <;> omega) (by simp [scD, e1, hC, hX, cells_len, ww] <;> omega) ?_
   refine dfit (by simp [scD, e1, hC, hX, cells_len, ww] <;> omega) (by simp [scD, e1, hC, hX, cells_len, ww] <;> omega) ?_
   refine dwithin (by simp [scD, e1, hC, hX, cells_len, ww] <;> omega) (by simp [scD, e1, hC, hX, cells_len, ww] <;> omega) ?_
   refine dcall (mend_sp (cells1 (s) rn) s.cols s.y (by simp [cells1, hcl]; omega)) rfl ?_ rfl ?_
   ·have : cells1 (s) rn = s.cells.set (K + X) ⟨rn, s.attr, 0⟩ := by
     unfold cells1
     rw [hA, hcl]
     try rfl
    rw [this, ← cells_set]
    simp [scD, e1, hC, hX, clD]
    rw [show ((K : Int) + X).toNat = K + X by omega]
   refine dfit (by simp [scD, e1, hC, hX, cells_len, ww] <;> omega) (by simp [scD, e1, hC, hX, cells_len, ww] <;> omega) (dle (fun g1 => dfit (by simp [scD, e1, hC, hX, cells_len, ww] <;> omega) (by simp [scD, e1, hC, hX, cells_len, ww] <;> omega) (dret ?_)) fun g1 => dret ?_)
   ·replace g1 : (s).cols ≤ (s).x + 1 := g1
    have : putS (s) rn 1 = { (s) with cells := mendL (cells1 (s) rn) (s).cols (s).y, x := (s).cols - 1, wrap := (s).auto } := if_pos g1
    rw [this]; rfl
   ·replace g1 : ¬ (s).cols ≤ (s).x + 1 := g1
    have : putS (s) rn 1 = { (s) with cells := mendL (cells1 (s) rn) (s).cols (s).y, x := (s).x + 1 } := if_neg g1
    rw [this]; rfl
end
section
attribute [local simp] E.den O.den U.den vs dv_I dv_B dv_L dv_R DV.row
theorem or6d (v c : Nat) (hv : v < 1000000) (hc : c < 64) : O.den (.bor .i32) (O.den (.shl .i32) (.I (v : Int)) (.I 6)) (.I (c : Int)) = .I ((v * 64 + c : Nat) : Int) := by
 have h1 : O.den (.shl .i32) (.I (v : Int)) (.I 6) = .I ((v : Int) * 64) := by
  have : O.den (.shl .i32) (.I (v : Int)) (.I 6) = .I (IntKind.i32.wrap ((v : Int) * 64)) := rfl
  have hw : IntKind.i32.wrap ((v : Int) * 64) = (v : Int) * 64 := by rw [IntKind.wrap_i32]; omega
  rw [this, hw]
 rw [h1]
 have h2 : O.den (.bor .i32) (.I ((v : Int) * 64)) (.I (c : Int)) = .I (bits .or .i32 ((v : Int) * 64) c) := rfl
 rw [h2, i32_or6 _ _ (by omega) (by omega) (by omega) (by omega) (by omega)]
 have : (v : Int) * 64 + c = ((v * 64 + c : Nat) : Int) := by omega
 rw [this]
theorem and63d (b : UInt8) (h : contB b = true) : O.den (.band .u8) (.I (b.toNat : Int)) (.I 63) = .I ((b.toNat - 128 : Nat) : Int) := by
 have h2 : O.den (.band .u8) (.I (b.toNat : Int)) (.I 63) = .I (bits .and .u8 (b.toNat : Int) 63) := rfl
 have := b.toNat_lt
 simp [contB] at h
 rw [h2, u8_and63 _ (by omega) (by omega)]
 exact congrArg DV.I (by omega)
theorem and31d (b : UInt8) (h : 192 ≤ b.toNat) (h' : b.toNat < 224) : O.den (.band .u8) (.I (b.toNat : Int)) (.I 31) = .I ((b.toNat - 192 : Nat) : Int) := by
 have h2 : O.den (.band .u8) (.I (b.toNat : Int)) (.I 31) = .I (bits .and .u8 (b.toNat : Int) 31) := rfl
 rw [h2, u8_and31 _ (by omega) (by omega)]
 exact congrArg DV.I (by omega)
theorem and15d (b : UInt8) (h : 224 ≤ b.toNat) (h' : b.toNat < 240) : O.den (.band .u8) (.I (b.toNat : Int)) (.I 15) = .I ((b.toNat - 224 : Nat) : Int) := by
 have h2 : O.den (.band .u8) (.I (b.toNat : Int)) (.I 15) = .I (bits .and .u8 (b.toNat : Int) 15) := rfl
 rw [h2, u8_and15 _ (by omega) (by omega)]
 exact congrArg DV.I (by omega)
theorem and7d (b : UInt8) (h : 240 ≤ b.toNat) (h' : b.toNat < 248) : O.den (.band .u8) (.I (b.toNat : Int)) (.I 7) = .I ((b.toNat - 240 : Nat) : Int) := by
 have h2 : O.den (.band .u8) (.I (b.toNat : Int)) (.I 7) = .I (bits .and .u8 (b.toNat : Int) 7) := rfl
 rw [h2, u8_and7 _ (by omega) (by omega)]
 exact congrArg DV.I (by omega)
def accL (v : Nat) (l : List UInt8) : Nat := l.foldl (fun v b => v * 64 + (b.toNat - 128)) v
theorem wholeLoop {p : List UInt8} {e : E} {v0 n : Nat} {X : Tree} {post : List DV → Prop} (hlen : p.length = n) (hn : n ≤ 4) (h1 : 1 ≤ n) (he : e.den [bytesD p] = .I (v0 : Int)) (hv : v0 < 32)
  (hno : ¬ allC p → post [.I 0, .B false]) (hX : allC p → ∀ cx, X.den SpF1 post [bytesD p, .I (accL v0 (p.drop 1) : Nat), .I p.length] cx) :
  (Tree.loop [e, .I 1] (.br (.O .lt (.V 2) (.I n)) (.need (.O .and (.O .le (.I 0) (.V 2)) (.O .lt (.V 2) (.U .len (.V 0)))) (.br (.O .eq (.O (.band .u8) (.O (.at 0) (.V 0) (.V 2)) (.I 192)) (.I 128)) (.need (.U (.fit .i64) (.O .add (.V 2) (.I 1))) (.again 0 [.O (.bor .i32) (.O (.shl .i32) (.V 1) (.I 6)) (.O (.band .u8) (.O (.at 0) (.V 0) (.V 2)) (.I 63)), .O .add (.V 2) (.I 1)])) (.ret [.I 0, .B false]))) X)).den SpF1 post [bytesD p] [] := by
 refine dloop (fun s : Nat × Nat => [.I s.1, .I s.2]) (fun s => s.1 = accL v0 ((p.take s.2).drop 1) ∧ 1 ≤ s.2 ∧ s.2 ≤ p.length ∧ s.1 < 32 * 64 ^ (s.2 - 1) ∧ ∀ j (h : j < p.length), 1 ≤ j → j < s.2 → contB p[j] = true) (fun s => p.length - s.2) (v0, 1) ?_ ⟨?_, Nat.le_refl _, by simp; omega, by simpa using hv, fun j _ h1 h2 => by simp at h2; omega⟩ fun s hs _ => ?_
 ·simp [he]
 ·have : (p.take 1).drop 1 = [] := by simp [List.drop_eq_nil_of_le]
  rw [this]; rfl
 obtain ⟨v, k⟩ := s
 obtain ⟨k0, k1, k2, k4, k3⟩ := hs
 simp only at k0 k1 k2 k3 k4
 refine dlt (fun h => ?_) fun h => ?_
 ·replace h : (k : Int) < n := h
  have hk : k < p.length := by omega
  have hb : (E.O (.at 0) (.V 0) (.V 2)).den ([bytesD p] ++ [.I (v : Int), .I (k : Int)]) = .I (p[k].toNat : Int) := by
   have := bytes_get hk
   simpa using this
  have hd : (E.O (.band .u8) (.O (.at 0) (.V 0) (.V 2)) (.I 192)).den ([bytesD p] ++ [.I (v : Int), .I (k : Int)]) = O.den (.band .u8) (.I (p[k].toNat : Int)) (.I 192) := congrArg (fun d => O.den (.band .u8) d (.I 192)) hb
  refine dwithin (by simp) (by simp [bytes_len]; omega) (deq (fun h1 => ?_) fun h1 => dret ?_)
  ·rw [hd] at h1
   have hc := (cont_iff _).1 h1
   have hp32 : v < 1000000 := by
    have : 64 ^ (k - 1) ≤ 64 ^ 2 := Nat.pow_le_pow_right (by decide) (by omega)
    omega
   have hc' : p[k].toNat - 128 < 64 := by simp [contB] at hc; omega
   refine dfit (by simp; omega) (by simp; omega) (dagain rfl ⟨(v * 64 + (p[k].toNat - 128), k + 1), ?_, ⟨?_, by simp, by simp; omega, ?_, fun j hj g1 g2 => ?_⟩, by simp; omega⟩)
   ·have e1 := or6d v (p[k].toNat - 128) hp32 hc'
    rw [← and63d _ hc] at e1
    have e2 := congrArg (fun d => O.den (.bor .i32) (O.den (.shl .i32) (.I (v : Int)) (.I 6)) (O.den (.band .u8) d (.I 63))) hb
    simp only [List.map_cons, List.map_nil]
    have e3 := e2.trans e1
    have e4 : (E.O .add (.V 2) (.I 1)).den ([bytesD p] ++ [.I (v : Int), .I (k : Int)]) = .I ((k + 1 : Nat) : Int) := by simp
    exact (congrArg (fun x => [x, _]) e3).trans (congrArg (fun y => [_, y]) e4)
   ·simp only
    rw [List.take_add_one, List.getElem?_eq_getElem hk, List.drop_append_of_le_length (by simp; omega), k0]
    simp [accL]
   ·simp only [Nat.add_sub_cancel]
    have : 64 ^ k = 64 ^ (k - 1) * 64 := by rw [← Nat.pow_succ]; congr 1; omega
    rw [this]; omega
   ·simp only at g2
    by_cases e : j = k
    ·subst e; exact hc
    ·exact k3 j hj g1 (by omega)
  ·rw [hd] at h1
   exact hno fun hall => h1 ((cont_iff _).2 (hall k hk k1))
 ·replace h : ¬ (k : Int) < n := h
  have : k = p.length := by omega
  subst this
  rw [List.take_length] at k0
  subst k0
  exact hX (fun j hj g1 => k3 j hj g1 hj) _
def wn (a : Nat) : Nat := if a < 224 then 2 else if a < 240 then 3 else 4
def wlo (a : Nat) : Int := if a < 224 then 128 else if a < 240 then 2048 else 65536
def w0 (a : Nat) : Nat := if a < 224 then a - 192 else if a < 240 then a - 224 else a - 240
theorem whole_sp {a : UInt8} {q : List UInt8} {rs : List DV} (ha : 192 ≤ a.toNat) (ha' : a.toNat < 248)
  (h1 : (a :: q).length = wn a.toNat → allC (a :: q) → rs = [.I (accL (w0 a.toNat) q : Nat), .B (decide (wlo a.toNat ≤ (accL (w0 a.toNat) q : Nat)) && mayR (accL (w0 a.toNat) q : Nat))])
  (h2 : ¬ ((a :: q).length = wn a.toNat ∧ allC (a :: q)) → rs = [.I 0, .B false]) : Spn n_r1_whole sg_r1_whole [bytesD (a :: q)] rs := by
 have hend : ∀ (lo : Int) (w : Nat) (cx : List (List DV → Prop)), w = accL (w0 a.toNat) q → lo = wlo a.toNat → (a :: q).length = wn a.toNat → allC (a :: q) →
   (Tree.br (.O .le (.I lo) (.V 1)) (.call n_r1_May [(.V 1)] 1 (.ret [(.V 1), (.V 3)])) (.ret [(.V 1), (.B false)])).den SpF1 (fun es => es = rs) [bytesD (a :: q), .I (w : Int), .I (a :: q).length] cx := by
  intro lo w cx hw hlo hl hall
  have hr := h1 hl hall
  rw [← hw, ← hlo] at hr
  refine dle (fun h => dcall (may_sp (w : Int)) rfl rfl rfl (dret ?_)) fun h => dret ?_
  ·replace h : lo ≤ (w : Int) := h
   rw [hr]; simp [h]
  ·replace h : ¬ lo ≤ (w : Int) := h
   rw [hr]; simp [h]
 have hat : (E.O (.at 0) (.V 0) (.I 0)).den [bytesD (a :: q)] = .I (a.toNat : Int) := by simp [bytesD, DV.rows]
 have hlen : (E.U .len (.V 0)).den [bytesD (a :: q)] = .I ((a :: q).length : Int) := by simp [bytesD, DV.rows]
 refine rd_r1_whole rfl (nlt (by rw [hlen]; simp) (dle (fun _ => dlt (fun g1 => ?_) fun g1 => dlt (fun g2 => ?_) fun g2 => dlt (fun g3 => ?_) fun g3 => ?_) fun g => ?_))
 ·rw [hat] at g1
  replace g1 : (a.toNat : Int) < 224 := g1
  have k1 : wn a.toNat = 2 := by unfold wn; rw [if_pos (by omega)]
  have k2 : wlo a.toNat = 128 := by unfold wlo; rw [if_pos (by omega)]
  have k3 : w0 a.toNat = a.toNat - 192 := by unfold w0; rw [if_pos (by omega)]
  refine deq (fun g => ?_) fun g => dret ?_
  ·rw [hlen] at g
   replace g : ((a :: q).length : Int) = 2 := g
   refine wholeLoop (n := 2) (v0 := a.toNat - 192) (by omega) (by omega) (by omega) ?_ (by omega) (fun hn => (h2 fun x => hn x.2).symm) fun hall cx => hend 128 _ cx ?_ k2.symm (by omega) hall
   ·exact (congrArg (fun d => O.den (.band .u8) d (.I 31)) hat).trans (and31d a ha (by omega))
   ·rw [k3]; rfl
  ·rw [hlen] at g
   replace g : ¬ ((a :: q).length : Int) = 2 := g
   exact (h2 fun x => by have := x.1; omega).symm
 ·rw [hat] at g1 g2
  replace g1 : ¬ (a.toNat : Int) < 224 := g1
  replace g2 : (a.toNat : Int) < 240 := g2
  have k1 : wn a.toNat = 3 := by unfold wn; rw [if_neg (by omega), if_pos (by omega)]
  have k2 : wlo a.toNat = 2048 := by unfold wlo; rw [if_neg (by omega), if_pos (by omega)]
  have k3 : w0 a.toNat = a.toNat - 224 := by unfold w0; rw [if_neg (by omega), if_pos (by omega)]
  refine deq (fun g => ?_) fun g => dret ?_
  ·rw [hlen] at g
   replace g : ((a :: q).length : Int) = 3 := g
   refine wholeLoop (n := 3) (v0 := a.toNat - 224) (by omega) (by omega) (by omega) ?_ (by omega) (fun hn => (h2 fun x => hn x.2).symm) fun hall cx => hend 2048 _ cx ?_ k2.symm (by omega) hall
   ·exact (congrArg (fun d => O.den (.band .u8) d (.I 15)) hat).trans (and15d a (by omega) (by omega))
   ·rw [k3]; rfl
  ·rw [hlen] at g
   replace g : ¬ ((a :: q).length : Int) = 3 := g
   exact (h2 fun x => by have := x.1; omega).symm
 ·rw [hat] at g1 g2 g3
  replace g1 : ¬ (a.toNat : Int) < 224 := g1
  replace g2 : ¬ (a.toNat : Int) < 240 := g2
  replace g3 : (a.toNat : Int) < 248 := g3
  have k1 : wn a.toNat = 4 := by unfold wn; rw [if_neg (by omega), if_neg (by omega)]
  have k2 : wlo a.toNat = 65536 := by unfold wlo; rw [if_neg (by omega), if_neg (by omega)]
  have k3 : w0 a.toNat = a.toNat - 240 := by unfold w0; rw [if_neg (by omega), if_neg (by omega)]
  refine deq (fun g => ?_) fun g => dret ?_
  ·rw [hlen] at g
   replace g : ((a :: q).length : Int) = 4 := g
   refine wholeLoop (n := 4) (v0 := a.toNat - 240) (by omega) (by omega) (by omega) ?_ (by omega) (fun hn => (h2 fun x => hn x.2).symm) fun hall cx => hend 65536 _ cx ?_ k2.symm (by omega) hall
   ·exact (congrArg (fun d => O.den (.band .u8) d (.I 7)) hat).trans (and7d a (by omega) (by omega))
   ·rw [k3]; rfl
  ·rw [hlen] at g
   replace g : ¬ ((a :: q).length : Int) = 4 := g
   exact (h2 fun x => by have := x.1; omega).symm
 ·rw [hat] at g3
  replace g3 : ¬ (a.toNat : Int) < 248 := g3
  omega
 ·rw [hat] at g
  replace g : ¬ (192 : Int) ≤ a.toNat := g
  omega
theorem mayR_yes {r : Nat} (h1 : r ≤ 1114111) (h2 : r < 55296 ∨ 57343 < r) : mayR (r : Int) = true := by simp [mayR]; omega
theorem wholeB2 (a b : UInt8) (h : 194 ≤ a.toNat) : wholeL [a, b] = if a.toNat < 224 ∧ contB b = true then some ((a.toNat - 192) * 64 + (b.toNat - 128)) else none := by simp [wholeL, h]
theorem wholeB3 (a b c : UInt8) (h : 224 ≤ a.toNat) (hs : secB a b = true) : wholeL [a, b, c] = if a.toNat < 240 ∧ contB c = true then some ((a.toNat - 224) * 4096 + (b.toNat - 128) * 64 + (c.toNat - 128)) else none := by simp [wholeL, h, hs]
theorem wholeB4 (a b c d : UInt8) (h : 240 ≤ a.toNat) (h' : a.toNat ≤ 244) (hs : secB a b = true) (hc : contB c = true) : wholeL [a, b, c, d] = if contB d = true then some ((a.toNat - 240) * 262144 + (b.toNat - 128) * 4096 + (c.toNat - 128) * 64 + (d.toNat - 128)) else none := by simp [wholeL, h, h', hs, hc]
theorem contB_of {b : UInt8} (h : contB b = true) : 128 ≤ b.toNat ∧ b.toNat < 192 := by simpa [contB] using h
theorem secB_contB {a b : UInt8} (h : secB a b = true) : contB b = true := by
 have := (bS a b).1 h
 simp [contB]; omega
theorem allC2 (a b : UInt8) : allC [a, b] ↔ contB b = true := ⟨fun h => h 1 (by simp) (Nat.le_refl _), fun h j hj h1 => by
  obtain rfl : j = 1 := by simp at hj; omega
  exact h⟩
theorem allC3 (a b c : UInt8) : allC [a, b, c] ↔ contB b = true ∧ contB c = true := ⟨fun h => ⟨h 1 (by simp) (Nat.le_refl _), h 2 (by simp) (by omega)⟩, fun h j hj h1 => by
  have : j = 1 ∨ j = 2 := by simp at hj; omega
  rcases this with rfl | rfl
  · exact h.1
  · exact h.2⟩
theorem allC4 (a b c d : UInt8) : allC [a, b, c, d] ↔ contB b = true ∧ contB c = true ∧ contB d = true := ⟨fun h => ⟨h 1 (by simp) (Nat.le_refl _), h 2 (by simp) (by omega), h 3 (by simp) (by omega)⟩, fun h j hj h1 => by
  have : j = 1 ∨ j = 2 ∨ j = 3 := by simp at hj; omega
  rcases this with rfl | rfl | rfl
  · exact h.1
  · exact h.2.1
  · exact h.2.2⟩
theorem whole_begins {p : List UInt8} (b : UInt8) (h : beginsL p = true) : ∃ r : Int, Spn n_r1_whole sg_r1_whole [bytesD (p ++ [b])] [.I r, .B (wholeL (p ++ [b])).isSome] ∧ ∀ r', wholeL (p ++ [b]) = some r' → r = (r' : Int) := by
 match p, h with
 | [a], h =>
  obtain ⟨h1, h2⟩ := (b1 a).1 h
  by_cases g : a.toNat < 224 ∧ contB b = true
  ·have hw : wholeL ([a] ++ [b]) = some ((a.toNat - 192) * 64 + (b.toNat - 128)) := by rw [List.singleton_append, wholeB2 a b h1, if_pos g]
   have hb := contB_of g.2
   have k2 : wlo a.toNat = 128 := by unfold wlo; rw [if_pos g.1]
   have k3 : accL (w0 a.toNat) [b] = (a.toNat - 192) * 64 + (b.toNat - 128) := by unfold w0; rw [if_pos g.1]; rfl
   refine ⟨((a.toNat - 192) * 64 + (b.toNat - 128) : Nat), ?_, fun r' hr => by rw [hw] at hr; injection hr with hr; rw [hr]⟩
   rw [hw]
   refine whole_sp (q := [b]) (by omega) (by omega) (fun _ _ => ?_) fun hn => absurd ⟨by unfold wn; rw [if_pos g.1]; rfl, (allC2 a b).2 g.2⟩ hn
   rw [k2, k3, mayR_yes (by omega) (by omega), Bool.and_true, decide_eq_true (by omega)]; rfl
  ·have hw : wholeL ([a] ++ [b]) = none := by rw [List.singleton_append, wholeB2 a b h1, if_neg g]
   refine ⟨0, ?_, fun r' hr => by rw [hw] at hr; cases hr⟩
   rw [hw]
   refine whole_sp (q := [b]) (by omega) (by omega) (fun hl hc => ?_) fun _ => rfl
   refine absurd ⟨?_, (allC2 a b).1 hc⟩ g
   unfold wn at hl
   split at hl
   ·assumption
   ·split at hl <;> simp at hl
 | [a, c], h =>
  obtain ⟨⟨h1, h2⟩, hs⟩ := (b2 a c).1 h
  have hc := contB_of (secB_contB hs)
  have hS := (bS a c).1 hs
  by_cases g : a.toNat < 240 ∧ contB b = true
  ·have hw : wholeL ([a, c] ++ [b]) = some ((a.toNat - 224) * 4096 + (c.toNat - 128) * 64 + (b.toNat - 128)) := by rw [List.cons_append, List.singleton_append, wholeB3 a c b h1 hs, if_pos g]
   have hb := contB_of g.2
   have k2 : wlo a.toNat = 2048 := by unfold wlo; rw [if_neg (by omega), if_pos g.1]
   have k3 : accL (w0 a.toNat) [c, b] = (a.toNat - 224) * 4096 + (c.toNat - 128) * 64 + (b.toNat - 128) := by
    unfold w0; rw [if_neg (by omega), if_pos g.1]
    show ((a.toNat - 224) * 64 + (c.toNat - 128)) * 64 + (b.toNat - 128) = _
    omega
   refine ⟨((a.toNat - 224) * 4096 + (c.toNat - 128) * 64 + (b.toNat - 128) : Nat), ?_, fun r' hr => by rw [hw] at hr; injection hr with hr; rw [hr]⟩
   rw [hw]
   refine whole_sp (q := [c, b]) (by omega) (by omega) (fun _ _ => ?_) fun hn => absurd ⟨by unfold wn; rw [if_neg (by omega), if_pos g.1]; rfl, (allC3 a c b).2 ⟨secB_contB hs, g.2⟩⟩ hn
   rw [k2, k3, mayR_yes (by omega) (by omega), Bool.and_true, decide_eq_true (by omega)]; rfl
  ·have hw : wholeL ([a, c] ++ [b]) = none := by rw [List.cons_append, List.singleton_append, wholeB3 a c b h1 hs, if_neg g]
   refine ⟨0, ?_, fun r' hr => by rw [hw] at hr; cases hr⟩
   rw [hw]
   refine whole_sp (q := [c, b]) (by omega) (by omega) (fun hl hc => ?_) fun _ => rfl
   refine absurd ⟨?_, ((allC3 a c b).1 hc).2⟩ g
   unfold wn at hl
   rw [if_neg (by omega)] at hl
   split at hl
   ·assumption
   ·simp at hl
 | [a, c, d], h =>
  obtain ⟨⟨⟨h1, h2⟩, hs⟩, hd⟩ := (b3 a c d).1 h
  have hc := contB_of (secB_contB hs)
  have hd' := contB_of hd
  have hS := (bS a c).1 hs
  by_cases g : contB b = true
  ·have hw : wholeL ([a, c, d] ++ [b]) = some ((a.toNat - 240) * 262144 + (c.toNat - 128) * 4096 + (d.toNat - 128) * 64 + (b.toNat - 128)) := by rw [List.cons_append, List.cons_append, List.singleton_append, wholeB4 a c d b h1 h2 hs hd, if_pos g]
   have hb := contB_of g
   have k2 : wlo a.toNat = 65536 := by unfold wlo; rw [if_neg (by omega), if_neg (by omega)]
   have k3 : accL (w0 a.toNat) [c, d, b] = (a.toNat - 240) * 262144 + (c.toNat - 128) * 4096 + (d.toNat - 128) * 64 + (b.toNat - 128) := by
    unfold w0; rw [if_neg (by omega), if_neg (by omega)]
    show (((a.toNat - 240) * 64 + (c.toNat - 128)) * 64 + (d.toNat - 128)) * 64 + (b.toNat - 128) = _
    omega
   refine ⟨((a.toNat - 240) * 262144 + (c.toNat - 128) * 4096 + (d.toNat - 128) * 64 + (b.toNat - 128) : Nat), ?_, fun r' hr => by rw [hw] at hr; injection hr with hr; rw [hr]⟩
   rw [hw]
   refine whole_sp (q := [c, d, b]) (by omega) (by omega) (fun _ _ => ?_) fun hn => absurd ⟨by unfold wn; rw [if_neg (by omega), if_neg (by omega)]; rfl, (allC4 a c d b).2 ⟨secB_contB hs, hd, g⟩⟩ hn
   rw [k2, k3, mayR_yes (by omega) (by omega), Bool.and_true, decide_eq_true (by omega)]; rfl
  ·have hw : wholeL ([a, c, d] ++ [b]) = none := by rw [List.cons_append, List.cons_append, List.singleton_append, wholeB4 a c d b h1 h2 hs hd, if_neg g]
   refine ⟨0, ?_, fun r' hr => by rw [hw] at hr; cases hr⟩
   rw [hw]
   exact whole_sp (q := [c, d, b]) (by omega) (by omega) (fun hl hc => absurd ((allC4 a c d b).1 hc).2.2 g) fun _ => rfl
def runesD (l : List Nat) : DV := .L (l.map fun r : Nat => [DV.I (r : Int)])
theorem le40 {x : Int} {n : Nat} (h : x = n) (hn : n ≤ 1000000000) : x ≤ 1099511627776 := by
 subst h
 exact Int.le_trans (Int.ofNat_le.2 hn) (by decide)
theorem uStep_sp (p : List UInt8) (b : UInt8) (hp : p.length ≤ 900) : Spn n_r1_Step sg_r1_Step [bytesD p, .I (b.toNat : Int)] [bytesD (stepL p b).1, runesD (stepL p b).2] := by
 by_cases hb : beginsL p = true
 ·have hl := beginsL_len p hb
  obtain ⟨r, hw, hr⟩ := whole_begins b hb
  refine rd_r1_Step rfl (dlt (fun _ => dcall (Begins_sp p (by omega)) rfl rfl rfl (dtrue hb (nle (le40 (n := p.length) (by simp [bytesD, DV.rows]) (by omega)) (nle (le40 (n := p.length + 1) (by simp [bytesD, DV.rows]) (by omega)) (dcall hw rfl (by simp [bytesD, DV.rows]) rfl ?_))))) fun g => absurd (show (0 : Int) < p.length by omega) (by simpa [bytesD, DV.rows] using g))
  cases hv : wholeL (p ++ [b]) with
  | some r' =>
   have hst : stepL p b = ([], [r']) := by simp [stepL, hb, hv]
   have := hr r' hv
   subst this
   exact dtrue rfl (dret (by rw [hst]; simp [runesD, bytesD]))
  | none =>
   refine dfalse rfl (dcall (Begins_sp (p ++ [b]) (by simp; omega)) rfl (by simp [bytesD, DV.rows]) rfl (dbr (fun h5 => dret ?_) fun h5 => ?_))
   ·replace h5 : beginsL (p ++ [b]) = true := h5
    have hst : stepL p b = (p ++ [b], []) := by simp [stepL, hb, hv, h5]
    rw [hst]; simp [runesD, bytesD, DV.rows]
   ·replace h5 : beginsL (p ++ [b]) = false := h5
    have hst : stepL p b = firstL b [65533] := by simp [stepL, hb, hv, h5]
    exact dneed (by simp) (dlt (fun g => dneed (by simp [runesD]) (dret (by
    replace g : (b.toNat : Int) < 128 := g
    rw [hst]; simp [firstL, runesD, bytesD, show b.toNat < 128 by omega]))) fun g => dcall (Begins_sp [b] (by simp)) rfl (by simp [bytesD]) rfl (dbr (fun h5 => dret (by
    replace g : ¬ (b.toNat : Int) < 128 := g
    replace h5 : beginsL [b] = true := h5
    rw [hst]; simp [firstL, h5, runesD, bytesD, show ¬ b.toNat < 128 by omega])) fun h5 => dneed (by simp) (dret (by
    replace g : ¬ (b.toNat : Int) < 128 := g
    replace h5 : beginsL [b] = false := h5
    rw [hst]; simp [firstL, h5, runesD, bytesD, show ¬ b.toNat < 128 by omega]))))
 ·have hst : stepL p b = firstL b [] := by simp [stepL, hb]
  have hb' : beginsL p = false := by simpa using hb
  refine rd_r1_Step rfl (dlt (fun _ => dcall (Begins_sp p (by omega)) rfl rfl rfl (dfalse hb' ?_)) fun g => ?_)
  ·exact dlt (fun g => dneed (by simp [runesD]) (dret (by
 replace g : (b.toNat : Int) < 128 := g
 rw [hst]; simp [firstL, runesD, bytesD, show b.toNat < 128 by omega]))) fun g => dcall (Begins_sp [b] (by simp)) rfl (by simp [bytesD]) rfl (dbr (fun h5 => dret (by
 replace g : ¬ (b.toNat : Int) < 128 := g
 replace h5 : beginsL [b] = true := h5
 rw [hst]; simp [firstL, h5, runesD, bytesD, show ¬ b.toNat < 128 by omega])) fun h5 => dneed (by simp) (dret (by
 replace g : ¬ (b.toNat : Int) < 128 := g
 replace h5 : beginsL [b] = false := h5
 rw [hst]; simp [firstL, h5, runesD, bytesD, show ¬ b.toNat < 128 by omega])))
  ·exact dlt (fun g => dneed (by simp [runesD]) (dret (by
 replace g : (b.toNat : Int) < 128 := g
 rw [hst]; simp [firstL, runesD, bytesD, show b.toNat < 128 by omega]))) fun g => dcall (Begins_sp [b] (by simp)) rfl (by simp [bytesD]) rfl (dbr (fun h5 => dret (by
 replace g : ¬ (b.toNat : Int) < 128 := g
 replace h5 : beginsL [b] = true := h5
 rw [hst]; simp [firstL, h5, runesD, bytesD, show ¬ b.toNat < 128 by omega])) fun h5 => dneed (by simp) (dret (by
 replace g : ¬ (b.toNat : Int) < 128 := g
 replace h5 : beginsL [b] = false := h5
 rw [hst]; simp [firstL, h5, runesD, bytesD, show ¬ b.toNat < 128 by omega])))
end
section
attribute [local simp] E.den O.den U.den vs dv_I dv_B dv_L dv_R DV.row
def acD (a : Ac) : List DV := [.I a.kind, .I a.r, .I a.b, .I a.priv, intsD a.params, bytesD a.inter]
def actsD (l : List Ac) : DV := .L (l.map acD)
theorem inter_sp (b : UInt8) : Spn n_r7_inter sg_r7_inter [.I b.toNat] [.B (interB b)] := by
 unfold interB
 refine rd_r7_inter rfl (dle (fun h1 => dret ?_) fun h1 => dret ?_)
 ·replace h1 : (32 : Int) ≤ b.toNat := h1
  have : 32 ≤ b.toNat := by omega
  simp [this]; omega
 ·replace h1 : ¬ (32 : Int) ≤ b.toNat := h1
  have : ¬ 32 ≤ b.toNat := by omega
  simp [this]
theorem with_sp (l : List UInt8) (b : UInt8) (hl : l.length ≤ 1048576) : Spn n_r7_with sg_r7_with [bytesD l, .I b.toNat] [bytesD (l ++ [b])] := by
 refine rd_r7_with rfl (nle (le40 (n := l.length) (by simp [bytesD, DV.rows]) (by omega)) (nle (le40 (n := l.length + 1) (by simp [bytesD, DV.rows]) (by omega)) (dret ?_)))
 simp [bytesD, DV.rows]
theorem formed_sp (p : List UInt8) (b : UInt8) : Spn n_r7_formed sg_r7_formed [bytesD p, .I b.toNat] [.B (formedB p b)] := by
 have hb : ∀ (x : UInt8) (n : Nat) (h : n < 256), (x == UInt8.ofNat n) = decide (x.toNat = n) := by
  intro x n h
  have h1 : (UInt8.ofNat n).toNat = n := by simp; omega
  by_cases e : x.toNat = n
  ·rw [decide_eq_true e, beq_iff_eq]
   exact UInt8.toNat_inj.1 (by rw [h1, e])
  ·rw [decide_eq_false e]
   simp only [beq_eq_false_iff_ne, ne_eq]
   exact fun h => e (by rw [h, h1])
 have h239 := fun x => hb x 239 (by omega)
 have h191 := fun x => hb x 191 (by omega)
 have h189 := fun x => hb x 189 (by omega)
 match p with
 | [] => exact rd_r7_formed rfl (deq (fun h1 => absurd h1 (by simp [bytesD, DV.rows])) fun _ => dret rfl)
 | [x] => exact rd_r7_formed rfl (deq (fun h1 => absurd h1 (by simp [bytesD, DV.rows])) fun _ => dret (by simp [formedB]))
 | x :: y :: z :: t => exact rd_r7_formed rfl (deq (fun h1 => absurd h1 (by simp [bytesD, DV.rows]; omega)) fun _ => dret (by simp [formedB]))
 | [x, y] =>
  have e : formedB [x, y] b = (decide (x.toNat = 239) && decide (y.toNat = 191) && decide (b.toNat = 189)) := by
   unfold formedB
   rw [← h239, ← h191, ← h189]
   simp [List.cons_beq_cons]
  rw [e]
  refine rd_r7_formed rfl (deq (fun h1 => deq (fun h2 => deq (fun h3 => dret ?_) fun h3 => dret ?_) fun h2 => dret ?_) fun h1 => absurd (by simp [bytesD, DV.rows]) h1)
  ·simp [bytesD, DV.rows] at h2 h3
   simp [show x.toNat = 239 by omega, show y.toNat = 191 by omega]; omega
  ·simp [bytesD, DV.rows] at h3
   simp [show ¬ y.toNat = 191 by omega]
  ·simp [bytesD, DV.rows] at h2
   simp [show ¬ x.toNat = 239 by omega]
theorem prints_sp (l : List Nat) (hl : l.length ≤ 1048576) : Spn n_r7_prints sg_r7_prints [runesD l] [actsD (printsL l)] := by
 refine rd_r7_prints rfl (dloop (fun k : Nat => [actsD (printsL (l.take k)), .I k]) (fun k => k ≤ l.length) (fun k => l.length - k) 0 rfl (Nat.zero_le _) fun k hk _ => ?_)
 refine dlt (fun h => ?_) fun h => ?_
 ·simp [runesD, DV.rows] at h
  refine nle (by simp) (nle (le40 (n := k + 1) (by simp [actsD, printsL, DV.rows]; omega) (by omega)) (dfit (by simp; omega) (by simp; omega) (dagain rfl ⟨k + 1, ?_, by omega, by omega⟩)))
  have key : printsL (l.take (k + 1)) = printsL (l.take k) ++ [acP (Int.ofNat l[k])] := by
   rw [List.take_add_one, List.getElem?_eq_getElem h, printsL, List.map_append]; rfl
  rw [key]
  generalize printsL (l.take k) = A
  simp [actsD, acD, acP, intsD, bytesD, runesD, DV.rows, List.getElem?_eq_getElem h]
 ·simp [runesD, DV.rows] at h
  have : k = l.length := by omega
  subst this
  rw [List.take_length]
  exact dret rfl
theorem digD {x : E} {l : List Int} {b : UInt8} {env : List DV} {n : Nat} (hx : x.den env = intsD l) (hb : env[n]? = some (.I (b.toNat : Int))) (hl : 1 ≤ l.length) (h1 : 48 ≤ b.toNat) (h2 : b.toNat < 58) :
  (E.P x (.O .sub (.U .len x) (.I 1)) (.O .cns .R (.O .min (.O .add (.O .mul (.I 10) (.O (.at 0) x (.O .sub (.U .len x) (.I 1)))) (.U (.wrap .u8) (.O .sub (.V n) (.I 48)))) (.I 65535)))).den env = intsD (digP l b.toNat) := by
 have e1 : ((E.U .len x).den env).int = l.length := by simp [hx, intsD, DV.rows]
 have e2 : IntKind.u8.wrap ((b.toNat : Int) - 48) = (b.toNat : Int) - 48 := by rw [IntKind.wrap_u8]; omega
 have e3 : (E.O .sub (.U .len x) (.I 1)).den env = .I ((l.length - 1 : Nat) : Int) := by
  simp [hx, intsD, DV.rows]; omega
 have e4 : (E.O (.at 0) x (.O .sub (.U .len x) (.I 1))).den env = .I (l.getD (l.length - 1) 0) := by
  have hlt : l.length - 1 < l.length := by omega
  have : (E.O (.at 0) x (.O .sub (.U .len x) (.I 1))).den env = O.den (.at 0) (x.den env) ((E.O .sub (.U .len x) (.I 1)).den env) := rfl
  rw [this, e3, hx]
  simp [intsD, DV.rows, List.getElem?_eq_getElem hlt]
 have e5 : (E.V n).den env = .I (b.toNat : Int) := by simp [hb]
 have e6 : (E.O .min (.O .add (.O .mul (.I 10) (.O (.at 0) x (.O .sub (.U .len x) (.I 1)))) (.U (.wrap .u8) (.O .sub (.V n) (.I 48)))) (.I 65535)).den env = .I (min (10 * l.getD (l.length - 1) 0 + ((b.toNat : Int) - 48)) 65535) := by
  have hm : ∀ A : Int, (if (65535 : Int) < A then 65535 else A) = min A 65535 := fun A => by rw [Int.min_def]; split <;> split <;> omega
  have e8 : (E.O .add (.O .mul (.I 10) (.O (.at 0) x (.O .sub (.U .len x) (.I 1)))) (.U (.wrap .u8) (.O .sub (.V n) (.I 48)))).den env = .I (10 * l.getD (l.length - 1) 0 + ((b.toNat : Int) - 48)) := by
   have : (E.O .add (.O .mul (.I 10) (.O (.at 0) x (.O .sub (.U .len x) (.I 1)))) (.U (.wrap .u8) (.O .sub (.V n) (.I 48)))).den env = .I (10 * ((E.O (.at 0) x (.O .sub (.U .len x) (.I 1))).den env).int + IntKind.u8.wrap (((E.V n).den env).int - 48)) := rfl
   rw [this, e4, e5]
   exact congrArg (fun d => DV.I (10 * l.getD (l.length - 1) 0 + d)) e2
  rw [← hm]
  exact congrArg (fun d => O.den .min d (.I 65535)) e8
 have : ∀ i r : E, (E.P x i r).den env = .L ((x.den env).rows.set (i.den env).int.toNat (r.den env).row) := fun _ _ => rfl
 rw [this, hx, e3]
 have e7 : ((E.O .cns .R (.O .min (.O .add (.O .mul (.I 10) (.O (.at 0) x (.O .sub (.U .len x) (.I 1)))) (.U (.wrap .u8) (.O .sub (.V n) (.I 48)))) (.I 65535))).den env).row = [.I (min (10 * l.getD (l.length - 1) 0 + ((b.toNat : Int) - 48)) 65535)] := by
  rw [← e6]; simp [DV.row]
 rw [e7]
 simp [intsD, digP, DV.rows, List.map_set]
theorem digAt {x : E} {l : List Int} {env : List DV} (hx : x.den env = intsD l) (hl : 1 ≤ l.length) : ((E.O (.at 0) x (.O .sub (.U .len x) (.I 1))).den env).int = l.getD (l.length - 1) 0 := by
 have hlt : l.length - 1 < l.length := by omega
 have e3 : (E.O .sub (.U .len x) (.I 1)).den env = .I ((l.length - 1 : Nat) : Int) := by
  simp [hx, intsD, DV.rows]; omega
 have : (E.O (.at 0) x (.O .sub (.U .len x) (.I 1))).den env = O.den (.at 0) (x.den env) ((E.O .sub (.U .len x) (.I 1)).den env) := rfl
 rw [this, e3, hx]
 simp [intsD, DV.rows, List.getElem?_eq_getElem hlt]
def prA (q : Pr) (l : List Ac) : List DV := [.I q.mode, .I q.priv, intsD q.params, bytesD q.inter, bytesD q.utf, actsD l]
theorem digTail {x : E} {l : List Int} {p : Pr} {b : UInt8} {i : Bool} {R : Pr × List Ac} {cx : List (List DV → Prop)} (hx : x.den [.I p.mode, .I p.priv, intsD p.params, bytesD p.inter, bytesD p.utf, .I b.toNat, .B i] = intsD l) (hl : 1 ≤ l.length) (hl' : l.length ≤ 20)
  (he : ∀ v ∈ l, 0 ≤ v ∧ v ≤ 65535) (h48 : 48 ≤ b.toNat) (h60 : b.toNat < 60) (h58 : b.toNat ≠ 58)
  (hR : R = if b.toNat = 59 then (if 16 ≤ l.length then (prM 6, []) else ({ p with params := l ++ [0] }, [])) else ({ p with params := digP l b.toNat }, [])) :
  (Tree.br (.O .eq (.V 5) (.I 59)) (.br (.O .le (.I 16) (.U .len x)) (.ret [(.I 6), (.I 0), .N, .N, .N, .N]) (.need (.O .le (.O .add (.U .len x) (.U .len (.O .app .N (.U .one (.O .cns .R (.I 0)))))) (.I 1099511627776)) (.ret [(.V 0), (.V 1), (.O .app x (.O .app .N (.U .one (.O .cns .R (.I 0))))), (.V 3), (.V 4), .N]))) (.need (.U (.fit .i64) (.O .sub (.U .len x) (.I 1))) (.need (.O .and (.O .le (.I 0) (.O .sub (.U .len x) (.I 1))) (.O .lt (.O .sub (.U .len x) (.I 1)) (.U .len x))) (.need (.U (.fit .i64) (.O .mul (.I 10) (.O (.at 0) x (.O .sub (.U .len x) (.I 1))))) (.need (.U (.fit .i64) (.O .add (.O .mul (.I 10) (.O (.at 0) x (.O .sub (.U .len x) (.I 1)))) (.U (.wrap .u8) (.O .sub (.V 5) (.I 48))))) (.ret [(.V 0), (.V 1), (.P x (.O .sub (.U .len x) (.I 1)) (.O .cns .R (.O .min (.O .add (.O .mul (.I 10) (.O (.at 0) x (.O .sub (.U .len x) (.I 1)))) (.U (.wrap .u8) (.O .sub (.V 5) (.I 48)))) (.I 65535)))), (.V 3), (.V 4), .N])))))).den SpF1 (fun es => es = prA R.1 R.2) [.I p.mode, .I p.priv, intsD p.params, bytesD p.inter, bytesD p.utf, .I b.toNat, .B i] cx := by
 have hlen : ((E.U .len x).den [.I p.mode, .I p.priv, intsD p.params, bytesD p.inter, bytesD p.utf, .I b.toNat, .B i]).int = l.length := by
  have : (E.U .len x).den [.I p.mode, .I p.priv, intsD p.params, bytesD p.inter, bytesD p.utf, .I b.toNat, .B i] = U.den .len (x.den [.I p.mode, .I p.priv, intsD p.params, bytesD p.inter, bytesD p.utf, .I b.toNat, .B i]) := rfl
  rw [this, hx]; simp [intsD, DV.rows]
 have hat := digAt hx hl
 have hm : 0 ≤ l.getD (l.length - 1) 0 ∧ l.getD (l.length - 1) 0 ≤ 65535 := by
  have hlt : l.length - 1 < l.length := by omega
  have := he (l[l.length - 1]) (List.getElem_mem hlt)
  simpa [List.getD, List.getElem?_eq_getElem hlt] using this
 generalize hM : l.getD (l.length - 1) 0 = M at hat hm
 refine deq (fun g => dle (fun g2 => dret ?_) fun g2 => nle (le40 (n := l.length + 1) ?_ (by omega)) (dret ?_)) fun g => ?_
 ·replace g : (b.toNat : Int) = 59 := g
  rw [hlen] at g2
  replace g2 : (16 : Int) ≤ l.length := g2
  have : R = (prM 6, []) := by rw [hR, if_pos (by omega), if_pos (by omega)]
  rw [this]; rfl
 ·exact congrArg (· + 1) hlen
 ·replace g : (b.toNat : Int) = 59 := g
  rw [hlen] at g2
  replace g2 : ¬ (16 : Int) ≤ l.length := g2
  have : R = ({ p with params := l ++ [0] }, []) := by rw [hR, if_pos (by omega), if_neg (by omega)]
  rw [this]
  have hd : (E.O .app x (.O .app .N (.U .one (.O .cns .R (.I 0))))).den [.I p.mode, .I p.priv, intsD p.params, bytesD p.inter, bytesD p.utf, .I b.toNat, .B i] = intsD (l ++ [0]) := by
   have : (E.O .app x (.O .app .N (.U .one (.O .cns .R (.I 0))))).den [.I p.mode, .I p.priv, intsD p.params, bytesD p.inter, bytesD p.utf, .I b.toNat, .B i] = O.den .app (x.den [.I p.mode, .I p.priv, intsD p.params, bytesD p.inter, bytesD p.utf, .I b.toNat, .B i]) (.L [[.I 0]]) := rfl
   rw [this, hx]; simp [intsD, DV.rows]
  exact congrArg (fun d => [DV.I p.mode, DV.I p.priv, d, bytesD p.inter, bytesD p.utf, DV.L []]) hd
 ·replace g : ¬ (b.toNat : Int) = 59 := g
  have h1 : ((E.O .sub (.U .len x) (.I 1)).den [.I p.mode, .I p.priv, intsD p.params, bytesD p.inter, bytesD p.utf, .I b.toNat, .B i]).int = (l.length : Int) - 1 := congrArg (· - 1) hlen
  have h2 : ((E.O .mul (.I 10) (.O (.at 0) x (.O .sub (.U .len x) (.I 1)))).den [.I p.mode, .I p.priv, intsD p.params, bytesD p.inter, bytesD p.utf, .I b.toNat, .B i]).int = 10 * M := congrArg (10 * ·) hat
  have h3 : ((E.O .add (.O .mul (.I 10) (.O (.at 0) x (.O .sub (.U .len x) (.I 1)))) (.U (.wrap .u8) (.O .sub (.V 5) (.I 48)))).den [.I p.mode, .I p.priv, intsD p.params, bytesD p.inter, bytesD p.utf, .I b.toNat, .B i]).int = 10 * M + IntKind.u8.wrap ((b.toNat : Int) - 48) := congrArg (· + IntKind.u8.wrap ((b.toNat : Int) - 48)) h2
  have hw : IntKind.u8.wrap ((b.toNat : Int) - 48) = (b.toNat : Int) - 48 := by rw [IntKind.wrap_u8]; omega
  rw [hw] at h3
  refine dfit (by rw [h1]; omega) (by rw [h1]; omega) (dwithin (by rw [h1]; omega) (by rw [h1, hlen]; omega) (dfit (by rw [h2]; omega) (by rw [h2]; omega) (dfit (by rw [h3]; omega) (by rw [h3]; omega) (dret ?_))))
  have : R = ({ p with params := digP l b.toNat }, []) := by rw [hR, if_neg (by omega)]
  rw [this]
  have hd := digD (n := 5) hx rfl hl h48 (show b.toNat < 58 by omega)
  exact congrArg (fun d => [DV.I p.mode, DV.I p.priv, d, bytesD p.inter, bytesD p.utf, DV.L []]) hd
theorem csi_sp (p : Pr) (b : UInt8) (h : PrOk p) (hb : 32 ≤ b.toNat) : Spn n_r7_csi sg_r7_csi [.I p.mode, .I p.priv, intsD p.params, bytesD p.inter, bytesD p.utf, .I b.toNat] (prA (csiL p b).1 (csiL p b).2) := by
 have hpl := h.params
 refine rd_r7_csi rfl (dle (fun g1 => dret ?_) fun g1 => dcall (inter_sp b) rfl rfl rfl (dbr (fun g2 => dle (fun g3 => dret ?_) fun g3 => dcall (with_sp p.inter b (by have := h.inter; omega)) rfl rfl rfl (dret ?_)) fun g2 => deq (fun g3 => dret ?_) fun g3 => deq (fun g4 => dret ?_) fun g4 => dle (fun g5 => dlt (fun g6 => dret ?_) fun g6 => deq (fun g7 => dret ?_) fun g7 => dret ?_) fun g5 => nle (le40 (n := p.params.length) (by simp [intsD, DV.rows]) (by omega)) (deq (fun g6 => nle (le40 (n := p.params.length + 1) (by simp [intsD, DV.rows]) (by omega)) (digTail (l := oneP p.params) ?_ ?_ ?_ ?_ ?_ ?_ ?_ ?_)) fun g6 => digTail (l := oneP p.params) ?_ ?_ ?_ ?_ ?_ ?_ ?_ ?_)))
 ·replace g1 : (64 : Int) ≤ b.toNat := g1
  have : csiL p b = (prM 0, [acS p b.toNat]) := by unfold csiL; rw [if_pos (by omega)]
  rw [this]
  simp [prA, prM, acS, actsD, acD, intsD, bytesD, DV.rows]
 ·replace g1 : ¬ (64 : Int) ≤ b.toNat := g1
  replace g2 : interB b = true := g2
  simp [bytesD, DV.rows] at g3
  have : csiL p b = (prM 6, []) := by unfold csiL; rw [if_neg (by omega), if_pos g2, if_pos (by omega)]
  rw [this]; rfl
 ·replace g1 : ¬ (64 : Int) ≤ b.toNat := g1
  replace g2 : interB b = true := g2
  simp [bytesD, DV.rows] at g3
  have : csiL p b = ({ p with mode := 5, inter := p.inter ++ [b] }, []) := by unfold csiL; rw [if_neg (by omega), if_pos g2, if_neg (by omega)]
  rw [this]; rfl
 all_goals replace g1 : ¬ (64 : Int) ≤ b.toNat := g1
 all_goals replace g2 : interB b = false := g2
 all_goals replace g2 : ¬ interB b = true := by rw [g2]; simp
 ·replace g3 : (p.mode : Int) = 5 := g3
  have : csiL p b = (prM 6, []) := by unfold csiL; rw [if_neg (by omega), if_neg g2, if_pos (by omega)]
  rw [this]; rfl
 all_goals replace g3 : ¬ (p.mode : Int) = 5 := g3
 ·replace g4 : (b.toNat : Int) = 58 := g4
  have : csiL p b = (prM 6, []) := by unfold csiL; rw [if_neg (by omega), if_neg g2, if_pos (by omega)]
  rw [this]; rfl
 all_goals replace g4 : ¬ (b.toNat : Int) = 58 := g4
 ·replace g5 : (60 : Int) ≤ b.toNat := g5
  simp [intsD, DV.rows] at g6
  have g6' : 0 < p.params.length := g6
  have : csiL p b = (prM 6, []) := by unfold csiL; rw [if_neg (by omega), if_neg g2, if_neg (by omega), if_pos (by omega), if_pos (.inl g6')]
  rw [this]; rfl
 ·replace g5 : (60 : Int) ≤ b.toNat := g5
  replace g7 : (p.priv : Int) = 0 := g7
  simp [intsD, DV.rows] at g6
  have : csiL p b = ({ p with priv := b.toNat }, []) := by unfold csiL; rw [if_neg (by omega), if_neg g2, if_neg (by omega), if_pos (by omega), if_neg (by simp [g6]; omega)]
  rw [this]; rfl
 ·replace g5 : (60 : Int) ≤ b.toNat := g5
  replace g7 : ¬ (p.priv : Int) = 0 := g7
  have : csiL p b = (prM 6, []) := by unfold csiL; rw [if_neg (by omega), if_neg g2, if_neg (by omega), if_pos (by omega), if_pos (.inr (by omega))]
  rw [this]; rfl
 all_goals replace g5 : ¬ (60 : Int) ≤ b.toNat := g5
 all_goals have h48 : 48 ≤ b.toNat := Nat.le_of_not_lt fun hlt => g2 (by simp [interB]; omega)
 all_goals have ho := oneP_len p.params
 all_goals have hR : csiL p b = if b.toNat = 59 then (if 16 ≤ (oneP p.params).length then (prM 6, []) else ({ p with params := oneP p.params ++ [0] }, [])) else ({ p with params := digP (oneP p.params) b.toNat }, []) := (by unfold csiL; rw [if_neg (by omega), if_neg g2, if_neg (by omega), if_neg (by omega)])
 ·simp [intsD, DV.rows] at g6
  simp [intsD, DV.rows, oneP, g6]
 ·exact ho.1
 ·omega
 ·exact oneP_each _ h.each
 ·exact h48
 ·omega
 ·omega
 ·exact hR
 ·simp [intsD, DV.rows] at g6
  simp [intsD, DV.rows, oneP, g6]
 ·exact ho.1
 ·omega
 ·exact oneP_each _ h.each
 ·exact h48
 ·omega
 ·omega
 ·exact hR
end
section
attribute [local simp] E.den O.den U.den vs dv_I dv_B dv_L dv_R DV.row
theorem step_sp (p : Pr) (b : UInt8) (h : PrOk p) : Spn n_r7_step sg_r7_step [.I p.mode, .I p.priv, intsD p.params, bytesD p.inter, bytesD p.utf, .I b.toNat] (prA (vtN p b).1 (vtN p b).2) := by
 have hi := h.inter
 have hend : ∀ {es : List E} {q : Pr} {l : List Ac} {env : List DV}, vtN p b = (q, l) → es.map (·.den env) = prA q l → (fun es => es = prA (vtN p b).1 (vtN p b).2) (es.map (·.den env)) := fun e h => by rw [e]; exact h
 refine rd_r7_step rfl (deq (fun g1 => dret (hend (q := prM 0) (l := []) ?_ rfl)) fun g1 => deq (fun g2 => dret (hend (q := prM 0) (l := []) ?_ rfl)) fun g2 => deq (fun g3 => dret (hend (q := prM 1) (l := []) ?_ rfl)) fun g3 => deq (fun g4 => dlt (fun g5 => dret (hend (q := prM 0) (l := [acC b.toNat]) ?_ rfl)) fun g5 => deq (fun g6 => dret (hend (q := prM 0) (l := []) ?_ rfl)) fun g6 => dcall (uStep_sp [] b (by simp)) rfl rfl rfl (dcall (prints_sp (stepL [] b).2 (by have := (stepL_len [] b).2; omega)) rfl rfl rfl (dret (hend (q := { prM 0 with utf := (stepL [] b).1 }) (l := printsL (stepL [] b).2) ?_ rfl)))) fun g4 => deq (fun g5 => deq (fun g6 => dret (hend (q := prM 0) (l := []) ?_ rfl)) fun g6 => dret (hend (q := p) (l := []) ?_ rfl)) fun g5 => dlt (fun g6 => dret (hend (q := p) (l := [acC b.toNat]) ?_ rfl)) fun g6 => deq (fun g7 => dret (hend (q := p) (l := []) ?_ rfl)) fun g7 => dle (fun g8 => dret (hend (q := prM 0) (l := []) ?_ rfl)) fun g8 => ?_)
 ·replace g1 : (b.toNat : Int) = 24 := g1
  unfold vtN; rw [if_pos (by omega)]
 ·replace g2 : (b.toNat : Int) = 26 := g2
  unfold vtN; rw [if_pos (by omega)]
 ·replace g1 : ¬ (b.toNat : Int) = 24 := g1
  replace g2 : ¬ (b.toNat : Int) = 26 := g2
  replace g3 : (b.toNat : Int) = 27 := g3
  unfold vtN; rw [if_neg (by omega), if_pos (by omega)]
 ·replace g1 : ¬ (b.toNat : Int) = 24 := g1
  replace g2 : ¬ (b.toNat : Int) = 26 := g2
  replace g3 : ¬ (b.toNat : Int) = 27 := g3
  replace g4 : (p.mode : Int) = 0 := g4
  replace g5 : (b.toNat : Int) < 32 := g5
  unfold vtN; rw [if_neg (by omega), if_neg (by omega), if_pos (by omega), if_pos (by omega)]
 ·replace g1 : ¬ (b.toNat : Int) = 24 := g1
  replace g2 : ¬ (b.toNat : Int) = 26 := g2
  replace g3 : ¬ (b.toNat : Int) = 27 := g3
  replace g4 : (p.mode : Int) = 0 := g4
  replace g5 : ¬ (b.toNat : Int) < 32 := g5
  replace g6 : (b.toNat : Int) = 127 := g6
  unfold vtN; rw [if_neg (by omega), if_neg (by omega), if_pos (by omega), if_neg (by omega), if_pos (by omega)]
 ·replace g1 : ¬ (b.toNat : Int) = 24 := g1
  replace g2 : ¬ (b.toNat : Int) = 26 := g2
  replace g3 : ¬ (b.toNat : Int) = 27 := g3
  replace g4 : (p.mode : Int) = 0 := g4
  replace g5 : ¬ (b.toNat : Int) < 32 := g5
  replace g6 : ¬ (b.toNat : Int) = 127 := g6
  unfold vtN; rw [if_neg (by omega), if_neg (by omega), if_pos (by omega), if_neg (by omega), if_neg (by omega)]
 ·replace g1 : ¬ (b.toNat : Int) = 24 := g1
  replace g2 : ¬ (b.toNat : Int) = 26 := g2
  replace g3 : ¬ (b.toNat : Int) = 27 := g3
  replace g4 : ¬ (p.mode : Int) = 0 := g4
  replace g5 : (p.mode : Int) = 7 := g5
  replace g6 : (b.toNat : Int) = 7 := g6
  unfold vtN; rw [if_neg (by omega), if_neg (by omega), if_neg (by omega), if_pos (by omega), if_pos (by omega)]
 ·replace g1 : ¬ (b.toNat : Int) = 24 := g1
  replace g2 : ¬ (b.toNat : Int) = 26 := g2
  replace g3 : ¬ (b.toNat : Int) = 27 := g3
  replace g4 : ¬ (p.mode : Int) = 0 := g4
  replace g5 : (p.mode : Int) = 7 := g5
  replace g6 : ¬ (b.toNat : Int) = 7 := g6
  unfold vtN; rw [if_neg (by omega), if_neg (by omega), if_neg (by omega), if_pos (by omega), if_neg (by omega)]
 ·replace g1 : ¬ (b.toNat : Int) = 24 := g1
  replace g2 : ¬ (b.toNat : Int) = 26 := g2
  replace g3 : ¬ (b.toNat : Int) = 27 := g3
  replace g4 : ¬ (p.mode : Int) = 0 := g4
  replace g5 : ¬ (p.mode : Int) = 7 := g5
  replace g6 : (b.toNat : Int) < 32 := g6
  unfold vtN; rw [if_neg (by omega), if_neg (by omega), if_neg (by omega), if_neg (by omega), if_pos (by omega)]
 ·replace g1 : ¬ (b.toNat : Int) = 24 := g1
  replace g2 : ¬ (b.toNat : Int) = 26 := g2
  replace g3 : ¬ (b.toNat : Int) = 27 := g3
  replace g4 : ¬ (p.mode : Int) = 0 := g4
  replace g5 : ¬ (p.mode : Int) = 7 := g5
  replace g6 : ¬ (b.toNat : Int) < 32 := g6
  replace g7 : (b.toNat : Int) = 127 := g7
  unfold vtN; rw [if_neg (by omega), if_neg (by omega), if_neg (by omega), if_neg (by omega), if_neg (by omega), if_pos (by omega)]
 ·replace g1 : ¬ (b.toNat : Int) = 24 := g1
  replace g2 : ¬ (b.toNat : Int) = 26 := g2
  replace g3 : ¬ (b.toNat : Int) = 27 := g3
  replace g4 : ¬ (p.mode : Int) = 0 := g4
  replace g5 : ¬ (p.mode : Int) = 7 := g5
  replace g6 : ¬ (b.toNat : Int) < 32 := g6
  replace g7 : ¬ (b.toNat : Int) = 127 := g7
  replace g8 : (128 : Int) ≤ b.toNat := g8
  unfold vtN; rw [if_neg (by omega), if_neg (by omega), if_neg (by omega), if_neg (by omega), if_neg (by omega), if_neg (by omega), if_pos (by omega)]
 replace g1 : ¬ (b.toNat : Int) = 24 := g1
 replace g2 : ¬ (b.toNat : Int) = 26 := g2
 replace g3 : ¬ (b.toNat : Int) = 27 := g3
 replace g4 : ¬ (p.mode : Int) = 0 := g4
 replace g5 : ¬ (p.mode : Int) = 7 := g5
 replace g6 : ¬ (b.toNat : Int) < 32 := g6
 replace g7 : ¬ (b.toNat : Int) = 127 := g7
 replace g8 : ¬ (128 : Int) ≤ b.toNat := g8
 have hM : vtN p b = vtM p b := by unfold vtN; rw [if_neg (by omega), if_neg (by omega), if_neg (by omega), if_neg (by omega), if_neg (by omega), if_neg (by omega), if_neg (by omega)]
 refine deq (fun g9 => dcall (inter_sp b) rfl rfl rfl (dbr (fun k1 => dret (hend (q := { prM 2 with inter := [b] }) (l := []) ?_ rfl)) fun k1 => deq (fun k2 => dret (hend (q := prM 4) (l := []) ?_ rfl)) fun k2 => deq (fun k3 => dret (hend (q := prM 7) (l := []) ?_ rfl)) fun k3 => deq (fun k4 => dret (hend (q := prM 7) (l := []) ?_ rfl)) fun k4 => deq (fun k5 => dret (hend (q := prM 7) (l := []) ?_ rfl)) fun k5 => deq (fun k6 => dret (hend (q := prM 7) (l := []) ?_ rfl)) fun k6 => deq (fun k7 => dret (hend (q := prM 7) (l := []) ?_ rfl)) fun k7 => dret (hend (q := prM 0) (l := [acE b.toNat []]) ?_ rfl))) fun g9 => deq (fun g10 => dcall (inter_sp b) rfl rfl rfl (dbr (fun k1 => dle (fun k2 => dret (hend (q := prM 3) (l := []) ?_ rfl)) fun k2 => dcall (with_sp p.inter b (by omega)) rfl rfl rfl (dret (hend (q := { prM 2 with inter := p.inter ++ [b] }) (l := []) ?_ rfl))) fun k1 => dret (hend (q := prM 0) (l := [acE b.toNat p.inter]) ?_ rfl))) fun g10 => deq (fun g11 => dle (fun k1 => dret (hend (q := prM 0) (l := []) ?_ rfl)) fun k1 => dret (hend (q := p) (l := []) ?_ rfl)) fun g11 => deq (fun g12 => dle (fun k1 => dret (hend (q := prM 0) (l := []) ?_ rfl)) fun k1 => dret (hend (q := p) (l := []) ?_ rfl)) fun g12 => ?_
 all_goals rw [hM]
 ·replace g9 : (p.mode : Int) = 1 := g9
  replace k1 : interB b = true := k1
  unfold vtM; rw [if_pos (by omega), if_pos k1]
 ·replace g9 : (p.mode : Int) = 1 := g9
  replace k1 : interB b = false := k1
  replace k2 : (b.toNat : Int) = 91 := k2
  unfold vtM; rw [if_pos (by omega), if_neg (by rw [k1]; simp), if_pos (by omega)]
 ·replace g9 : (p.mode : Int) = 1 := g9
  replace k1 : interB b = false := k1
  replace k2 : ¬ (b.toNat : Int) = 91 := k2
  replace k3 : (b.toNat : Int) = 93 := k3
  unfold vtM; rw [if_pos (by omega), if_neg (by rw [k1]; simp), if_neg (by omega), if_pos (by omega)]
 ·replace g9 : (p.mode : Int) = 1 := g9
  replace k1 : interB b = false := k1
  replace k2 : ¬ (b.toNat : Int) = 91 := k2
  replace k3 : ¬ (b.toNat : Int) = 93 := k3
  replace k4 : (b.toNat : Int) = 80 := k4
  unfold vtM; rw [if_pos (by omega), if_neg (by rw [k1]; simp), if_neg (by omega), if_pos (by omega)]
 ·replace g9 : (p.mode : Int) = 1 := g9
  replace k1 : interB b = false := k1
  replace k2 : ¬ (b.toNat : Int) = 91 := k2
  replace k3 : ¬ (b.toNat : Int) = 93 := k3
  replace k4 : ¬ (b.toNat : Int) = 80 := k4
  replace k5 : (b.toNat : Int) = 88 := k5
  unfold vtM; rw [if_pos (by omega), if_neg (by rw [k1]; simp), if_neg (by omega), if_pos (by omega)]
 ·replace g9 : (p.mode : Int) = 1 := g9
  replace k1 : interB b = false := k1
  replace k2 : ¬ (b.toNat : Int) = 91 := k2
  replace k3 : ¬ (b.toNat : Int) = 93 := k3
  replace k4 : ¬ (b.toNat : Int) = 80 := k4
  replace k5 : ¬ (b.toNat : Int) = 88 := k5
  replace k6 : (b.toNat : Int) = 94 := k6
  unfold vtM; rw [if_pos (by omega), if_neg (by rw [k1]; simp), if_neg (by omega), if_pos (by omega)]
 ·replace g9 : (p.mode : Int) = 1 := g9
  replace k1 : interB b = false := k1
  replace k2 : ¬ (b.toNat : Int) = 91 := k2
  replace k3 : ¬ (b.toNat : Int) = 93 := k3
  replace k4 : ¬ (b.toNat : Int) = 80 := k4
  replace k5 : ¬ (b.toNat : Int) = 88 := k5
  replace k6 : ¬ (b.toNat : Int) = 94 := k6
  replace k7 : (b.toNat : Int) = 95 := k7
  unfold vtM; rw [if_pos (by omega), if_neg (by rw [k1]; simp), if_neg (by omega), if_pos (by omega)]
 ·replace g9 : (p.mode : Int) = 1 := g9
  replace k1 : interB b = false := k1
  replace k2 : ¬ (b.toNat : Int) = 91 := k2
  replace k3 : ¬ (b.toNat : Int) = 93 := k3
  replace k4 : ¬ (b.toNat : Int) = 80 := k4
  replace k5 : ¬ (b.toNat : Int) = 88 := k5
  replace k6 : ¬ (b.toNat : Int) = 94 := k6
  replace k7 : ¬ (b.toNat : Int) = 95 := k7
  unfold vtM; rw [if_pos (by omega), if_neg (by rw [k1]; simp), if_neg (by omega), if_neg (by omega)]
 ·replace g9 : ¬ (p.mode : Int) = 1 := g9
  replace g10 : (p.mode : Int) = 2 := g10
  replace k1 : interB b = true := k1
  replace k2 : (2 : Int) ≤ (bytesD p.inter).rows.length := k2
  unfold vtM; rw [if_neg (by omega), if_pos (by omega), if_neg (by rw [k1]; simp), if_pos (by rw [bytes_len] at k2; omega)]
 ·replace g9 : ¬ (p.mode : Int) = 1 := g9
  replace g10 : (p.mode : Int) = 2 := g10
  replace k1 : interB b = true := k1
  replace k2 : ¬ (2 : Int) ≤ (bytesD p.inter).rows.length := k2
  unfold vtM; rw [if_neg (by omega), if_pos (by omega), if_neg (by rw [k1]; simp), if_neg (by rw [bytes_len] at k2; omega)]
 ·replace g9 : ¬ (p.mode : Int) = 1 := g9
  replace g10 : (p.mode : Int) = 2 := g10
  replace k1 : interB b = false := k1
  unfold vtM; rw [if_neg (by omega), if_pos (by omega), if_pos k1]
 ·replace g9 : ¬ (p.mode : Int) = 1 := g9
  replace g10 : ¬ (p.mode : Int) = 2 := g10
  replace g11 : (p.mode : Int) = 3 := g11
  replace k1 : (48 : Int) ≤ b.toNat := k1
  unfold vtM; rw [if_neg (by omega), if_neg (by omega), if_pos (by omega), if_pos (by omega)]
 ·replace g9 : ¬ (p.mode : Int) = 1 := g9
  replace g10 : ¬ (p.mode : Int) = 2 := g10
  replace g11 : (p.mode : Int) = 3 := g11
  replace k1 : ¬ (48 : Int) ≤ b.toNat := k1
  unfold vtM; rw [if_neg (by omega), if_neg (by omega), if_pos (by omega), if_neg (by omega)]
 ·replace g9 : ¬ (p.mode : Int) = 1 := g9
  replace g10 : ¬ (p.mode : Int) = 2 := g10
  replace g11 : ¬ (p.mode : Int) = 3 := g11
  replace g12 : (p.mode : Int) = 6 := g12
  replace k1 : (64 : Int) ≤ b.toNat := k1
  unfold vtM; rw [if_neg (by omega), if_neg (by omega), if_neg (by omega), if_pos (by omega), if_pos (by omega)]
 ·replace g9 : ¬ (p.mode : Int) = 1 := g9
  replace g10 : ¬ (p.mode : Int) = 2 := g10
  replace g11 : ¬ (p.mode : Int) = 3 := g11
  replace g12 : (p.mode : Int) = 6 := g12
  replace k1 : ¬ (64 : Int) ≤ b.toNat := k1
  unfold vtM; rw [if_neg (by omega), if_neg (by omega), if_neg (by omega), if_pos (by omega), if_neg (by omega)]
 ·replace g9 : ¬ (p.mode : Int) = 1 := g9
  replace g10 : ¬ (p.mode : Int) = 2 := g10
  replace g11 : ¬ (p.mode : Int) = 3 := g11
  replace g12 : ¬ (p.mode : Int) = 6 := g12
  have hC : vtM p b = csiL p b := by unfold vtM; rw [if_neg (by omega), if_neg (by omega), if_neg (by omega), if_neg (by omega)]
  rw [hC]
  exact dcall (csi_sp p b h (by omega)) rfl rfl rfl (dret rfl)
end
section
attribute [local simp] E.den O.den U.den vs dv_I dv_B dv_L dv_R DV.row
theorem csiL_len1 (p : Pr) (b : UInt8) : (csiL p b).2.length ≤ 1 := by
 unfold csiL
 (repeat' split) <;> simp
theorem vtM_len1 (p : Pr) (b : UInt8) : (vtM p b).2.length ≤ 1 := by
 unfold vtM
 (repeat' split) <;> first | exact csiL_len1 p b | simp
theorem vtN_len2 (p : Pr) (b : UInt8) : (vtN p b).2.length ≤ 2 := by
 have h2 := (stepL_len [] b).2
 have h3 := vtM_len1 p b
 unfold vtN
 (repeat' split) <;> first | omega | simp [printsL, h2]
theorem vtL_len3 (p : Pr) (b : UInt8) : (vtL p b).2.length ≤ 3 := by
 have h1 := vtN_len2 p b
 have h2 := vtN_len2 { p with utf := [] } b
 have h3 := (stepL_len p.utf b).2
 unfold vtL
 split
 ·split
  ·simp [printsL]; omega
  ·simp; omega
 ·omega
theorem at0 (l : List Nat) : (((runesD l).rows.getD 0 []).getD 0 (.I 0)).int = ((l.getD 0 0 : Nat) : Int) := by cases l <;> rfl
theorem noUtf {p : Pr} (h : PrOk p) : PrOk { p with utf := [] } := ⟨h.mode, h.priv, h.params, h.each, h.inter, h.eachI, .inl rfl, h.csi, h.with_⟩
theorem runes_len (l : List Nat) : ((runesD l).rows.length : Int) = l.length := by simp [runesD, DV.rows]
theorem fffd8 {p : Pr} {b : UInt8} {q : List UInt8} {l : List Nat} {cx : List (List DV → Prop)} (h : PrOk p) (hv : vtL p b = ((vtN { p with utf := [] } b).1, acP 65533 :: (vtN { p with utf := [] } b).2)) :
  (Tree.need (.O .le (.O .add (.U .len .N) (.U .len (.O .app .N (.U .one (.O .cns (.O .cns (.O .cns (.O .cns (.O .cns (.O .cns .R (.I 0)) (.I 65533)) (.I 0)) (.I 0)) .N) .N))))) (.I 1099511627776)) (.call n_r7_step (vs 0 4 ++ [.N, (.V 5)]) 6 (.need (.O .le (.O .add (.U .len (.O .app .N (.O .app .N (.U .one (.O .cns (.O .cns (.O .cns (.O .cns (.O .cns (.O .cns .R (.I 0)) (.I 65533)) (.I 0)) (.I 0)) .N) .N))))) (.U .len (.V 13))) (.I 1099511627776)) (.ret (vs 8 5 ++ [(.O .app (.O .app .N (.O .app .N (.U .one (.O .cns (.O .cns (.O .cns (.O .cns (.O .cns (.O .cns .R (.I 0)) (.I 65533)) (.I 0)) (.I 0)) .N) .N)))) (.V 13))]))))).den SpF1 (fun es => es = prA (vtL p b).1 (vtL p b).2) [.I p.mode, .I p.priv, intsD p.params, bytesD p.inter, bytesD p.utf, .I b.toNat, bytesD q, runesD l] cx := by
 have ha := vtN_len2 { p with utf := [] } b
 refine nle (le40 (n := 1) rfl (by omega)) (dcall (step_sp { p with utf := [] } b (noUtf h)) rfl rfl rfl (nle (le40 (n := 1 + (vtN { p with utf := [] } b).2.length) ?_ (by omega)) (dret ?_)))
 ·have : ((actsD (vtN { p with utf := [] } b).2).rows.length : Int) = (vtN { p with utf := [] } b).2.length := by simp [actsD, DV.rows]
  rw [Int.natCast_add, ← this]; rfl
 ·rw [hv]; rfl
theorem fffd9 {p : Pr} {b : UInt8} {q : List UInt8} {l : List Nat} {i : Bool} {cx : List (List DV → Prop)} (h : PrOk p) (hv : vtL p b = ((vtN { p with utf := [] } b).1, acP 65533 :: (vtN { p with utf := [] } b).2)) :
  (Tree.need (.O .le (.O .add (.U .len .N) (.U .len (.O .app .N (.U .one (.O .cns (.O .cns (.O .cns (.O .cns (.O .cns (.O .cns .R (.I 0)) (.I 65533)) (.I 0)) (.I 0)) .N) .N))))) (.I 1099511627776)) (.call n_r7_step (vs 0 4 ++ [.N, (.V 5)]) 6 (.need (.O .le (.O .add (.U .len (.O .app .N (.O .app .N (.U .one (.O .cns (.O .cns (.O .cns (.O .cns (.O .cns (.O .cns .R (.I 0)) (.I 65533)) (.I 0)) (.I 0)) .N) .N))))) (.U .len (.V 14))) (.I 1099511627776)) (.ret (vs 9 5 ++ [(.O .app (.O .app .N (.O .app .N (.U .one (.O .cns (.O .cns (.O .cns (.O .cns (.O .cns (.O .cns .R (.I 0)) (.I 65533)) (.I 0)) (.I 0)) .N) .N)))) (.V 14))]))))).den SpF1 (fun es => es = prA (vtL p b).1 (vtL p b).2) [.I p.mode, .I p.priv, intsD p.params, bytesD p.inter, bytesD p.utf, .I b.toNat, bytesD q, runesD l, .B i] cx := by
 have ha := vtN_len2 { p with utf := [] } b
 refine nle (le40 (n := 1) rfl (by omega)) (dcall (step_sp { p with utf := [] } b (noUtf h)) rfl rfl rfl (nle (le40 (n := 1 + (vtN { p with utf := [] } b).2.length) ?_ (by omega)) (dret ?_)))
 ·have : ((actsD (vtN { p with utf := [] } b).2).rows.length : Int) = (vtN { p with utf := [] } b).2.length := by simp [actsD, DV.rows]
  rw [Int.natCast_add, ← this]; rfl
 ·rw [hv]; rfl
theorem vStep_sp (p : Pr) (b : UInt8) (h : PrOk p) (hu : p.mode ≠ 0 → p.utf = []) : Spn n_r7_Step sg_r7_Step [.I p.mode, .I p.priv, intsD p.params, bytesD p.inter, bytesD p.utf, .I b.toNat] (prA (vtL p b).1 (vtL p b).2) := by
 have hul : p.utf.length ≤ 3 := by
  rcases h.utf with e | ⟨_, e⟩
  ·rw [e]; simp
  ·exact (beginsL_len _ e).2
 have hsl := stepL_len p.utf b
 have hend : ∀ {es : List E} {q : Pr} {l : List Ac} {env : List DV}, vtL p b = (q, l) → es.map (·.den env) = prA q l → (fun es => es = prA (vtL p b).1 (vtL p b).2) (es.map (·.den env)) := fun e h => by rw [e]; exact h
 have hlast : ∀ cx, vtL p b = vtN p b → (Tree.call n_r7_step (vs 0 6) 6 (.need (.O .le (.O .add (.U .len .N) (.U .len (.V 11))) (.I 1099511627776)) (.ret (vs 6 5 ++ [(.O .app .N (.V 11))])))).den SpF1 (fun es => es = prA (vtL p b).1 (vtL p b).2) [.I p.mode, .I p.priv, intsD p.params, bytesD p.inter, bytesD p.utf, .I b.toNat] cx := by
  intro cx e
  have ha := vtN_len2 p b
  refine dcall (step_sp p b h) rfl rfl rfl (nle (le40 (n := (vtN p b).2.length) ?_ (by omega)) (dret ?_))
  ·have : ((actsD (vtN p b).2).rows.length : Int) = (vtN p b).2.length := by simp [actsD, DV.rows]
   rw [← this]; exact Int.zero_add _
  ·rw [e]; rfl
 refine rd_r7_Step rfl (deq (fun g1 => dlt (fun g2 => dcall (uStep_sp p.utf b (by omega)) rfl rfl rfl (dle (fun g3 => deq (fun g4 => dcall (prints_sp (stepL p.utf b).2 (by omega)) rfl rfl rfl (dret (hend (q := { prM 0 with utf := (stepL p.utf b).1 }) (l := printsL (stepL p.utf b).2) ?_ rfl))) fun g4 => nlt ?_ (deq (fun g5 => deq (fun g6 => deq (fun g7 => dcall (formed_sp p.utf b) rfl rfl rfl (dbr (fun g8 => dcall (prints_sp (stepL p.utf b).2 (by omega)) rfl rfl rfl (dret (hend (q := { prM 0 with utf := (stepL p.utf b).1 }) (l := printsL (stepL p.utf b).2) ?_ rfl))) fun g8 => fffd9 h ?_)) fun g7 => fffd8 h ?_) fun g6 => fffd8 h ?_) fun g5 => dcall (prints_sp (stepL p.utf b).2 (by omega)) rfl rfl rfl (dret (hend (q := { prM 0 with utf := (stepL p.utf b).1 }) (l := printsL (stepL p.utf b).2) ?_ rfl)))) fun g3 => fffd8 h ?_)) fun g2 => hlast _ ?_) fun g1 => hlast _ ?_)
 ·replace g1 : (p.mode : Int) = 0 := g1
  replace g2 : (0 : Int) < p.utf.length := by rw [← bytes_len]; exact g2
  replace g3 : (128 : Int) ≤ b.toNat := g3
  replace g4 : ((stepL p.utf b).2.length : Int) = 0 := by rw [← runes_len]; exact g4
  have d0 : decide (128 ≤ b.toNat) = true := decide_eq_true (by omega)
  have d1 : decide ((stepL p.utf b).2.length = 0) = true := decide_eq_true (by omega)
  have hg : goesB p.utf b = true := by unfold goesB; simp only [d0, d1, Bool.true_and, Bool.false_and, Bool.and_true, Bool.and_false, Bool.true_or, Bool.or_true, Bool.false_or, Bool.or_false]
  unfold vtL; rw [if_pos ⟨by omega, by omega⟩, if_pos hg]
 ·replace g4 : ¬ ((stepL p.utf b).2.length : Int) = 0 := by rw [← runes_len]; exact g4
  show (0 : Int) < ((runesD (stepL p.utf b).2).rows.length : Int)
  rw [runes_len]; omega
 ·replace g1 : (p.mode : Int) = 0 := g1
  replace g2 : (0 : Int) < p.utf.length := by rw [← bytes_len]; exact g2
  replace g3 : (128 : Int) ≤ b.toNat := g3
  replace g4 : ¬ ((stepL p.utf b).2.length : Int) = 0 := by rw [← runes_len]; exact g4
  replace g5 : (((stepL p.utf b).2.getD 0 0 : Nat) : Int) = 65533 := by rw [← at0]; exact g5
  replace g6 : ((stepL p.utf b).2.length : Int) = 1 := by rw [← runes_len]; exact g6
  replace g7 : ((stepL p.utf b).1.length : Int) = 0 := by rw [← bytes_len]; exact g7
  replace g8 : formedB p.utf b = true := g8
  have d0 : decide (128 ≤ b.toNat) = true := decide_eq_true (by omega)
  have d1 : decide ((stepL p.utf b).2.length = 1) = true := decide_eq_true (by omega)
  have d2 : decide ((stepL p.utf b).1.length = 0) = true := decide_eq_true (by omega)
  have hg : goesB p.utf b = true := by unfold goesB; simp only [d0, d1, d2, g8, Bool.true_and, Bool.false_and, Bool.and_true, Bool.and_false, Bool.true_or, Bool.or_true, Bool.false_or, Bool.or_false]
  unfold vtL; rw [if_pos ⟨by omega, by omega⟩, if_pos hg]
 ·replace g1 : (p.mode : Int) = 0 := g1
  replace g2 : (0 : Int) < p.utf.length := by rw [← bytes_len]; exact g2
  replace g3 : (128 : Int) ≤ b.toNat := g3
  replace g4 : ¬ ((stepL p.utf b).2.length : Int) = 0 := by rw [← runes_len]; exact g4
  replace g5 : (((stepL p.utf b).2.getD 0 0 : Nat) : Int) = 65533 := by rw [← at0]; exact g5
  replace g6 : ((stepL p.utf b).2.length : Int) = 1 := by rw [← runes_len]; exact g6
  replace g7 : ((stepL p.utf b).1.length : Int) = 0 := by rw [← bytes_len]; exact g7
  replace g8 : formedB p.utf b = false := g8
  have d0 : decide (128 ≤ b.toNat) = true := decide_eq_true (by omega)
  have d1 : decide ((stepL p.utf b).2.length = 0) = false := decide_eq_false (by omega)
  have d2 : decide ((stepL p.utf b).2.getD 0 0 ≠ 65533) = false := decide_eq_false (by omega)
  have hg : goesB p.utf b = false := by unfold goesB; simp only [d0, d1, d2, g8, Bool.true_and, Bool.false_and, Bool.and_true, Bool.and_false, Bool.true_or, Bool.or_true, Bool.false_or, Bool.or_false]
  unfold vtL; rw [if_pos ⟨by omega, by omega⟩, if_neg (by rw [hg]; simp)]
 ·replace g1 : (p.mode : Int) = 0 := g1
  replace g2 : (0 : Int) < p.utf.length := by rw [← bytes_len]; exact g2
  replace g3 : (128 : Int) ≤ b.toNat := g3
  replace g4 : ¬ ((stepL p.utf b).2.length : Int) = 0 := by rw [← runes_len]; exact g4
  replace g5 : (((stepL p.utf b).2.getD 0 0 : Nat) : Int) = 65533 := by rw [← at0]; exact g5
  replace g6 : ((stepL p.utf b).2.length : Int) = 1 := by rw [← runes_len]; exact g6
  replace g7 : ¬ ((stepL p.utf b).1.length : Int) = 0 := by rw [← bytes_len]; exact g7
  have d0 : decide (128 ≤ b.toNat) = true := decide_eq_true (by omega)
  have d1 : decide ((stepL p.utf b).2.length = 0) = false := decide_eq_false (by omega)
  have d2 : decide ((stepL p.utf b).2.getD 0 0 ≠ 65533) = false := decide_eq_false (by omega)
  have d3 : decide ((stepL p.utf b).1.length = 0) = false := decide_eq_false (by omega)
  have hg : goesB p.utf b = false := by unfold goesB; simp only [d0, d1, d2, d3, Bool.true_and, Bool.false_and, Bool.and_true, Bool.and_false, Bool.true_or, Bool.or_true, Bool.false_or, Bool.or_false]
  unfold vtL; rw [if_pos ⟨by omega, by omega⟩, if_neg (by rw [hg]; simp)]
 ·replace g1 : (p.mode : Int) = 0 := g1
  replace g2 : (0 : Int) < p.utf.length := by rw [← bytes_len]; exact g2
  replace g3 : (128 : Int) ≤ b.toNat := g3
  replace g4 : ¬ ((stepL p.utf b).2.length : Int) = 0 := by rw [← runes_len]; exact g4
  replace g5 : (((stepL p.utf b).2.getD 0 0 : Nat) : Int) = 65533 := by rw [← at0]; exact g5
  replace g6 : ¬ ((stepL p.utf b).2.length : Int) = 1 := by rw [← runes_len]; exact g6
  have d0 : decide (128 ≤ b.toNat) = true := decide_eq_true (by omega)
  have d1 : decide ((stepL p.utf b).2.length = 0) = false := decide_eq_false (by omega)
  have d2 : decide ((stepL p.utf b).2.getD 0 0 ≠ 65533) = false := decide_eq_false (by omega)
  have d3 : decide ((stepL p.utf b).2.length = 1) = false := decide_eq_false (by omega)
  have hg : goesB p.utf b = false := by unfold goesB; simp only [d0, d1, d2, d3, Bool.true_and, Bool.false_and, Bool.and_true, Bool.and_false, Bool.true_or, Bool.or_true, Bool.false_or, Bool.or_false]
  unfold vtL; rw [if_pos ⟨by omega, by omega⟩, if_neg (by rw [hg]; simp)]
 ·replace g1 : (p.mode : Int) = 0 := g1
  replace g2 : (0 : Int) < p.utf.length := by rw [← bytes_len]; exact g2
  replace g3 : (128 : Int) ≤ b.toNat := g3
  replace g4 : ¬ ((stepL p.utf b).2.length : Int) = 0 := by rw [← runes_len]; exact g4
  replace g5 : ¬ (((stepL p.utf b).2.getD 0 0 : Nat) : Int) = 65533 := by rw [← at0]; exact g5
  have d0 : decide (128 ≤ b.toNat) = true := decide_eq_true (by omega)
  have d1 : decide ((stepL p.utf b).2.getD 0 0 ≠ 65533) = true := decide_eq_true (by omega)
  have hg : goesB p.utf b = true := by unfold goesB; simp only [d0, d1, Bool.true_and, Bool.false_and, Bool.and_true, Bool.and_false, Bool.true_or, Bool.or_true, Bool.false_or, Bool.or_false]
  unfold vtL; rw [if_pos ⟨by omega, by omega⟩, if_pos hg]
 ·replace g1 : (p.mode : Int) = 0 := g1
  replace g2 : (0 : Int) < p.utf.length := by rw [← bytes_len]; exact g2
  replace g3 : ¬ (128 : Int) ≤ b.toNat := g3
  have d0 : decide (128 ≤ b.toNat) = false := decide_eq_false (by omega)
  have hg : goesB p.utf b = false := by unfold goesB; simp only [d0, Bool.true_and, Bool.false_and, Bool.and_true, Bool.and_false, Bool.true_or, Bool.or_true, Bool.false_or, Bool.or_false]
  unfold vtL; rw [if_pos ⟨by omega, by omega⟩, if_neg (by rw [hg]; simp)]
 ·replace g1 : (p.mode : Int) = 0 := g1
  replace g2 : ¬ (0 : Int) < p.utf.length := by rw [← bytes_len]; exact g2
  unfold vtL; rw [if_neg (by omega)]
 ·replace g1 : ¬ (p.mode : Int) = 0 := g1
  unfold vtL; rw [if_neg (by omega)]
end
end Go.Proofs.YtbegccgpmhbnfaaGreat
