/- What is proved here: parts of the proof of SnapTells. -/
import Derived.Test.YtbegccgpmhbnfaaGreatR13
namespace Go.Proofs.YtbegccgpmhbnfaaGreat
open Go.RowKit
set_option linter.unusedVariables false
set_option linter.unusedSimpArgs false
set_option maxRecDepth 10000
set_option maxHeartbeats 1000000
theorem dReadC_sp (b : List UInt8) (n : Nat) (hn : n ≤ 1048576) (hl : b.length ≤ 1048576) : Spn n_r5_ReadCells sg_r5_ReadCells [bytesD b, .I n] (rCD (readCL b n)) := by
 have hlen := bytes_len b
 have h0 : readCL b (n : Int) = readF n n b [] 0 := by unfold readCL; rw [Int.toNat_natCast]
 rw [h0]
 refine rd_r5_ReadCells rfl (dloop (fun s : List Cl × Nat => [cellsD s.1, .I (s.2 : Int)]) (fun s => s.1.length ≤ n ∧ s.2 ≤ b.length ∧ readF n n (b.drop s.2) s.1 s.2 = readF n n b [] 0) (fun s => n - s.1.length) ([], 0) rfl ⟨Nat.zero_le _, Nat.zero_le _, rfl⟩ fun s hs _ => ?_)
 obtain ⟨out, at_⟩ := s
 obtain ⟨h1, h2, h4⟩ := hs
 simp only at h1 h2 h4
 have hol := cells_len out
 refine dlt (fun g => ?_) fun g => ?_
 ·have g : ((cellsD out).rows.length : Int) < n := g
  rw [hol] at g
  have hlt : out.length < n := by omega
  obtain ⟨B, hB⟩ : ∃ B, B = b.drop at_ := ⟨_, rfl⟩
  have hBl : B.length = b.length - at_ := by rw [hB]; simp
  have e1 := fun (e : Nat) (x : Nat × Nat × Nat) (k : Nat) => readF_err (n := n) (f := n) (b := b.drop at_) (out := out) (at_ := at_) (e := e) (x := x) (k := k) (by omega) hlt
  have e2 := fun (v1 v2 v3 k : Nat) => readF_bad (n := n) (f := n) (b := b.drop at_) (out := out) (at_ := at_) (v1 := v1) (v2 := v2) (v3 := v3) (k := k) (by omega) hlt
  have e3 := fun (v1 v2 v3 k : Nat) => readF_go (n := n) (f := n) (b := b.drop at_) (out := out) (at_ := at_) (v1 := v1) (v2 := v2) (v3 := v3) (k := k) (by omega) hlt
  rw [h4, ← hB] at e1 e2 e3
  obtain ⟨a1, k1, er1, r1⟩ := readL_split B
  obtain ⟨b1, b2, b3⟩ := readL_bd B
  rw [r1] at b1 b2 b3
  simp only at b1 b2 b3
  have err : ∀ (e : Nat) (h : readF n n b [] 0 = ([], 0, e)) {x : E} {env : List DV} {cx} (hx : x.den env = .I (e : Int)), (Tree.ret [.N, .I 0, x]).den SpF1 (fun es => es = rCD (readF n n b [] 0)) env cx := fun e h {x env cx} hx => dret (by
    rw [h]; exact congrArg (fun d => [cellsD [], DV.I 0, d]) hx)
  refine dneed (Bool.and_eq_true_iff.2 ⟨decide_eq_true (show (0 : Int) ≤ at_ by omega), decide_eq_true (show (at_ : Int) ≤ ((bytesD b).rows.length : Int) by rw [hlen]; omega)⟩) (dcall (dRead_sp B (by omega)) rfl ?_ rfl ?_)
  ·rw [hB]
   exact congrArg (fun d => [d]) (drop_den (l := b) (env := [bytesD b, .I (n : Int)] ++ [cellsD out, .I (at_ : Int)]) (A := .V 0) (X := .V 3) (k := at_) rfl rfl)
  rw [r1]
  refine deq (fun q => ?_) fun q => err er1 (e1 er1 _ _ (run3_e1 r1 (fun h => q (by subst h; rfl))) (fun h => q (by subst h; rfl))) rfl
  replace q : (er1 : Int) = 0 := q
  obtain rfl : er1 = 0 := by omega
  obtain ⟨a2, k2, er2, r2⟩ := readL_split (B.drop k1)
  obtain ⟨c1, c2, c3⟩ := readL_bd (B.drop k1)
  rw [r2, List.length_drop] at c2
  rw [r2] at c1 c3
  simp only at c1 c2 c3
  have d2 : B.drop k1 = b.drop (at_ + k1) := by rw [hB, List.drop_drop]
  refine dfit (show (-9223372036854775808 : Int) ≤ (at_ : Int) + (k1 : Int) by omega) (show (at_ : Int) + (k1 : Int) ≤ 9223372036854775807 by omega) (dneed rfl ?_)
  refine dneed (Bool.and_eq_true_iff.2 ⟨decide_eq_true (show (0 : Int) ≤ (at_ : Int) + (k1 : Int) by omega), decide_eq_true (show (at_ : Int) + (k1 : Int) ≤ ((bytesD b).rows.length : Int) by rw [hlen]; omega)⟩) (dcall (dRead_sp (B.drop k1) (by simp; omega)) rfl ?_ rfl ?_)
  ·rw [d2]
   exact congrArg (fun d => [d]) (drop_den (l := b) (env := [bytesD b, .I (n : Int)] ++ [cellsD out, .I (at_ : Int)] ++ r3D (a1, k1, 0)) (A := .V 0) (X := .O .add (.V 3) (.V 5)) (k := at_ + k1) rfl (show (at_ : Int) + (k1 : Int) = ((at_ + k1 : Nat) : Int) by omega))
  rw [r2]
  refine deq (fun q => ?_) fun q => err er2 (e1 er2 _ _ (run3_e2 r1 r2 (fun h => q (by subst h; rfl))) (fun h => q (by subst h; rfl))) rfl
  replace q : (er2 : Int) = 0 := q
  obtain rfl : er2 = 0 := by omega
  obtain ⟨a3, k3, er3, r3⟩ := readL_split (B.drop (k1 + k2))
  obtain ⟨f1, f2, f3⟩ := readL_bd (B.drop (k1 + k2))
  rw [r3, List.length_drop] at f2
  rw [r3] at f1 f3
  simp only at f1 f2 f3
  have d3 : B.drop (k1 + k2) = b.drop (at_ + k1 + k2) := by rw [hB, List.drop_drop, Nat.add_assoc]
  refine dfit (show (-9223372036854775808 : Int) ≤ (at_ : Int) + (k1 : Int) + k2 by omega) (show (at_ : Int) + (k1 : Int) + k2 ≤ 9223372036854775807 by omega) (dneed rfl ?_)
  refine dneed (Bool.and_eq_true_iff.2 ⟨decide_eq_true (show (0 : Int) ≤ (at_ : Int) + (k1 : Int) + k2 by omega), decide_eq_true (show (at_ : Int) + (k1 : Int) + k2 ≤ ((bytesD b).rows.length : Int) by rw [hlen]; omega)⟩) (dcall (dRead_sp (B.drop (k1 + k2)) (by simp; omega)) rfl ?_ rfl ?_)
  ·rw [d3]
   exact congrArg (fun d => [d]) (drop_den (l := b) (env := [bytesD b, .I (n : Int)] ++ [cellsD out, .I (at_ : Int)] ++ r3D (a1, k1, 0) ++ r3D (a2, k2, 0)) (A := .V 0) (X := .O .add (.O .add (.V 3) (.V 5)) (.V 8)) (k := at_ + k1 + k2) rfl (show (at_ : Int) + (k1 : Int) + k2 = ((at_ + k1 + k2 : Nat) : Int) by omega))
  rw [r3]
  refine deq (fun q => ?_) fun q => err er3 (e1 er3 _ _ (run3_e3 r1 r2 r3 (fun h => q (by subst h; rfl))) (fun h => q (by subst h; rfl))) rfl
  replace q : (er3 : Int) = 0 := q
  obtain rfl : er3 = 0 := by omega
  have hr := run3_ok r1 r2 r3
  have e2 := e2 _ _ _ _ hr
  have e3 := e3 _ _ _ _ hr
  clear e1 b3 c3 f3
  have hw : U.den (.wrap .u64) (.I ((n : Int) - ((cellsD out).rows.length : Int))) = .I ((n - out.length : Nat) : Int) := wrapU (by omega) (show (n : Int) - ((cellsD out).rows.length : Int) = _ by rw [hol]; omega)
  refine dfit (show (-9223372036854775808 : Int) ≤ (at_ : Int) + (k1 : Int) + k2 + k3 by omega) (show (at_ : Int) + (k1 : Int) + k2 + k3 ≤ 9223372036854775807 by omega) (dneed rfl ?_)
  refine deq (fun q1 => err 21 (e2 (.inl (.inl ?_))) rfl) fun q1 => dfit (show (-9223372036854775808 : Int) ≤ (n : Int) - ((cellsD out).rows.length : Int) by rw [hol]; omega) (show (n : Int) - ((cellsD out).rows.length : Int) ≤ 9223372036854775807 by rw [hol]; omega) (dlt (fun q2 => err 21 (e2 (.inl (.inr (.inl ?_)))) rfl) fun q2 => dlt (fun q3 => err 21 (e2 (.inl (.inr (.inr (.inl ?_))))) rfl) fun q3 => dle (fun q4 => err 21 (e2 (.inl (.inr (.inr (.inr ?_))))) rfl) fun q4 => ?_)
  ·replace q1 : (a1 : Int) = 0 := q1
   omega
  ·have q2 : (U.den (.wrap .u64) (.I ((n : Int) - ((cellsD out).rows.length : Int)))).int < (a1 : Int) := q2
   rw [hw] at q2
   replace q2 : ((n - out.length : Nat) : Int) < (a1 : Int) := q2
   omega
  ·replace q3 : (1114111 : Int) < a2 := q3
   omega
  ·replace q4 : (16384 : Int) ≤ a3 := q4
   omega
  replace q1 : ¬ (a1 : Int) = 0 := q1
  have q2 : ¬ (U.den (.wrap .u64) (.I ((n : Int) - ((cellsD out).rows.length : Int)))).int < (a1 : Int) := q2
  rw [hw] at q2
  replace q2 : ¬ ((n - out.length : Nat) : Int) < (a1 : Int) := q2
  replace q3 : ¬ (1114111 : Int) < a2 := q3
  replace q4 : ¬ (16384 : Int) ≤ a3 := q4
  have hc := cell3 (x := a2) (y := a3) (by omega) (by omega)
  refine dcall (cellRight_sp (cellOf a2 a3)) rfl hc rfl (dbr (fun q5 => ?_) fun q5 => err 21 (e2 (.inr (.inl q5))) rfl)
  replace q5 : cellB (cellOf a2 a3) = true := q5
  generalize hcc : cellOf a2 a3 = c at *
  have hc1 : (U.den (.wrap .i32) (.I (a2 : Int))).int = c.r := by have := congrArg (fun l : List DV => (l.getD 0 (.I 0)).int) hc; exact this
  have hc2 : (U.den (.wrap .u16) (U.den (.wrap .u64) (O.den .quo (.I (a3 : Int)) (.I 4)))).int = c.a := by have := congrArg (fun l : List DV => (l.getD 1 (.I 0)).int) hc; exact this
  have hc3 : (U.den (.wrap .u8) (O.den .rem (.I (a3 : Int)) (.I 4))).int = c.h := by have := congrArg (fun l : List DV => (l.getD 2 (.I 0)).int) hc; exact this
  have more : ∀ (hq : out.getLast? ≠ some c), (Tree.loop [.V 2, .I 0] (.br (.O .lt (.V 15) (.V 4)) (.need (.O .le (.O .add (.U .len (.V 14)) (.U .len (.O .app .N (.U .one (.O .cns (.O .cns (.O .cns .R (.U (.wrap .i32) (.V 7))) (.U (.wrap .u16) (.U (.wrap .u64) (.O .quo (.V 10) (.I 4))))) (.U (.wrap .u8) (.O .rem (.V 10) (.I 4)))))))) (.I 1099511627776)) (.again 1 [.O .app (.V 14) (.O .app .N (.U .one (.O .cns (.O .cns (.O .cns .R (.U (.wrap .i32) (.V 7))) (.U (.wrap .u16) (.U (.wrap .u64) (.O .quo (.V 10) (.I 4))))) (.U (.wrap .u8) (.O .rem (.V 10) (.I 4)))))), .U (.wrap .u64) (.O .add (.V 15) (.I 1))])) (.again 0 [.V 14, .O .add (.O .add (.O .add (.V 3) (.V 5)) (.V 8)) (.V 11)]))).den SpF1 (fun es => es = rCD (readF n n b [] 0)) ([bytesD b, .I (n : Int)] ++ [cellsD out, .I (at_ : Int)] ++ r3D (a1, k1, 0) ++ r3D (a2, k2, 0) ++ r3D (a3, k3, 0) ++ [DV.B (cellB c)]) ([] ++ [fun v => ∃ a' : List Cl × Nat, v = [cellsD a'.1, .I (a'.2 : Int)] ∧ (a'.1.length ≤ n ∧ a'.2 ≤ b.length ∧ readF n n (b.drop a'.2) a'.1 a'.2 = readF n n b [] 0) ∧ n - a'.1.length < n - out.length]) := fun hq => by
   refine dloop (fun i : Nat => [cellsD (out ++ List.replicate i c), .I (i : Int)]) (fun i => i ≤ a1) (fun i => a1 - i) 0 (by rw [List.replicate_zero, List.append_nil]; rfl) (Nat.zero_le _) fun i hi _ => ?_
   refine dlt (fun g2 => ?_) fun g2 => ?_
   ·replace g2 : (i : Int) < a1 := g2
    refine nle (le40 (n := out.length + i + 1) ?_ (by omega)) (dagain rfl ⟨i + 1, ?_, by omega, by omega⟩)
    ·show ((cellsD (out ++ List.replicate i c)).rows.length : Int) + 1 = _
     rw [cells_len, List.length_append, List.length_replicate]; omega
    ·have x1 : O.den .app (cellsD (out ++ List.replicate i c)) (.L [[U.den (.wrap .i32) (.I (a2 : Int)), U.den (.wrap .u16) (U.den (.wrap .u64) (O.den .quo (.I (a3 : Int)) (.I 4))), U.den (.wrap .u8) (O.den .rem (.I (a3 : Int)) (.I 4))]]) = cellsD (out ++ List.replicate (i + 1) c) := by
      rw [hc, List.replicate_succ', ← List.append_assoc]
      simp [O.den, cellsD, DV.rows]
     have x2 : U.den (.wrap .u64) (.I ((i : Int) + 1)) = .I ((i + 1 : Nat) : Int) := wrapU (by omega) (show (i : Int) + 1 = _ by omega)
     exact (congrArg (fun d => [d, U.den (.wrap .u64) (.I ((i : Int) + 1))]) x1).trans (congrArg (fun d => [cellsD (out ++ List.replicate (i + 1) c), d]) x2)
   ·replace g2 : ¬ (i : Int) < a1 := g2
    have : i = a1 := by omega
    subst this
    refine dagain rfl ⟨(out ++ List.replicate i c, at_ + (k1 + k2 + k3)), ?_, ⟨by simp only [List.length_append, List.length_replicate]; omega, by simp only; omega, ?_⟩, by simp only [List.length_append, List.length_replicate]; omega⟩
    ·exact congrArg (fun d => [cellsD (out ++ List.replicate i c), DV.I d]) (show (at_ : Int) + (k1 : Int) + k2 + k3 = ((at_ + (k1 + k2 + k3) : Nat) : Int) by omega)
    ·simp only
     rw [e3 (by omega) (by rw [q5]; simp; exact hq), hB, List.drop_drop]
  refine dlt (fun g2 => ?_) fun g2 => more ?_
  ·have g2 : (0 : Int) < ((cellsD out).rows.length : Int) := g2
   rw [hol] at g2
   have hla := last_at (l := out) (by omega)
   have ro := cells_at (l := out) (k := out.length - 1) (by omega)
   have i1 : (((cellsD out).rows.length : Int) - 1).toNat = out.length - 1 := by rw [hol]; omega
   have at3 : ∀ (j : Nat), (((cellsD out).rows.getD (((cellsD out).rows.length : Int) - 1).toNat []).getD j (.I 0)) = (clD (out[out.length - 1]'(by omega))).getD j (.I 0) := fun j => by rw [i1, ro]
   refine dfit (show (-9223372036854775808 : Int) ≤ ((cellsD out).rows.length : Int) - 1 by rw [hol]; omega) (show ((cellsD out).rows.length : Int) - 1 ≤ 9223372036854775807 by rw [hol]; omega) (dwithin (show (0 : Int) ≤ ((cellsD out).rows.length : Int) - 1 by rw [hol]; omega) (show ((cellsD out).rows.length : Int) - 1 < ((cellsD out).rows.length : Int) by omega) ?_)
   have hE := cond3 (env := [bytesD b, .I (n : Int)] ++ [cellsD out, .I (at_ : Int)] ++ r3D (a1, k1, 0) ++ r3D (a2, k2, 0) ++ r3D (a3, k3, 0) ++ [DV.B (cellB c)]) (a1 := .O (.at 0) (.V 2) (.O .sub (.U .len (.V 2)) (.I 1))) (a2 := .O (.at 1) (.V 2) (.O .sub (.U .len (.V 2)) (.I 1))) (a3 := .O (.at 2) (.V 2) (.O .sub (.U .len (.V 2)) (.I 1))) (b1 := .U (.wrap .i32) (.V 7)) (b2 := .U (.wrap .u16) (.U (.wrap .u64) (.O .quo (.V 10) (.I 4)))) (b3 := .U (.wrap .u8) (.O .rem (.V 10) (.I 4))) (x := (out[out.length - 1]'(by omega))) (y := c) (congrArg DV.int (at3 0)) (congrArg DV.int (at3 1)) (congrArg DV.int (at3 2)) hc1 hc2 hc3
   refine dbr (fun q6 => ?_) fun q6 => more ?_
   ·have q6 : decide (_ = _) = true := hE.symm.trans q6
    have q6 := of_decide_eq_true q6
    exact err 21 (e2 (.inr (.inr (by rw [hla]; exact congrArg some q6)))) rfl
   ·have q6 : decide (_ = _) = false := hE.symm.trans q6
    have q6 := of_decide_eq_false q6
    rw [hla]
    exact fun h => q6 (Option.some.inj h)
  ·have g2 : ¬ (0 : Int) < ((cellsD out).rows.length : Int) := g2
   rw [hol] at g2
   have : out = [] := List.eq_nil_of_length_eq_zero (by omega)
   rw [this]; simp
 ·have g : ¬ ((cellsD out).rows.length : Int) < n := g
  rw [hol] at g
  exact dret (by rw [← h4, readF_end _ _ _ _ _ (by omega)]; rfl)
theorem drop_denC {l : List Cl} {env : List DV} {A X : E} {k : Nat} (hA : A.den env = cellsD l) (hX : (X.den env).int = k) : (E.O .tk (.O .dr A X) (.O .sub (.U .len A) X)).den env = cellsD (l.drop k) := by
 show DV.L (((A.den env).rows.drop (X.den env).int.toNat).take ((((A.den env).rows.length : Nat) : Int) - (X.den env).int).toNat) = _
 rw [hA, hX]
 simp only [cellsD, DV.rows, Int.toNat_natCast, List.length_map, ← List.map_drop]
 rw [List.take_of_length_le (by simp)]
theorem sameN_is {c : Cl} {l : List Cl} {k : Nat} (hk : k ≤ l.length) (h1 : ∀ j, j < k → l[j]? = some c) (h2 : l[k]? ≠ some c) : sameN c l = k := by
 rcases Nat.lt_trichotomy (sameN c l) k with h | h | h
 ·exact absurd (h1 _ h) (sameN_stop c l (by omega))
 ·exact h
 ·exact absurd (sameN_at c l k h) h2
theorem firstRun_sp {l : List Cl} {c : Cl} (hl : l.length ≤ 1048576) (hc : l[0]? = some c) : Spn n_runs_firstRun sg_runs_firstRun [cellsD l] [.I (sameN c l : Int), .I c.r, .I (c.a : Int), .I (c.h : Int)] := by
 have hlen := cells_len l
 have h0 : 0 < l.length := (List.getElem?_eq_some_iff.1 hc).1
 have hc0 : l[0] = c := (List.getElem?_eq_some_iff.1 hc).2
 have e0 := cells_at h0
 rw [hc0] at e0
 have fin : ∀ (k : Nat), sameN c l = k → k ≤ 1048576 → [U.den (.wrap .u64) (.I (k : Int)), ((cellsD l).rows.getD 0 []).getD 0 (.I 0), ((cellsD l).rows.getD 0 []).getD 1 (.I 0), ((cellsD l).rows.getD 0 []).getD 2 (.I 0)] = [.I (sameN c l : Int), .I c.r, .I (c.a : Int), .I (c.h : Int)] := fun k hk hk2 => by
  rw [e0, hk, wrapU (by omega) rfl]; rfl
 refine rd_runs_firstRun rfl (dloop (fun k : Nat => [.I (k : Int)]) (fun k => 1 ≤ k ∧ k ≤ l.length ∧ ∀ j, j < k → l[j]? = some c) (fun k => l.length - k) 1 rfl ⟨Nat.le_refl _, h0, fun j hj => by rw [show j = 0 by omega]; exact hc⟩ fun k hk _ => ?_)
 obtain ⟨hk1, hk2, hk3⟩ := hk
 refine dlt (fun g => ?_) fun g => ?_
 ·replace g : (k : Int) < l.length := by rw [← cells_len]; exact g
  have k1 : k < l.length := by omega
  have hE := cellEq (env := [cellsD l] ++ [DV.I (k : Int)]) (A := .V 0) (B := .V 0) (I := .V 1) (J := .I 0) (l := l) (m := l) (k := k) (j := 0) rfl rfl rfl rfl k1 h0
  rw [hc0] at hE
  refine nle (show (0 : Int) ≤ k by omega) (nlt (show (0 : Int) < ((cellsD l).rows.length : Int) by rw [hlen]; omega) (dbr (fun q => ?_) fun q => ?_))
  ·have q : decide (_ = _) = true := hE.symm.trans q
   have q := of_decide_eq_true q
   refine dfit (show (-9223372036854775808 : Int) ≤ (k : Int) + 1 by omega) (show (k : Int) + 1 ≤ 9223372036854775807 by omega) (dagain rfl ⟨k + 1, rfl, ⟨by omega, by omega, fun j hj => ?_⟩, by omega⟩)
   rcases Nat.lt_succ_iff_lt_or_eq.1 hj with hj | rfl
   ·exact hk3 j hj
   ·rw [List.getElem?_eq_getElem k1, q]
  ·have q : decide (_ = _) = false := hE.symm.trans q
   have q := of_decide_eq_false q
   exact dret (fin k (sameN_is hk2 hk3 (by rw [List.getElem?_eq_getElem k1]; exact fun h => q (Option.some.inj h))) (by omega))
 ·replace g : ¬ (k : Int) < l.length := by rw [← cells_len]; exact g
  exact nlt (show (0 : Int) < ((cellsD l).rows.length : Int) by rw [hlen]; omega) (dret (fin k (sameN_is hk2 hk3 (by rw [List.getElem?_eq_none (by omega)]; simp)) (by omega)))
theorem putRun_sp (N : Nat) (c : Cl) (hN : N ≤ 1048576) (hc : cellB c = true) : Spn n_runs_putRun sg_runs_putRun [.I (N : Int), .I c.r, .I (c.a : Int), .I (c.h : Int)] [bytesD (runB N c)] := by
 obtain ⟨h1, h2, h3, h4⟩ := cellB_bd hc
 have l1 := (lebP_length N).2
 have l2 := (lebP_length c.r.toNat).2
 have l3 := (lebP_length (4 * c.a + c.h)).2
 refine rd_runs_putRun rfl (dcall (pLebPut_sp N (by omega)) rfl rfl rfl (dcall (pLebPut_sp c.r.toNat (by omega)) rfl ?_ rfl (nle (le40 (n := (lebP N).length + (lebP c.r.toNat).length) ?_ (by omega)) (dcall (pLebPut_sp (4 * c.a + c.h) (by omega)) rfl ?_ rfl (nle (le40 (n := (lebP N ++ lebP c.r.toNat).length + (lebP (4 * c.a + c.h)).length) ?_ (by simp; omega)) (dret ?_))))))
 ·have : U.den (.wrap .u64) (.I c.r) = .I (c.r.toNat : Int) := wrapU (by omega) (show c.r = _ by omega)
  exact congrArg (fun d => [d]) this
 ·show ((bytesD (lebP N)).rows.length : Int) + ((bytesD (lebP c.r.toNat)).rows.length : Int) = _
  rw [bytes_len, bytes_len]; omega
 ·have x1 : U.den (.wrap .u64) (.I (4 * (c.a : Int))) = .I ((4 * c.a : Nat) : Int) := wrapU (by omega) (show 4 * (c.a : Int) = _ by omega)
  have x2 : U.den (.wrap .u64) (O.den .add (U.den (.wrap .u64) (.I (4 * (c.a : Int)))) (.I (c.h : Int))) = .I ((4 * c.a + c.h : Nat) : Int) := wrapU (by omega) (by rw [x1]; show ((4 * c.a : Nat) : Int) + (c.h : Int) = _; omega)
  exact congrArg (fun d => [d]) x2
 ·show ((O.den .app (bytesD (lebP N)) (bytesD (lebP c.r.toNat))).rows.length : Int) + ((bytesD (lebP (4 * c.a + c.h))).rows.length : Int) = _
  rw [bytes_app2, bytes_len, bytes_len]; omega
 ·show [O.den .app (O.den .app (bytesD (lebP N)) (bytesD (lebP c.r.toNat))) (bytesD (lebP (4 * c.a + c.h)))] = _
  rw [bytes_app2, bytes_app2, List.append_assoc]; rfl
theorem sameN_pos {c : Cl} {l : List Cl} (hc : l[0]? = some c) : 0 < sameN c l := by
 rcases Nat.eq_zero_or_pos (sameN c l) with h | h
 ·have := (List.getElem?_eq_some_iff.1 hc).1
  exact absurd (by rw [h]; exact hc) (sameN_stop c l (by omega))
 ·exact h
theorem bytL_first {c : Cl} {l : List Cl} (hc : l[0]? = some c) : bytL l = runB (sameN c l) c ++ bytL (l.drop (sameN c l)) := by
 cases l with
 | nil => cases hc
 | cons x r =>
  simp only [List.getElem?_cons_zero, Option.some.injEq] at hc
  subst hc
  have e : sameN x (x :: r) = sameN x r + 1 := by simp [sameN]
  rw [bytL_cons, e, List.drop_succ_cons]
theorem pPutC_sp (l : List Cl) (hl : l.length ≤ 1048576) : Spn n_runs_Put sg_runs_Put [cellsD l] [bytesD (putCL l).1, .I ((putCL l).2 : Int)] := by
 refine rd_runs_Put rfl (dloop (fun k : Nat => [.I (k : Int)]) (fun k => k ≤ l.length ∧ ∀ j (h : j < l.length), j < k → cellB l[j] = true) (fun k => l.length - k) 0 rfl ⟨Nat.zero_le _, fun j h hj => absurd hj (by omega)⟩ fun k hk _ => ?_)
 obtain ⟨hk, ha⟩ := hk
 refine dlt (fun g => ?_) fun g => ?_
 ·replace g : (k : Int) < l.length := by rw [← cells_len]; exact g
  have k1 : k < l.length := by omega
  have e1 := cells_at k1
  have e2 : [(cellsD l).rows.getD k [] |>.getD 0 (.I 0), (cellsD l).rows.getD k [] |>.getD 1 (.I 0), (cellsD l).rows.getD k [] |>.getD 2 (.I 0)] = [DV.I l[k].r, .I l[k].a, .I l[k].h] := by rw [e1]; rfl
  refine nle (show (0 : Int) ≤ k by omega) (dcall (runsRight_sp l[k]) rfl e2 rfl (dbr (fun h => ?_) fun h => dret ?_))
  ·refine dfit (show (-9223372036854775808 : Int) ≤ (k : Int) + 1 by omega) (show (k : Int) + 1 ≤ 9223372036854775807 by omega) (dagain rfl ⟨k + 1, rfl, ⟨by omega, fun j hj hjk => ?_⟩, by omega⟩)
   rcases Nat.lt_succ_iff_lt_or_eq.1 hjk with h' | rfl
   ·exact ha j hj h'
   ·exact h
  ·rw [putCL_no (List.getElem_mem k1) h]; rfl
 ·replace g : ¬ (k : Int) < l.length := by rw [← cells_len]; exact g
  have hall : ∀ x ∈ l, cellB x = true := fun x hx => by
   obtain ⟨j, hj, rfl⟩ := List.mem_iff_getElem.1 hx
   exact ha j hj (by omega)
  rw [putCL_yes hall]
  have hbl := bytL_len l
  refine dloop (fun s : List Cl × List UInt8 => [cellsD s.1, bytesD s.2]) (fun s => s.2 ++ bytL s.1 = bytL l ∧ (∀ x ∈ s.1, cellB x = true) ∧ s.1.length ≤ l.length) (fun s => s.1.length) (l, []) rfl ⟨rfl, hall, Nat.le_refl _⟩ fun s hs _ => ?_
  obtain ⟨rest, out⟩ := s
  obtain ⟨s1, s2, s3⟩ := hs
  simp only at s1 s2 s3
  have hrl := cells_len rest
  have hout := congrArg List.length s1
  rw [List.length_append] at hout
  refine dlt (fun g2 => ?_) fun g2 => ?_
  ·have g2 : (0 : Int) < ((cellsD rest).rows.length : Int) := g2
   rw [hrl] at g2
   have r0 : 0 < rest.length := by omega
   have hc : rest[0]? = some rest[0] := List.getElem?_eq_getElem r0
   have hN := sameN_le rest[0] rest
   have hp := sameN_pos hc
   have hf := bytL_first hc
   have hru := runB_len (sameN rest[0] rest) rest[0]
   refine dcall (firstRun_sp (by omega) hc) rfl rfl rfl (dcall (putRun_sp (sameN rest[0] rest) rest[0] (by omega) (s2 _ (List.getElem_mem r0))) rfl rfl rfl ?_)
   generalize rest[0] = c at *
   refine nle (le40 (n := out.length + (runB (sameN c rest) c).length) ?_ (by omega)) (dneed (Bool.and_eq_true_iff.2 ⟨decide_eq_true (show (0 : Int) ≤ (sameN c rest : Int) by omega), decide_eq_true (show (sameN c rest : Int) ≤ ((cellsD rest).rows.length : Int) by rw [hrl]; omega)⟩) (dagain rfl ⟨(rest.drop (sameN c rest), out ++ runB (sameN c rest) c), ?_, ⟨?_, fun x hx => s2 x (List.mem_of_mem_drop hx), by simp; omega⟩, by simp; omega⟩))
   ·show ((bytesD out).rows.length : Int) + ((bytesD (runB (sameN c rest) c)).rows.length : Int) = _
    rw [bytes_len, bytes_len]; omega
   ·have x1 := drop_denC (l := rest) (env := [cellsD l] ++ [DV.I (k : Int)] ++ [cellsD rest, bytesD out] ++ [.I (sameN c rest : Int), .I c.r, .I (c.a : Int), .I (c.h : Int)] ++ [bytesD (runB (sameN c rest) c)]) (A := .V 2) (X := .V 4) (k := sameN c rest) rfl rfl
    exact (congrArg (fun d => [d, O.den .app (bytesD out) (bytesD (runB (sameN c rest) c))]) x1).trans (congrArg (fun d => [cellsD (rest.drop (sameN c rest)), d]) (bytes_app2 _ _))
   ·simp only
    rw [← s1, hf, List.append_assoc]
  ·have g2 : ¬ (0 : Int) < ((cellsD rest).rows.length : Int) := g2
   rw [hrl] at g2
   have : rest = [] := List.eq_nil_of_length_eq_zero (by omega)
   subst this
   refine dret ?_
   rw [← s1, show bytL [] = [] from rfl, List.append_nil]; rfl
section
variable {m : Int} {pv : Nat} {ps : List Int} {is us : List UInt8} {v : Bool}
theorem parLoop1 (hp : ps.length ≤ 1048576) (hi : is.length ≤ 1048576) (hv : v = true ↔ RightP m pv ps is us) {cx : List (List DV → Prop)} (hcx : cx = [])
  (hin : (∀ x ∈ ps, 0 ≤ x ∧ x ≤ 65535) → (∀ b ∈ is, interB b = true) → ∀ (k j : Nat) cx, (.br (.O .eq (.V 1) (.I 0)) (.br (.O .eq (.U .len (.V 2)) (.I 0)) (.ret [.O .beq (.O .eq (.V 0) (.I 5)) (.O .lt (.I 0) (.U .len (.V 3)))]) (.ret [.B false])) (.br (.O .lt (.V 1) (.I 60)) (.ret [.B false]) (.br (.O .lt (.I 63) (.V 1)) (.ret [.B false]) (.ret [.B false]))) : Tree).den SpF1 (fun es => es = [DV.B v]) (prR m pv ps is us ++ [DV.B (beginsL us)] ++ [DV.I (k : Int)] ++ [DV.I (j : Int)]) cx) :
  (Tree.loop [.I 0] (.br (.O .lt (.V 6) (.U .len (.V 2))) (.need (.O .le (.I 0) (.V 6)) (.br (.O .lt (.O (.at 0) (.V 2) (.V 6)) (.I 0)) (.ret [.B false]) (.br (.O .lt (.I 65535) (.O (.at 0) (.V 2) (.V 6))) (.ret [.B false]) (.need (.U (.fit .i64) (.O .add (.V 6) (.I 1))) (.again 0 [.O .add (.V 6) (.I 1)]))))) (.loop [.I 0] (.br (.O .lt (.V 7) (.U .len (.V 3))) (.need (.O .le (.I 0) (.V 7)) (.call n_r7_inter [.O (.at 0) (.V 3) (.V 7)] 1 (.br (.V 8) (.need (.U (.fit .i64) (.O .add (.V 7) (.I 1))) (.again 1 [.O .add (.V 7) (.I 1)])) (.ret [.B false])))) (.br (.O .eq (.V 1) (.I 0)) (.br (.O .eq (.U .len (.V 2)) (.I 0)) (.ret [.O .beq (.O .eq (.V 0) (.I 5)) (.O .lt (.I 0) (.U .len (.V 3)))]) (.ret [.B false])) (.br (.O .lt (.V 1) (.I 60)) (.ret [.B false]) (.br (.O .lt (.I 63) (.V 1)) (.ret [.B false]) (.ret [.B false])))))))).den SpF1 (fun es => es = [DV.B v]) (prR m pv ps is us ++ [DV.B (beginsL us)]) cx := by
 subst hcx
 refine dloop (fun k : Nat => [.I (k : Int)]) (fun k => k ≤ ps.length ∧ ∀ j (h : j < ps.length), j < k → 0 ≤ ps[j] ∧ ps[j] ≤ 65535) (fun k => ps.length - k) 0 rfl ⟨Nat.zero_le _, fun j h hj => absurd hj (by omega)⟩ fun k hk _ => ?_
 obtain ⟨hk, ha⟩ := hk
 refine dlt (fun g => ?_) fun g => ?_
 ·replace g : (k : Int) < ps.length := by rw [← ints_len]; exact g
  have k1 : k < ps.length := by omega
  have e1 := ints_at k1
  have ek : ∀ (x : DV), x = .I ps[k] → x.int = ps[k] := fun x hx => by rw [hx]; rfl
  have no : ¬ (0 ≤ ps[k] ∧ ps[k] ≤ 65535) → ¬ RightP m pv ps is us := fun h g => h (g.2.1 _ (List.getElem_mem k1))
  refine nle (show (0 : Int) ≤ k by omega) (dlt (fun h => ret_f hv (no ?_)) fun h => dlt (fun h2 => ret_f hv (no ?_)) fun h2 => dfit (show (-9223372036854775808 : Int) ≤ (k : Int) + 1 by omega) (show (k : Int) + 1 ≤ 9223372036854775807 by omega) (dagain rfl ⟨k + 1, rfl, ⟨by omega, fun j hj hjk => ?_⟩, by omega⟩))
  ·have h : ps[k] < 0 := (ek _ e1) ▸ h
   omega
  ·have h2 : 65535 < ps[k] := (ek _ e1) ▸ h2
   omega
  ·rcases Nat.lt_succ_iff_lt_or_eq.1 hjk with h' | rfl
   ·exact ha j hj h'
   ·have h : ¬ ps[j] < 0 := (ek _ e1) ▸ h
    have h2 : ¬ 65535 < ps[j] := (ek _ e1) ▸ h2
    omega
 ·replace g : ¬ (k : Int) < ps.length := by rw [← ints_len]; exact g
  have hps : ∀ x ∈ ps, 0 ≤ x ∧ x ≤ 65535 := fun x hx => by
   obtain ⟨j, hj, rfl⟩ := List.mem_iff_getElem.1 hx
   exact ha j hj (by omega)
  refine dloop (fun k : Nat => [.I (k : Int)]) (fun k => k ≤ is.length ∧ ∀ j (h : j < is.length), j < k → interB is[j] = true) (fun k => is.length - k) 0 rfl ⟨Nat.zero_le _, fun j h hj => absurd hj (by omega)⟩ fun j hj _ => ?_
  obtain ⟨hj, hb⟩ := hj
  refine dlt (fun g2 => ?_) fun g2 => ?_
  ·replace g2 : (j : Int) < is.length := by rw [← bytes_len]; exact g2
   have j1 : j < is.length := by omega
   refine nle (show (0 : Int) ≤ j by omega) (dcall (inter_sp is[j]) rfl (congrArg (fun d => [d]) (bytes_at j1)) rfl (dbr (fun h => dfit (show (-9223372036854775808 : Int) ≤ (j : Int) + 1 by omega) (show (j : Int) + 1 ≤ 9223372036854775807 by omega) (dagain rfl ⟨j + 1, rfl, ⟨by omega, fun i hi hij => ?_⟩, by omega⟩)) fun h => ret_f hv ?_))
   ·rcases Nat.lt_succ_iff_lt_or_eq.1 hij with h' | rfl
    ·exact hb i hi h'
    ·exact h
   ·replace h : interB is[j] = false := h
    exact fun g => by rw [g.2.2.1 _ (List.getElem_mem j1)] at h; cases h
  ·replace g2 : ¬ (j : Int) < is.length := by rw [← bytes_len]; exact g2
   exact hin hps (fun x hx => by
     obtain ⟨i, hi, rfl⟩ := List.mem_iff_getElem.1 hx
     exact hb i hi (by omega)) k j _
theorem parLoop2 (hp : ps.length ≤ 1048576) (hi : is.length ≤ 1048576) (hv : v = true ↔ RightP m pv ps is us) {cx : List (List DV → Prop)} (hcx : cx = [])
  (hin : (∀ x ∈ ps, 0 ≤ x ∧ x ≤ 65535) → (∀ b ∈ is, interB b = true) → ∀ (k j : Nat) cx, (.br (.O .eq (.V 1) (.I 0)) (.br (.O .eq (.V 0) (.I 4)) (.ret [.O .beq (.O .eq (.V 0) (.I 5)) (.O .lt (.I 0) (.U .len (.V 3)))]) (.br (.O .eq (.V 0) (.I 2)) (.br (.O .eq (.U .len (.V 2)) (.I 0)) (.ret [.O .beq (.B true) (.O .lt (.I 0) (.U .len (.V 3)))]) (.ret [.B false])) (.br (.O .eq (.V 0) (.I 5)) (.ret [.O .beq (.O .eq (.V 0) (.I 5)) (.O .lt (.I 0) (.U .len (.V 3)))]) (.br (.O .eq (.U .len (.V 2)) (.I 0)) (.ret [.O .beq (.O .eq (.V 0) (.I 5)) (.O .lt (.I 0) (.U .len (.V 3)))]) (.ret [.B false]))))) (.br (.O .lt (.V 1) (.I 60)) (.ret [.B false]) (.br (.O .lt (.I 63) (.V 1)) (.ret [.B false]) (.br (.O .eq (.V 0) (.I 4)) (.ret [.O .beq (.O .eq (.V 0) (.I 5)) (.O .lt (.I 0) (.U .len (.V 3)))]) (.br (.O .eq (.V 0) (.I 2)) (.ret [.B false]) (.br (.O .eq (.V 0) (.I 5)) (.ret [.O .beq (.O .eq (.V 0) (.I 5)) (.O .lt (.I 0) (.U .len (.V 3)))]) (.ret [.B false])))))) : Tree).den SpF1 (fun es => es = [DV.B v]) (prR m pv ps is us ++ [DV.I (k : Int)] ++ [DV.I (j : Int)]) cx) :
  (Tree.loop [.I 0] (.br (.O .lt (.V 5) (.U .len (.V 2))) (.need (.O .le (.I 0) (.V 5)) (.br (.O .lt (.O (.at 0) (.V 2) (.V 5)) (.I 0)) (.ret [.B false]) (.br (.O .lt (.I 65535) (.O (.at 0) (.V 2) (.V 5))) (.ret [.B false]) (.need (.U (.fit .i64) (.O .add (.V 5) (.I 1))) (.again 0 [.O .add (.V 5) (.I 1)]))))) (.loop [.I 0] (.br (.O .lt (.V 6) (.U .len (.V 3))) (.need (.O .le (.I 0) (.V 6)) (.call n_r7_inter [.O (.at 0) (.V 3) (.V 6)] 1 (.br (.V 7) (.need (.U (.fit .i64) (.O .add (.V 6) (.I 1))) (.again 1 [.O .add (.V 6) (.I 1)])) (.ret [.B false])))) (.br (.O .eq (.V 1) (.I 0)) (.br (.O .eq (.V 0) (.I 4)) (.ret [.O .beq (.O .eq (.V 0) (.I 5)) (.O .lt (.I 0) (.U .len (.V 3)))]) (.br (.O .eq (.V 0) (.I 2)) (.br (.O .eq (.U .len (.V 2)) (.I 0)) (.ret [.O .beq (.B true) (.O .lt (.I 0) (.U .len (.V 3)))]) (.ret [.B false])) (.br (.O .eq (.V 0) (.I 5)) (.ret [.O .beq (.O .eq (.V 0) (.I 5)) (.O .lt (.I 0) (.U .len (.V 3)))]) (.br (.O .eq (.U .len (.V 2)) (.I 0)) (.ret [.O .beq (.O .eq (.V 0) (.I 5)) (.O .lt (.I 0) (.U .len (.V 3)))]) (.ret [.B false]))))) (.br (.O .lt (.V 1) (.I 60)) (.ret [.B false]) (.br (.O .lt (.I 63) (.V 1)) (.ret [.B false]) (.br (.O .eq (.V 0) (.I 4)) (.ret [.O .beq (.O .eq (.V 0) (.I 5)) (.O .lt (.I 0) (.U .len (.V 3)))]) (.br (.O .eq (.V 0) (.I 2)) (.ret [.B false]) (.br (.O .eq (.V 0) (.I 5)) (.ret [.O .beq (.O .eq (.V 0) (.I 5)) (.O .lt (.I 0) (.U .len (.V 3)))]) (.ret [.B false]))))))))))).den SpF1 (fun es => es = [DV.B v]) (prR m pv ps is us) cx := by
 subst hcx
 refine dloop (fun k : Nat => [.I (k : Int)]) (fun k => k ≤ ps.length ∧ ∀ j (h : j < ps.length), j < k → 0 ≤ ps[j] ∧ ps[j] ≤ 65535) (fun k => ps.length - k) 0 rfl ⟨Nat.zero_le _, fun j h hj => absurd hj (by omega)⟩ fun k hk _ => ?_
 obtain ⟨hk, ha⟩ := hk
 refine dlt (fun g => ?_) fun g => ?_
 ·replace g : (k : Int) < ps.length := by rw [← ints_len]; exact g
  have k1 : k < ps.length := by omega
  have e1 := ints_at k1
  have ek : ∀ (x : DV), x = .I ps[k] → x.int = ps[k] := fun x hx => by rw [hx]; rfl
  have no : ¬ (0 ≤ ps[k] ∧ ps[k] ≤ 65535) → ¬ RightP m pv ps is us := fun h g => h (g.2.1 _ (List.getElem_mem k1))
  refine nle (show (0 : Int) ≤ k by omega) (dlt (fun h => ret_f hv (no ?_)) fun h => dlt (fun h2 => ret_f hv (no ?_)) fun h2 => dfit (show (-9223372036854775808 : Int) ≤ (k : Int) + 1 by omega) (show (k : Int) + 1 ≤ 9223372036854775807 by omega) (dagain rfl ⟨k + 1, rfl, ⟨by omega, fun j hj hjk => ?_⟩, by omega⟩))
  ·have h : ps[k] < 0 := (ek _ e1) ▸ h
   omega
  ·have h2 : 65535 < ps[k] := (ek _ e1) ▸ h2
   omega
  ·rcases Nat.lt_succ_iff_lt_or_eq.1 hjk with h' | rfl
   ·exact ha j hj h'
   ·have h : ¬ ps[j] < 0 := (ek _ e1) ▸ h
    have h2 : ¬ 65535 < ps[j] := (ek _ e1) ▸ h2
    omega
 ·replace g : ¬ (k : Int) < ps.length := by rw [← ints_len]; exact g
  have hps : ∀ x ∈ ps, 0 ≤ x ∧ x ≤ 65535 := fun x hx => by
   obtain ⟨j, hj, rfl⟩ := List.mem_iff_getElem.1 hx
   exact ha j hj (by omega)
  refine dloop (fun k : Nat => [.I (k : Int)]) (fun k => k ≤ is.length ∧ ∀ j (h : j < is.length), j < k → interB is[j] = true) (fun k => is.length - k) 0 rfl ⟨Nat.zero_le _, fun j h hj => absurd hj (by omega)⟩ fun j hj _ => ?_
  obtain ⟨hj, hb⟩ := hj
  refine dlt (fun g2 => ?_) fun g2 => ?_
  ·replace g2 : (j : Int) < is.length := by rw [← bytes_len]; exact g2
   have j1 : j < is.length := by omega
   refine nle (show (0 : Int) ≤ j by omega) (dcall (inter_sp is[j]) rfl (congrArg (fun d => [d]) (bytes_at j1)) rfl (dbr (fun h => dfit (show (-9223372036854775808 : Int) ≤ (j : Int) + 1 by omega) (show (j : Int) + 1 ≤ 9223372036854775807 by omega) (dagain rfl ⟨j + 1, rfl, ⟨by omega, fun i hi hij => ?_⟩, by omega⟩)) fun h => ret_f hv ?_))
   ·rcases Nat.lt_succ_iff_lt_or_eq.1 hij with h' | rfl
    ·exact hb i hi h'
    ·exact h
   ·replace h : interB is[j] = false := h
    exact fun g => by rw [g.2.2.1 _ (List.getElem_mem j1)] at h; cases h
  ·replace g2 : ¬ (j : Int) < is.length := by rw [← bytes_len]; exact g2
   exact hin hps (fun x hx => by
     obtain ⟨i, hi, rfl⟩ := List.mem_iff_getElem.1 hx
     exact hb i hi (by omega)) k j _
theorem parserRight_sp (hp : ps.length ≤ 1048576) (hi : is.length ≤ 1048576) (hu : us.length ≤ 1048576) (hv : v = true ↔ RightP m pv ps is us) : Spn n_r7_ParserRight sg_r7_ParserRight (prR m pv ps is us) [.B v] := by
 have lp := ints_len ps
 have li := bytes_len is
 have lu := bytes_len us
 refine rd_r7_ParserRight rfl (dlt (fun h1 => ret_f hv ?_) fun h1 => dlt (fun h2 => ret_f hv ?_) fun h2 => dlt (fun h3 => ret_f hv ?_) fun h3 => dlt (fun h4 => ret_f hv ?_) fun h4 => ?_)
 ·replace h1 : m < 0 := h1
  exact fun g => by have := g.1.1; omega
 ·replace h2 : 7 < m := h2
  exact fun g => by have := g.1.2.1; omega
 ·have h3 : (16 : Int) < ((intsD ps).rows.length : Int) := h3
  rw [lp] at h3
  exact fun g => by have := g.1.2.2.1; omega
 ·have h4 : (2 : Int) < ((bytesD is).rows.length : Int) := h4
  rw [li] at h4
  exact fun g => by have := g.1.2.2.2.1; omega
 replace h1 : ¬ m < 0 := h1
 replace h2 : ¬ 7 < m := h2
 have h3 : ¬ (16 : Int) < ((intsD ps).rows.length : Int) := h3
 have h4 : ¬ (2 : Int) < ((bytesD is).rows.length : Int) := h4
 rw [lp] at h3
 rw [li] at h4
 have key : (0 < us.length → m = 0 ∧ beginsL us = true) → (∀ x ∈ ps, 0 ≤ x ∧ x ≤ 65535) → (∀ b ∈ is, interB b = true) → (RightP m pv ps is us ↔ ((pv = 0 ∨ (60 ≤ pv ∧ pv ≤ 63)) ∧ ((m = 4 ∨ m = 5) ∨ (pv = 0 ∧ ps.length = 0)) ∧ ((m = 2 ∨ m = 5) ↔ 0 < is.length))) := fun a b c =>
  ⟨fun g => ⟨g.2.2.2.1, g.2.2.2.2.1, g.2.2.2.2.2⟩, fun g => ⟨⟨by omega, by omega, by omega, by omega, a⟩, b, c, g.1, g.2.1, g.2.2⟩⟩
 have hd : ∀ (a : Bool) (p : Prop) [Decidable p], (a == decide p) = true ↔ (a = true ↔ p) := fun a p _ => by rw [beq_iff_eq, Bool.eq_iff_iff, decide_eq_true_iff]
 refine dlt (fun h5 => deq (fun h6 => dcall (Begins_sp us hu) rfl rfl rfl (dbr (fun h7 => parLoop1 hp hi hv rfl fun hps his k j cx => ?_) fun h7 => ret_f hv ?_)) fun h6 => ret_f hv ?_) fun h5 => parLoop2 hp hi hv rfl fun hps his k j cx => ?_
 ·replace h6 : m = 0 := h6
  replace h7 : beginsL us = true := h7
  have K := key (fun _ => ⟨h6, h7⟩) hps his
  refine deq (fun q1 => deq (fun q2 => ret_v hv (u := decide (m = 5) == decide ((0 : Int) < ((bytesD is).rows.length : Int))) rfl ?_) fun q2 => ret_f hv ?_) fun q1 => dlt (fun q2 => ret_f hv ?_) fun q2 => dlt (fun q3 => ret_f hv ?_) fun q3 => ret_f hv ?_
  all_goals rw [K]
  ·replace q1 : (pv : Int) = 0 := q1
   have q2 : ((intsD ps).rows.length : Int) = 0 := q2
   rw [lp] at q2
   rw [hd, decide_eq_true_iff, li]
   omega
  ·replace q1 : (pv : Int) = 0 := q1
   have q2 : ¬ ((intsD ps).rows.length : Int) = 0 := q2
   rw [lp] at q2
   omega
  ·replace q1 : ¬ (pv : Int) = 0 := q1
   omega
  ·replace q1 : ¬ (pv : Int) = 0 := q1
   omega
  ·replace q1 : ¬ (pv : Int) = 0 := q1
   omega
 ·replace h7 : beginsL us = false := h7
  have h5 : (0 : Int) < ((bytesD us).rows.length : Int) := h5
  rw [lu] at h5
  exact fun g => by have := (g.1.2.2.2.2 (by omega)).2; rw [this] at h7; cases h7
 ·replace h6 : ¬ m = 0 := h6
  have h5 : (0 : Int) < ((bytesD us).rows.length : Int) := h5
  rw [lu] at h5
  exact fun g => h6 (g.1.2.2.2.2 (by omega)).1
 ·have h5 : ¬ (0 : Int) < ((bytesD us).rows.length : Int) := h5
  rw [lu] at h5
  have K := key (fun h => absurd h (by omega)) hps his
  have hR : ∀ {env : List DV} {cx}, env = prR m pv ps is us ++ [DV.I (k : Int)] ++ [DV.I (j : Int)] → ((m = 5 ↔ 0 < is.length) ↔ RightP m pv ps is us) → (Tree.ret [.O .beq (.O .eq (.V 0) (.I 5)) (.O .lt (.I 0) (.U .len (.V 3)))]).den SpF1 (fun es => es = [DV.B v]) env cx := fun he h => by
   subst he
   refine ret_v hv (u := decide (m = 5) == decide ((0 : Int) < ((bytesD is).rows.length : Int))) rfl ?_
   rw [hd, decide_eq_true_iff, li, ← h]
   omega
  refine deq (fun q1 => deq (fun q2 => hR rfl ?_) fun q2 => deq (fun q3 => deq (fun q4 => ret_v hv (u := true == decide ((0 : Int) < ((bytesD is).rows.length : Int))) rfl ?_) fun q4 => ret_f hv ?_) fun q3 => deq (fun q4 => hR rfl ?_) fun q4 => deq (fun q5 => hR rfl ?_) fun q5 => ret_f hv ?_) fun q1 => dlt (fun q2 => ret_f hv ?_) fun q2 => dlt (fun q3 => ret_f hv ?_) fun q3 => deq (fun q4 => hR rfl ?_) fun q4 => deq (fun q5 => ret_f hv ?_) fun q5 => deq (fun q6 => hR rfl ?_) fun q6 => ret_f hv ?_
  all_goals rw [K]
  ·replace q1 : (pv : Int) = 0 := q1
   replace q2 : m = 4 := q2
   omega
  ·replace q1 : (pv : Int) = 0 := q1
   replace q3 : m = 2 := q3
   have q4 : ((intsD ps).rows.length : Int) = 0 := q4
   rw [lp] at q4
   rw [hd, li]
   simp only [true_iff]
   omega
  ·replace q3 : m = 2 := q3
   have q4 : ¬ ((intsD ps).rows.length : Int) = 0 := q4
   rw [lp] at q4
   omega
  ·replace q1 : (pv : Int) = 0 := q1
   replace q4 : m = 5 := q4
   omega
  ·replace q1 : (pv : Int) = 0 := q1
   replace q2 : ¬ m = 4 := q2
   replace q3 : ¬ m = 2 := q3
   replace q4 : ¬ m = 5 := q4
   have q5 : ((intsD ps).rows.length : Int) = 0 := q5
   rw [lp] at q5
   omega
  ·replace q2 : ¬ m = 4 := q2
   replace q4 : ¬ m = 5 := q4
   have q5 : ¬ ((intsD ps).rows.length : Int) = 0 := q5
   rw [lp] at q5
   omega
  ·replace q1 : ¬ (pv : Int) = 0 := q1
   replace q2 : (pv : Int) < 60 := q2
   omega
  ·replace q1 : ¬ (pv : Int) = 0 := q1
   replace q3 : (63 : Int) < pv := q3
   omega
  ·replace q2 : ¬ (pv : Int) < 60 := q2
   replace q3 : ¬ (63 : Int) < pv := q3
   replace q4 : m = 4 := q4
   omega
  ·replace q1 : ¬ (pv : Int) = 0 := q1
   replace q5 : m = 2 := q5
   omega
  ·replace q2 : ¬ (pv : Int) < 60 := q2
   replace q3 : ¬ (63 : Int) < pv := q3
   replace q6 : m = 5 := q6
   omega
  ·replace q1 : ¬ (pv : Int) = 0 := q1
   replace q4 : ¬ m = 4 := q4
   replace q6 : ¬ m = 5 := q6
   omega
end
section
variable {m : Int} {s : Sc} {v : Bool}
theorem Right_sp (hL : LenS s) (hv : v = true ↔ RightS m s) : Spn n_r7_Right sg_r7_Right (scR m s) [.B v] := by
 refine rd_r7_Right rfl (dlt (fun h1 => ret_f hv ?_) fun h1 => dlt (fun h2 => ret_f hv ?_) fun h2 => dlt (fun h3 => ret_f hv ?_) fun h3 => dlt (fun h4 => ret_f hv ?_) fun h4 => ?_)
 ·replace h1 : s.rows < 1 := h1
  exact fun g => by have := g.r1; omega
 ·replace h2 : 1000 < s.rows := h2
  exact fun g => by have := g.r2; omega
 ·replace h3 : s.cols < 1 := h3
  exact fun g => by have := g.c1; omega
 ·replace h4 : 1000 < s.cols := h4
  exact fun g => by have := g.c2; omega
 replace h1 : ¬ s.rows < 1 := h1
 replace h2 : ¬ 1000 < s.rows := h2
 replace h3 : ¬ s.cols < 1 := h3
 replace h4 : ¬ 1000 < s.cols := h4
 obtain ⟨r, hr⟩ : ∃ r : Nat, s.rows = r := ⟨s.rows.toNat, by omega⟩
 obtain ⟨c, hc⟩ : ∃ c : Nat, s.cols = c := ⟨s.cols.toNat, by omega⟩
 have er : s.rows.toNat = r := by omega
 have ec : s.cols.toNat = c := by omega
 have r1 : 1 ≤ r := by omega
 have r2 : r ≤ 1000 := by omega
 have c1 : 1 ≤ c := by omega
 have c2 : c ≤ 1000 := by omega
 obtain ⟨u1, e1⟩ := ex_bool (CellsR s.cells r c)
 obtain ⟨u2, e2⟩ := ex_bool (CellsR s.other r c)
 obtain ⟨u4, e4⟩ := ex_bool (RightP m s.p.priv s.p.params s.p.inter s.p.utf)
 have hcr1 := cellsRight_sp (l := s.cells) r1 r2 c1 c2 hL.nc e1
 have hcr2 := cellsRight_sp (l := s.other) r1 r2 c1 c2 hL.no e2
 rw [← hr, ← hc] at hcr1 hcr2
 refine dcall hcr1 rfl rfl rfl (dbr (fun k0 => dlt (fun k1 => ret_f hv ?_) fun k1 => dle (fun k2 => ret_f hv ?_) fun k2 => dlt (fun k3 => ret_f hv ?_) fun k3 => dle (fun k4 => ret_f hv ?_) fun k4 => dlt (fun k5 => ret_f hv ?_) fun k5 => dle (fun k6 => ret_f hv ?_) fun k6 => dlt (fun k7 => ret_f hv ?_) fun k7 => dle (fun k8 => ret_f hv ?_) fun k8 => dlt (fun k9 => ret_f hv ?_) fun k9 => dle (fun k10 => ret_f hv ?_) fun k10 => dlt (fun k11 => ret_f hv ?_) fun k11 => dle (fun k12 => ret_f hv ?_) fun k12 => ?_) fun k0 => ret_f hv ?_)
 ·replace k1 : s.y < 0 := k1
  exact fun g => by have := g.y0; omega
 ·replace k2 : s.rows ≤ s.y := k2
  exact fun g => by have := g.y1; omega
 ·replace k3 : s.x < 0 := k3
  exact fun g => by have := g.x0; omega
 ·replace k4 : s.cols ≤ s.x := k4
  exact fun g => by have := g.x1; omega
 ·replace k5 : s.sy < 0 := k5
  exact fun g => by have := g.sy0; omega
 ·replace k6 : s.rows ≤ s.sy := k6
  exact fun g => by have := g.sy1; omega
 ·replace k7 : s.sx < 0 := k7
  exact fun g => by have := g.sx0; omega
 ·replace k8 : s.cols ≤ s.sx := k8
  exact fun g => by have := g.sx1; omega
 ·replace k9 : s.oy < 0 := k9
  exact fun g => by have := g.oy0; omega
 ·replace k10 : s.rows ≤ s.oy := k10
  exact fun g => by have := g.oy1; omega
 ·replace k11 : s.ox < 0 := k11
  exact fun g => by have := g.ox0; omega
 ·replace k12 : s.cols ≤ s.ox := k12
  exact fun g => by have := g.ox1; omega
 rotate_left
 ·replace k0 : u1 = false := k0
  exact fun g => by
   have := g.cells
   rw [er, ec] at this
   rw [e1.2 this] at k0; cases k0
 replace k0 := e1.1 k0
 replace k1 : ¬ s.y < 0 := k1
 replace k2 : ¬ s.rows ≤ s.y := k2
 replace k3 : ¬ s.x < 0 := k3
 replace k4 : ¬ s.cols ≤ s.x := k4
 replace k5 : ¬ s.sy < 0 := k5
 replace k6 : ¬ s.rows ≤ s.sy := k6
 replace k7 : ¬ s.sx < 0 := k7
 replace k8 : ¬ s.cols ≤ s.sx := k8
 replace k9 : ¬ s.oy < 0 := k9
 replace k10 : ¬ s.rows ≤ s.oy := k10
 replace k11 : ¬ s.ox < 0 := k11
 replace k12 : ¬ s.cols ≤ s.ox := k12
 have alt : (s.wrap = true → s.x = s.cols - 1) → attrB s.attr = true → attrB s.sattr = true → (s.tabs.length : Int) = s.cols → RightP m s.p.priv s.p.params s.p.inter s.p.utf → 0 ≤ s.top → s.bottom < s.rows → (s.top < s.bottom ∨ (s.rows = 1 ∧ s.top = 0 ∧ s.bottom = 0)) → ∀ {env : List DV} {cx : List (List DV → Prop)}, env = scR m s ++ [DV.B u1] ++ [DV.B (attrB s.attr)] ++ [DV.B (attrB s.sattr)] ++ [DV.B u4] → ((.br (.V 15) (.call n_r7_cellsRight [.V 16, .V 0, .V 1] 1 (.ret [.V 28])) (.br (.O .eq (.U .len (.V 16)) (.I 0)) (.br (.O .eq (.V 17) (.I 0)) (.ret [.O .eq (.V 18) (.I 0)]) (.ret [.B false])) (.ret [.B false]))) : Tree).den SpF1 (fun es => es = [DV.B v]) env cx := fun a1 a2 a3 a4 a5 a6 a7 a8 {env cx} he => by
  subst he
  have hR : RightS m s ↔ ((s.alt = true → CellsR s.other r c) ∧ (s.alt = false → s.other.length = 0 ∧ s.oy = 0 ∧ s.ox = 0)) := by
   constructor
   ·exact fun g => ⟨fun ha => by have := g.other ha; rw [er, ec] at this; exact this, g.noAlt⟩
   ·exact fun g => rightS_of hr hc r1 r2 c1 c2 k0 (by omega) (by rw [← hc]; exact a1) a2 a3 (by rw [a4, hc]) a5 ⟨a6, by rw [← hr]; exact a7⟩ (by rw [← hr]; exact a8) g.1 g.2
  rw [hR] at hv
  have lo := cells_len s.other
  refine dbr (fun h => dcall hcr2 rfl rfl rfl (ret_v hv (u := u2) rfl ?_)) fun h => deq (fun h1 => deq (fun h2 => ret_d hv (c := s.ox = 0) rfl ?_) fun h2 => ret_f hv ?_) fun h1 => ret_f hv ?_
  ·replace h : s.alt = true := h
   rw [e2, h]; simp
  ·replace h : s.alt = false := h
   have h1 : ((cellsD s.other).rows.length : Int) = 0 := h1
   replace h2 : s.oy = 0 := h2
   rw [lo] at h1
   rw [h]
   exact ⟨fun g => ⟨fun h => (by cases h), fun _ => ⟨by omega, h2, g⟩⟩, fun g => (g.2 rfl).2.2⟩
  ·replace h : s.alt = false := h
   replace h2 : ¬ s.oy = 0 := h2
   exact fun g => h2 (g.2 h).2.1
  ·replace h : s.alt = false := h
   have h1 : ¬ ((cellsD s.other).rows.length : Int) = 0 := h1
   rw [lo] at h1
   exact fun g => h1 (by rw [(g.2 h).1]; rfl)
 have fin : (s.wrap = true → s.x = s.cols - 1) → ∀ {env : List DV} {cx : List (List DV → Prop)}, env = scR m s ++ [DV.B u1] → ((.call n_r7_attr [.V 6] 1 (.br (.V 25) (.call n_r7_attr [.V 12] 1 (.br (.V 26) (.br (.O .eq (.U .len (.V 9)) (.V 1)) (.call n_r7_ParserRight (vs 19 5) 1 (.br (.V 27) (.br (.O .lt (.V 7) (.I 0)) (.ret [.B false]) (.br (.O .le (.V 0) (.V 8)) (.ret [.B false]) (.br (.O .le (.V 8) (.V 7)) (.br (.O .eq (.V 0) (.I 1)) (.br (.O .eq (.V 7) (.I 0)) (.br (.O .eq (.V 8) (.I 0)) (.br (.V 15) (.call n_r7_cellsRight [.V 16, .V 0, .V 1] 1 (.ret [.V 28])) (.br (.O .eq (.U .len (.V 16)) (.I 0)) (.br (.O .eq (.V 17) (.I 0)) (.ret [.O .eq (.V 18) (.I 0)]) (.ret [.B false])) (.ret [.B false]))) (.ret [.B false])) (.ret [.B false])) (.ret [.B false])) (.br (.V 15) (.call n_r7_cellsRight [.V 16, .V 0, .V 1] 1 (.ret [.V 28])) (.br (.O .eq (.U .len (.V 16)) (.I 0)) (.br (.O .eq (.V 17) (.I 0)) (.ret [.O .eq (.V 18) (.I 0)]) (.ret [.B false])) (.ret [.B false])))))) (.ret [.B false]))) (.ret [.B false])) (.ret [.B false]))) (.ret [.B false]))) : Tree).den SpF1 (fun es => es = [DV.B v]) env cx := fun a1 {env cx} he => by
  subst he
  have lt : ((boolsD s.tabs).rows.length : Int) = s.tabs.length := by simp [boolsD, DV.rows]
  refine dcall (attr_sp s.attr) rfl rfl rfl (dbr (fun q1 => dcall (attr_sp s.sattr) rfl rfl rfl (dbr (fun q2 => deq (fun q3 => dcall (parserRight_sp hL.np hL.ni hL.nu e4) rfl rfl rfl (dbr (fun q4 => dlt (fun q5 => ret_f hv ?_) fun q5 => dle (fun q6 => ret_f hv ?_) fun q6 => dle (fun q7 => deq (fun q8 => deq (fun q9 => deq (fun q10 => ?_) fun q10 => ret_f hv ?_) fun q9 => ret_f hv ?_) fun q8 => ret_f hv ?_) fun q7 => ?_) fun q4 => ret_f hv ?_)) fun q3 => ret_f hv ?_) fun q2 => ret_f hv ?_)) fun q1 => ret_f hv ?_)
  ·replace q5 : s.top < 0 := q5
   exact fun g => by have := g.t0; omega
  ·replace q6 : s.rows ≤ s.bottom := q6
   exact fun g => by have := g.b1; omega
  ·have q3 : ((boolsD s.tabs).rows.length : Int) = s.cols := q3
   rw [lt] at q3
   replace q5 : ¬ s.top < 0 := q5
   replace q6 : ¬ s.rows ≤ s.bottom := q6
   exact alt a1 q1 q2 q3 (e4.1 q4) (by omega) (by omega) (.inr ⟨q8, q9, q10⟩) rfl
  ·replace q7 : s.bottom ≤ s.top := q7
   replace q10 : ¬ s.bottom = 0 := q10
   exact fun g => by have := g.tb; omega
  ·replace q7 : s.bottom ≤ s.top := q7
   replace q9 : ¬ s.top = 0 := q9
   exact fun g => by have := g.tb; omega
  ·replace q7 : s.bottom ≤ s.top := q7
   replace q8 : ¬ s.rows = 1 := q8
   exact fun g => by have := g.tb; omega
  ·have q3 : ((boolsD s.tabs).rows.length : Int) = s.cols := q3
   rw [lt] at q3
   replace q5 : ¬ s.top < 0 := q5
   replace q6 : ¬ s.rows ≤ s.bottom := q6
   replace q7 : ¬ s.bottom ≤ s.top := q7
   exact alt a1 q1 q2 q3 (e4.1 q4) (by omega) (by omega) (.inl (by omega)) rfl
  ·replace q4 : u4 = false := q4
   exact fun g => by rw [e4.2 g.p] at q4; cases q4
  ·have q3 : ¬ ((boolsD s.tabs).rows.length : Int) = s.cols := q3
   rw [lt] at q3
   exact fun g => q3 g.tabs
  ·replace q2 : attrB s.sattr = false := q2
   exact fun g => by rw [g.sattr] at q2; cases q2
  ·replace q1 : attrB s.attr = false := q1
   exact fun g => by rw [g.attr] at q1; cases q1
 refine dbr (fun h8 => dfit (show (-9223372036854775808 : Int) ≤ s.cols - 1 by omega) (show s.cols - 1 ≤ 9223372036854775807 by omega) (deq (fun h9 => fin (fun _ => h9) rfl) fun h9 => ret_f hv ?_)) fun h8 => fin ?_ rfl
 ·exact fun g => h9 (g.wrap h8)
 ·replace h8 : s.wrap = false := h8
  rw [h8]; exact fun h => by cases h
end
theorem eqBools_sp {l m : List Bool} {v : Bool} (hl : l.length ≤ 1048576) (hv : v = true ↔ l = m) : Spn n_slices_Equal_bool sg_slices_Equal_bool [boolsD l, boolsD m] [.B v] := by
 refine rd_slices_Equal_bool rfl (deq (fun h => dloop (fun k : Nat => [.I (k : Int)]) (fun k => k ≤ l.length ∧ l.take k = m.take k) (fun k => l.length - k) 0 rfl ⟨Nat.zero_le _, rfl⟩ fun k hk _ => ?_) fun h => ret_f hv fun e => h (by subst e; rfl))
 replace h : (l.length : Int) = m.length := by rw [← bools_len', ← bools_len']; exact h
 obtain ⟨hk, ht⟩ := hk
 refine dlt (fun g => ?_) fun g => ?_
 ·replace g : (k : Int) < l.length := by rw [← bools_len']; exact g
  have h1 : k < l.length := by omega
  have h2 : k < m.length := by omega
  have e1 := bools_at h1
  have e2 := bools_at h2
  have hE : ((((boolsD l).rows.getD k []).getD 0 (.I 0)).bool == (((boolsD m).rows.getD k []).getD 0 (.I 0)).bool) = true ↔ l[k] = m[k] := by
   rw [e1, e2, beq_iff_eq]; rfl
  refine nle (show (0 : Int) ≤ k by omega) (nlt (show (k : Int) < ((boolsD m).rows.length : Int) by rw [bools_len']; omega) (dbr (fun q => ?_) fun q => ret_f hv ?_))
  ·have q := hE.1 q
   refine dfit (show (-9223372036854775808 : Int) ≤ (k : Int) + 1 by omega) (show (k : Int) + 1 ≤ 9223372036854775807 by omega) (dagain rfl ⟨k + 1, rfl, ⟨by omega, ?_⟩, by omega⟩)
   rw [List.take_add_one, List.take_add_one, ht, List.getElem?_eq_getElem h1, List.getElem?_eq_getElem h2, q]
  ·intro e; subst e
   have q2 : ((((boolsD l).rows.getD k []).getD 0 (.I 0)).bool == (((boolsD l).rows.getD k []).getD 0 (.I 0)).bool) = false := q
   simp at q2
 ·replace g : ¬ (k : Int) < l.length := by rw [← bools_len']; exact g
  rw [List.take_of_length_le (by omega), List.take_of_length_le (by omega)] at ht
  exact ret_t hv ht
theorem eqInts_sp {l m : List Int} {v : Bool} (hl : l.length ≤ 1048576) (hv : v = true ↔ l = m) : Spn n_slices_Equal_int sg_slices_Equal_int [intsD l, intsD m] [.B v] := by
 refine rd_slices_Equal_int rfl (deq (fun h => dloop (fun k : Nat => [.I (k : Int)]) (fun k => k ≤ l.length ∧ l.take k = m.take k) (fun k => l.length - k) 0 rfl ⟨Nat.zero_le _, rfl⟩ fun k hk _ => ?_) fun h => ret_f hv fun e => h (by subst e; rfl))
 replace h : (l.length : Int) = m.length := by rw [← ints_len, ← ints_len]; exact h
 obtain ⟨hk, ht⟩ := hk
 refine dlt (fun g => ?_) fun g => ?_
 ·replace g : (k : Int) < l.length := by rw [← ints_len]; exact g
  have h1 : k < l.length := by omega
  have h2 : k < m.length := by omega
  have e1 := ints_at h1
  have e2 := ints_at h2
  have hE : (((intsD l).rows.getD k []).getD 0 (.I 0)).int = (((intsD m).rows.getD k []).getD 0 (.I 0)).int ↔ l[k] = m[k] := by
   rw [e1, e2]
   exact Iff.rfl
  refine nle (show (0 : Int) ≤ k by omega) (nlt (show (k : Int) < ((intsD m).rows.length : Int) by rw [ints_len]; omega) (deq (fun q => ?_) fun q => ret_f hv ?_))
  ·have q := hE.1 q
   refine dfit (show (-9223372036854775808 : Int) ≤ (k : Int) + 1 by omega) (show (k : Int) + 1 ≤ 9223372036854775807 by omega) (dagain rfl ⟨k + 1, rfl, ⟨by omega, ?_⟩, by omega⟩)
   rw [List.take_add_one, List.take_add_one, ht, List.getElem?_eq_getElem h1, List.getElem?_eq_getElem h2, q]
  ·exact fun e => q (hE.2 (by subst e; rfl))
 ·replace g : ¬ (k : Int) < l.length := by rw [← ints_len]; exact g
  rw [List.take_of_length_le (by omega), List.take_of_length_le (by omega)] at ht
  exact ret_t hv ht
theorem eqBytes_sp {l m : List UInt8} {v : Bool} (hl : l.length ≤ 1048576) (hv : v = true ↔ l = m) : Spn n_slices_Equal_byte sg_slices_Equal_byte [bytesD l, bytesD m] [.B v] := by
 refine rd_slices_Equal_byte rfl (deq (fun h => dloop (fun k : Nat => [.I (k : Int)]) (fun k => k ≤ l.length ∧ l.take k = m.take k) (fun k => l.length - k) 0 rfl ⟨Nat.zero_le _, rfl⟩ fun k hk _ => ?_) fun h => ret_f hv fun e => h (by subst e; rfl))
 replace h : (l.length : Int) = m.length := by rw [← bytes_len, ← bytes_len]; exact h
 obtain ⟨hk, ht⟩ := hk
 refine dlt (fun g => ?_) fun g => ?_
 ·replace g : (k : Int) < l.length := by rw [← bytes_len]; exact g
  have h1 : k < l.length := by omega
  have h2 : k < m.length := by omega
  have e1 := bytes_at h1
  have e2 := bytes_at h2
  have hE : (((bytesD l).rows.getD k []).getD 0 (.I 0)).int = (((bytesD m).rows.getD k []).getD 0 (.I 0)).int ↔ l[k] = m[k] := by
   rw [e1, e2]
   exact ⟨fun h => UInt8.toNat_inj.1 (Int.ofNat.inj h), fun h => by rw [h]⟩
  refine nle (show (0 : Int) ≤ k by omega) (nlt (show (k : Int) < ((bytesD m).rows.length : Int) by rw [bytes_len]; omega) (deq (fun q => ?_) fun q => ret_f hv ?_))
  ·have q := hE.1 q
   refine dfit (show (-9223372036854775808 : Int) ≤ (k : Int) + 1 by omega) (show (k : Int) + 1 ≤ 9223372036854775807 by omega) (dagain rfl ⟨k + 1, rfl, ⟨by omega, ?_⟩, by omega⟩)
   rw [List.take_add_one, List.take_add_one, ht, List.getElem?_eq_getElem h1, List.getElem?_eq_getElem h2, q]
  ·exact fun e => q (hE.2 (by subst e; rfl))
 ·replace g : ¬ (k : Int) < l.length := by rw [← bytes_len]; exact g
  rw [List.take_of_length_le (by omega), List.take_of_length_le (by omega)] at ht
  exact ret_t hv ht
def zP (p : Pr) : Pr := { p with mode := 0 }
def zS (s : Sc) : Sc := { s with p := zP s.p }
def AlikeS (m : Int) (s : Sc) (m' : Int) (t : Sc) : Prop := m = m' ∧ zS s = zS t
theorem alikeP_iff {m m' : Int} {s t : Sc} : AlikeS m s m' t ↔ (s.rows = t.rows ∧ s.cols = t.cols ∧ s.y = t.y ∧ s.x = t.x ∧ s.wrap = t.wrap ∧ s.attr = t.attr ∧ s.top = t.top ∧ s.bottom = t.bottom ∧ s.sy = t.sy ∧ s.sx = t.sx ∧ s.sattr = t.sattr ∧ s.auto = t.auto ∧ s.shown = t.shown ∧ s.alt = t.alt ∧ s.oy = t.oy ∧ s.ox = t.ox) ∧ s.cells = t.cells ∧ s.other = t.other ∧ s.tabs = t.tabs ∧ (m = m' ∧ zP s.p = zP t.p) := by
 unfold AlikeS zS
 simp only [Sc.mk.injEq]
 constructor
 ·rintro ⟨h0, h⟩; simp [h, h0]
 ·rintro ⟨h1, h2, h3, h4, h5, h6⟩; simp [h1, h2, h3, h4, h5, h6]
theorem zP_iff {p q : Pr} : zP p = zP q ↔ p.priv = q.priv ∧ p.params = q.params ∧ p.inter = q.inter ∧ p.utf = q.utf := by
 unfold zP
 simp
theorem sameParserR_sp {m m' : Int} {p q : Pr} {v : Bool} (hl : p.params.length ≤ 1048576) (hv : v = true ↔ (m = m' ∧ zP p = zP q)) : Spn n_r7_SameParser sg_r7_SameParser [.I m, .I p.priv, intsD p.params, bytesD p.inter, bytesD p.utf, .I m', .I q.priv, intsD q.params, bytesD q.inter, bytesD q.utf] [.B v] := by
 rw [zP_iff] at hv
 refine rd_r7_SameParser rfl (deq (fun h1 => deq (fun h2 => deq (fun h3 => dbr (fun h4 => dbr (fun h5 => dloop (fun k : Nat => [.I (k : Int)]) (fun k => k ≤ p.params.length ∧ p.params.take k = q.params.take k) (fun k => p.params.length - k) 0 rfl ⟨Nat.zero_le _, rfl⟩ fun k hk _ => ?_) fun h5 => ret_f hv ?_) fun h4 => ret_f hv ?_) fun h3 => ret_f hv ?_) fun h2 => ret_f hv ?_) fun h1 => ret_f hv ?_)
 ·replace h1 : m = m' := h1
  replace h2 : (p.priv : Int) = q.priv := h2
  replace h3 : (p.params.length : Int) = q.params.length := by rw [← ints_len, ← ints_len]; exact h3
  replace h4 : (toBytes (bytesD p.inter).rows == toBytes (bytesD q.inter).rows) = true := h4
  replace h5 : (toBytes (bytesD p.utf).rows == toBytes (bytesD q.utf).rows) = true := h5
  rw [toBytes_of, toBytes_of, beq_iff_eq] at h4 h5
  obtain ⟨hk, ht⟩ := hk
  refine dlt (fun g => ?_) fun g => ?_
  ·replace g : (k : Int) < p.params.length := by rw [← ints_len]; exact g
   have k1 : k < p.params.length := by omega
   have k2 : k < q.params.length := by omega
   have e1 := ints_at k1
   have e2 := ints_at k2
   have hE : (((intsD p.params).rows.getD k []).getD 0 (.I 0)).int = (((intsD q.params).rows.getD k []).getD 0 (.I 0)).int ↔ p.params[k] = q.params[k] := by
    rw [e1, e2]; exact Iff.rfl
   refine nle (show (0 : Int) ≤ k by omega) (nlt (show (k : Int) < ((intsD q.params).rows.length : Int) by rw [ints_len]; omega) (deq (fun c => ?_) fun c => ret_f hv ?_))
   ·have c := hE.1 c
    refine dfit (show (-9223372036854775808 : Int) ≤ (k : Int) + 1 by omega) (show (k : Int) + 1 ≤ 9223372036854775807 by omega) (dagain rfl ⟨k + 1, rfl, ⟨by omega, ?_⟩, by omega⟩)
    rw [List.take_add_one, List.take_add_one, ht, List.getElem?_eq_getElem k1, List.getElem?_eq_getElem k2, c]
   ·exact fun e => c (hE.2 (by simp only [e.2.2.1]))
  ·replace g : ¬ (k : Int) < p.params.length := by rw [← ints_len]; exact g
   have e : p.params = q.params := by
    rw [List.take_of_length_le (by omega), List.take_of_length_le (by omega)] at ht
    exact ht
   exact ret_t hv ⟨h1, by omega, e, h4, h5⟩
 ·replace h5 : (toBytes (bytesD p.utf).rows == toBytes (bytesD q.utf).rows) = false := h5
  rw [toBytes_of, toBytes_of] at h5
  exact fun e => by rw [e.2.2.2.2] at h5; simp at h5
 ·replace h4 : (toBytes (bytesD p.inter).rows == toBytes (bytesD q.inter).rows) = false := h4
  rw [toBytes_of, toBytes_of] at h4
  exact fun e => by rw [e.2.2.2.1] at h4; simp at h4
 ·exact fun e => h3 (by show ((intsD p.params).rows.length : Int) = ((intsD q.params).rows.length : Int); rw [e.2.2.1])
 ·exact fun e => h2 (by show (p.priv : Int) = q.priv; rw [e.2.1])
 ·exact fun e => h1 e.1
theorem SameR_sp {m m' : Int} {s t : Sc} {v : Bool} (hL : LenS s) (hv : v = true ↔ AlikeS m s m' t) : Spn n_r7_Same sg_r7_Same (scR m s ++ scR m' t) [.B v] := by
 rw [alikeP_iff] at hv
 have sc := sameCells_sp (l := s.cells) (m := t.cells) (v := decide (s.cells = t.cells)) hL.nc decide_eq_true_iff
 have so := sameCells_sp (l := s.other) (m := t.other) (v := decide (s.other = t.other)) hL.no decide_eq_true_iff
 obtain ⟨u, hu⟩ := ex_bool (m = m' ∧ zP s.p = zP t.p)
 have sp := sameParserR_sp hL.np hu
 refine rd_r7_Same rfl (deq (fun h1 => deq (fun h2 => deq (fun h3 => deq (fun h4 => dbr (fun h5 => deq (fun h6 => deq (fun h7 => deq (fun h8 => deq (fun h9 => deq (fun h10 => deq (fun h11 => dbr (fun h12 => dbr (fun h13 => dbr (fun h14 => deq (fun h15 => deq (fun h16 => deq (fun h17 => dcall sc rfl rfl rfl (dbr (fun h18 => dcall so rfl rfl rfl (dbr (fun h19 => dcall sp rfl rfl rfl (dbr (fun h20 => dloop (fun k : Nat => [.I (k : Int)]) (fun k => k ≤ s.tabs.length ∧ s.tabs.take k = t.tabs.take k) (fun k => s.tabs.length - k) 0 rfl ⟨Nat.zero_le _, rfl⟩ fun k hk _ => ?_) fun h20 => ret_f hv ?_)) fun h19 => ret_f hv ?_)) fun h18 => ret_f hv ?_)) fun h17 => ret_f hv ?_) fun h16 => ret_f hv ?_) fun h15 => ret_f hv ?_) fun h14 => ret_f hv ?_) fun h13 => ret_f hv ?_) fun h12 => ret_f hv ?_) fun h11 => ret_f hv ?_) fun h10 => ret_f hv ?_) fun h9 => ret_f hv ?_) fun h8 => ret_f hv ?_) fun h7 => ret_f hv ?_) fun h6 => ret_f hv ?_) fun h5 => ret_f hv ?_) fun h4 => ret_f hv ?_) fun h3 => ret_f hv ?_) fun h2 => ret_f hv ?_) fun h1 => ret_f hv ?_)
 ·replace h1 : s.rows = t.rows := h1
  replace h2 : s.cols = t.cols := h2
  replace h3 : s.y = t.y := h3
  replace h4 : s.x = t.x := h4
  replace h5 : (s.wrap == t.wrap) = true := h5
  rw [beq_iff_eq] at h5
  replace h6 : (s.attr : Int) = t.attr := h6
  replace h6 : s.attr = t.attr := by omega
  replace h7 : s.top = t.top := h7
  replace h8 : s.bottom = t.bottom := h8
  replace h9 : s.sy = t.sy := h9
  replace h10 : s.sx = t.sx := h10
  replace h11 : (s.sattr : Int) = t.sattr := h11
  replace h11 : s.sattr = t.sattr := by omega
  replace h12 : (s.auto == t.auto) = true := h12
  rw [beq_iff_eq] at h12
  replace h13 : (s.shown == t.shown) = true := h13
  rw [beq_iff_eq] at h13
  replace h14 : (s.alt == t.alt) = true := h14
  rw [beq_iff_eq] at h14
  replace h15 : s.oy = t.oy := h15
  replace h16 : s.ox = t.ox := h16
  replace h17 : (s.tabs.length : Int) = t.tabs.length := by rw [← bools_len', ← bools_len']; exact h17
  replace h18 : s.cells = t.cells := of_decide_eq_true h18
  replace h19 : s.other = t.other := of_decide_eq_true h19
  replace h20 := hu.1 h20
  obtain ⟨hk, ht⟩ := hk
  have hnt := hL.nt
  refine dlt (fun g => ?_) fun g => ?_
  ·replace g : (k : Int) < s.tabs.length := by rw [← bools_len']; exact g
   have k1 : k < s.tabs.length := by omega
   have k2 : k < t.tabs.length := by omega
   have e1 := bools_at k1
   have e2 := bools_at k2
   have hE : ((((boolsD s.tabs).rows.getD k []).getD 0 (.I 0)).bool == (((boolsD t.tabs).rows.getD k []).getD 0 (.I 0)).bool) = true ↔ s.tabs[k] = t.tabs[k] := by
    rw [e1, e2, beq_iff_eq]; rfl
   refine nle (show (0 : Int) ≤ k by omega) (nlt (show (k : Int) < ((boolsD t.tabs).rows.length : Int) by rw [bools_len']; omega) (dbr (fun c => ?_) fun c => ret_f hv ?_))
   ·have c := hE.1 c
    refine dfit (show (-9223372036854775808 : Int) ≤ (k : Int) + 1 by omega) (show (k : Int) + 1 ≤ 9223372036854775807 by omega) (dagain rfl ⟨k + 1, rfl, ⟨by omega, ?_⟩, by omega⟩)
    rw [List.take_add_one, List.take_add_one, ht, List.getElem?_eq_getElem k1, List.getElem?_eq_getElem k2, c]
   ·have c : ((((boolsD s.tabs).rows.getD k []).getD 0 (.I 0)).bool == (((boolsD t.tabs).rows.getD k []).getD 0 (.I 0)).bool) = false := c
    exact fun e => by rw [e.2.2.2.1] at c; simp at c
  ·replace g : ¬ (k : Int) < s.tabs.length := by rw [← bools_len']; exact g
   have e : s.tabs = t.tabs := by
    rw [List.take_of_length_le (by omega), List.take_of_length_le (by omega)] at ht
    exact ht
   exact ret_t hv ⟨⟨h1, h2, h3, h4, h5, h6, h7, h8, h9, h10, h11, h12, h13, h14, h15, h16⟩, h18, h19, e, h20⟩
 ·replace h20 : u = false := h20
  exact fun e => by rw [hu.2 e.2.2.2.2] at h20; cases h20
 ·replace h19 : decide (s.other = t.other) = false := h19
  exact fun e => of_decide_eq_false h19 e.2.2.1
 ·replace h18 : decide (s.cells = t.cells) = false := h18
  exact fun e => of_decide_eq_false h18 e.2.1
 ·exact fun e => h17 (by show ((boolsD s.tabs).rows.length : Int) = ((boolsD t.tabs).rows.length : Int); rw [e.2.2.2.1])
 ·exact fun e => h16 e.1.2.2.2.2.2.2.2.2.2.2.2.2.2.2.2
 ·exact fun e => h15 e.1.2.2.2.2.2.2.2.2.2.2.2.2.2.2.1
 ·replace h14 : (s.alt == t.alt) = false := h14
  exact fun e => by rw [e.1.2.2.2.2.2.2.2.2.2.2.2.2.2.1] at h14; simp at h14
 ·replace h13 : (s.shown == t.shown) = false := h13
  exact fun e => by rw [e.1.2.2.2.2.2.2.2.2.2.2.2.2.1] at h13; simp at h13
 ·replace h12 : (s.auto == t.auto) = false := h12
  exact fun e => by rw [e.1.2.2.2.2.2.2.2.2.2.2.2.1] at h12; simp at h12
 ·exact fun e => h11 (by show (s.sattr : Int) = t.sattr; rw [e.1.2.2.2.2.2.2.2.2.2.2.1])
 ·exact fun e => h10 e.1.2.2.2.2.2.2.2.2.2.1
 ·exact fun e => h9 e.1.2.2.2.2.2.2.2.2.1
 ·exact fun e => h8 e.1.2.2.2.2.2.2.2.1
 ·exact fun e => h7 e.1.2.2.2.2.2.2.1
 ·exact fun e => h6 (by show (s.attr : Int) = t.attr; rw [e.1.2.2.2.2.2.1])
 ·replace h5 : (s.wrap == t.wrap) = false := h5
  exact fun e => by rw [e.1.2.2.2.2.1] at h5; simp at h5
 ·exact fun e => h4 e.1.2.2.2.1
 ·exact fun e => h3 e.1.2.2.1
 ·exact fun e => h2 e.1.2.1
 ·exact fun e => h1 e.1.1
def fixD (m : Int) (s : Sc) : List DV := [.I s.rows, .I s.cols, .I s.y, .I s.x, .B s.wrap, .B s.auto, .B s.shown, .B s.alt, .I (s.attr : Int), .I (s.sattr : Int), .I s.top, .I s.bottom, .I s.sy, .I s.sx, .I s.oy, .I s.ox, .I m, .I (s.p.priv : Int)]
theorem fixed_sp (m : Int) (s : Sc) : Spn n_snap_fixedOf sg_snap_fixedOf (scR m s) (fixD m s) := rd_snap_fixedOf rfl (dret rfl)
theorem pSame_sp {m m' : Int} {s t : Sc} {v : Bool} (hL : LenS s) (hv : v = true ↔ AlikeS m s m' t) : Spn n_snap_Same sg_snap_Same (scR m s ++ scR m' t) [.B v] := by
 rw [alikeP_iff, zP_iff] at hv
 have hnu := hL.nu
 refine rd_snap_Same rfl (dcall (fixed_sp m s) rfl rfl rfl (dcall (fixed_sp m' t) rfl rfl rfl (dbr (fun h => ?_) fun h => ret_f hv ?_)))
 ·have h : (decide (s.rows = t.rows) && (decide (s.cols = t.cols) && (decide (s.y = t.y) && (decide (s.x = t.x) && ((s.wrap == t.wrap) && ((s.auto == t.auto) && ((s.shown == t.shown) && ((s.alt == t.alt) && (decide ((s.attr : Int) = t.attr) && (decide ((s.sattr : Int) = t.sattr) && (decide (s.top = t.top) && (decide (s.bottom = t.bottom) && (decide (s.sy = t.sy) && (decide (s.sx = t.sx) && (decide (s.oy = t.oy) && (decide (s.ox = t.ox) && (decide (m = m') && (decide ((s.p.priv : Int) = t.p.priv) && true)))))))))))))))))) = true := h
  simp only [Bool.and_eq_true, decide_eq_true_eq, beq_iff_eq, and_true] at h
  obtain ⟨f1, f2, f3, f4, f5, f6, f7, f8, f9, f10, f11, f12, f13, f14, f15, f16, f17, f18⟩ := h
  refine dcall (eqCells_sp (l := s.cells) (m := t.cells) (v := decide (s.cells = t.cells)) hL.nc decide_eq_true_iff) rfl rfl rfl (dbr (fun g1 => dcall (eqCells_sp (l := s.other) (m := t.other) (v := decide (s.other = t.other)) hL.no decide_eq_true_iff) rfl rfl rfl (dbr (fun g2 => dcall (eqBools_sp (l := s.tabs) (m := t.tabs) (v := decide (s.tabs = t.tabs)) hL.nt decide_eq_true_iff) rfl rfl rfl (dbr (fun g3 => dcall (eqInts_sp (l := s.p.params) (m := t.p.params) (v := decide (s.p.params = t.p.params)) hL.np decide_eq_true_iff) rfl rfl rfl (dbr (fun g4 => dcall (eqBytes_sp (l := s.p.inter) (m := t.p.inter) (v := decide (s.p.inter = t.p.inter)) hL.ni decide_eq_true_iff) rfl rfl rfl (dbr (fun g5 => dcall (eqBytes_sp (l := s.p.utf) (m := t.p.utf) (v := decide (s.p.utf = t.p.utf)) (by omega) decide_eq_true_iff) rfl rfl rfl (ret_d hv (c := s.p.utf = t.p.utf) rfl ?_)) fun g5 => ret_f hv ?_)) fun g4 => ret_f hv ?_)) fun g3 => ret_f hv ?_)) fun g2 => ret_f hv ?_)) fun g1 => ret_f hv ?_)
  ·replace g1 : s.cells = t.cells := of_decide_eq_true g1
   replace g2 : s.other = t.other := of_decide_eq_true g2
   replace g3 : s.tabs = t.tabs := of_decide_eq_true g3
   replace g4 : s.p.params = t.p.params := of_decide_eq_true g4
   replace g5 : s.p.inter = t.p.inter := of_decide_eq_true g5
   refine ⟨fun g6 => ⟨⟨f1, f2, f3, f4, f5, by omega, f11, f12, f13, f14, by omega, f6, f7, f8, f15, f16⟩, g1, g2, g3, f17, by omega, g4, g5, g6⟩, fun e => e.2.2.2.2.2.2.2.2⟩
  ·replace g5 : decide (s.p.inter = t.p.inter) = false := g5
   exact fun e => of_decide_eq_false g5 e.2.2.2.2.2.2.2.1
  ·replace g4 : decide (s.p.params = t.p.params) = false := g4
   exact fun e => of_decide_eq_false g4 e.2.2.2.2.2.2.1
  ·replace g3 : decide (s.tabs = t.tabs) = false := g3
   exact fun e => of_decide_eq_false g3 e.2.2.2.1
  ·replace g2 : decide (s.other = t.other) = false := g2
   exact fun e => of_decide_eq_false g2 e.2.2.1
  ·replace g1 : decide (s.cells = t.cells) = false := g1
   exact fun e => of_decide_eq_false g1 e.2.1
 ·have h : (decide (s.rows = t.rows) && (decide (s.cols = t.cols) && (decide (s.y = t.y) && (decide (s.x = t.x) && ((s.wrap == t.wrap) && ((s.auto == t.auto) && ((s.shown == t.shown) && ((s.alt == t.alt) && (decide ((s.attr : Int) = t.attr) && (decide ((s.sattr : Int) = t.sattr) && (decide (s.top = t.top) && (decide (s.bottom = t.bottom) && (decide (s.sy = t.sy) && (decide (s.sx = t.sx) && (decide (s.oy = t.oy) && (decide (s.ox = t.ox) && (decide (m = m') && (decide ((s.p.priv : Int) = t.p.priv) && true)))))))))))))))))) = false := h
  rintro ⟨⟨f1, f2, f3, f4, f5, f6, f7, f8, f9, f10, f11, f12, f13, f14, f15, f16⟩, -, -, -, f17, f18, -⟩
  rw [f1, f2, f3, f4, f5, f6, f7, f8, f9, f10, f11, f12, f13, f14, f15, f16, f17, f18] at h
  simp at h
section
attribute [local simp] E.den O.den U.den vs dv_I dv_B dv_L dv_R DV.row
theorem put3 (D a b c : List UInt8) : O.den .app (O.den .app (O.den .app (bytesD D) (bytesD a)) (bytesD b)) (bytesD c) = bytesD (D ++ (a ++ (b ++ c))) := by
 rw [bytes_app2, bytes_app2, bytes_app2, List.append_assoc, List.append_assoc]
theorem run_end {l : List Cl} {i : Nat} (h : i < l.length) : i + sameN l[i] (l.drop (i + 1)) + 1 ≤ l.length := by
 have := sameN_le l[i] (l.drop (i + 1))
 rw [List.length_drop] at this; omega
theorem run_in {l : List Cl} {i k : Nat} (h : i < l.length) (h1 : i ≤ k) (h2 : k < i + sameN l[i] (l.drop (i + 1)) + 1) (h3 : k < l.length) : l[k] = l[i] := by
 by_cases e : k = i
 ·subst e; rfl
 have := sameN_at l[i] (l.drop (i + 1)) (k - i - 1) (by omega)
 rw [List.getElem?_drop, show i + 1 + (k - i - 1) = k by omega, List.getElem?_eq_getElem h3] at this
 injection this
theorem run_out {l : List Cl} {i : Nat} (h : i < l.length) (h3 : i + sameN l[i] (l.drop (i + 1)) + 1 < l.length) : l[i + sameN l[i] (l.drop (i + 1)) + 1] ≠ l[i] := by
 have := sameN_stop l[i] (l.drop (i + 1)) (by rw [List.length_drop]; omega)
 rw [List.getElem?_drop, List.getElem?_eq_getElem (by omega)] at this
 intro e
 have e9 : l[i + 1 + sameN l[i] (l.drop (i + 1))]'(by omega) = l[i + sameN l[i] (l.drop (i + 1)) + 1] := by congr 1; omega
 exact this (congrArg some (e9.trans e))
theorem putCells_sp {l : List Cl} (hl : l.length ≤ 1048576) : Spn n_r5_PutCells sg_r5_PutCells [cellsD l] [bytesD (putCL l).1, .I (putCL l).2] := by
 refine rd_r5_PutCells rfl (dloop (fun s : List UInt8 × Nat => [bytesD s.1, .I s.2]) (fun s => s.2 ≤ l.length ∧ s.1 ++ bytL (l.drop s.2) = bytL l ∧ ∀ x ∈ l.take s.2, cellB x = true) (fun s => l.length - s.2) ([], 0) rfl ⟨Nat.zero_le _, rfl, by simp⟩ fun s hs _ => ?_)
 obtain ⟨D, i⟩ := s
 obtain ⟨hi, hD, hR⟩ := hs
 simp only at hi hD hR
 have hDl : D.length ≤ 30 * l.length := by
  have h1 := congrArg List.length hD
  have h2 := bytF_len l.length l
  rw [List.length_append] at h1
  have : (bytL l).length = (bytF l.length l).length := rfl
  omega
 refine dlt (fun g => ?_) fun g => dret ?_
 ·replace g : (i : Int) < l.length := by rw [← cells_len]; exact g
  have h1 : i < l.length := by omega
  have e1 := cells_at h1
  have hK := run_end h1
  have hdr : l.drop i = l[i] :: l.drop (i + 1) := List.drop_eq_getElem_cons h1
  generalize hn : sameN l[i] (l.drop (i + 1)) = n at hK
  have hrl := runB_len (n + 1) l[i]
  refine nle (show (0 : Int) ≤ i by omega) (dcall (cellRight_sp l[i]) rfl ?_ rfl (dbr (fun c => ?_) fun c => dret ?_))
  ·exact congrArg (fun x : List DV => [x.getD 0 (.I 0), x.getD 1 (.I 0), x.getD 2 (.I 0)]) e1
  ·replace c : cellB l[i] = true := c
   have hcr : mayR l[i].r = true ∧ l[i].a < 4096 ∧ l[i].h ≤ 2 := by
    simp only [cellB, attrB, Bool.and_eq_true, decide_eq_true_eq] at c
    exact ⟨c.1.1.1, c.1.1.2.1.1.1, c.1.2⟩
   have hr0 : 0 ≤ l[i].r ∧ l[i].r ≤ 1114111 := by
    have := hcr.1
    simp only [mayR, Bool.and_eq_true, decide_eq_true_eq] at this
    exact this.1
   refine dloop (fun k : Nat => [.I k]) (fun k => i ≤ k ∧ k ≤ i + n + 1) (fun k => l.length - k) i rfl ⟨Nat.le_refl _, by omega⟩ fun k hk _ => ?_
   obtain ⟨k1, k2⟩ := hk
   refine dlt (fun g2 => ?_) fun g2 => ?_
   ·replace g2 : (k : Int) < l.length := by rw [← cells_len]; exact g2
    have h2 : k < l.length := by omega
    have e2 := cells_at h2
    have hc : (E.O .and (.O .eq (.O (.at 0) (.V 0) (.V 4)) (.O (.at 0) (.V 0) (.V 2))) (.O .and (.O .eq (.O (.at 1) (.V 0) (.V 4)) (.O (.at 1) (.V 0) (.V 2))) (.O .and (.O .eq (.O (.at 2) (.V 0) (.V 4)) (.O (.at 2) (.V 0) (.V 2))) (.B true)))).den ([cellsD l] ++ [bytesD D, .I (i : Int)] ++ [.B (cellB l[i])] ++ [.I (k : Int)]) = .B (decide (l[k].r = l[i].r) && (decide ((l[k].a : Int) = l[i].a) && (decide ((l[k].h : Int) = l[i].h) && true))) := by
     have a1 := congrArg (fun x : List DV => DV.B (decide ((x.getD 0 (.I 0)).int = (((cellsD l).rows.getD i []).getD 0 (.I 0)).int) && (decide ((x.getD 1 (.I 0)).int = (((cellsD l).rows.getD i []).getD 1 (.I 0)).int) && (decide ((x.getD 2 (.I 0)).int = (((cellsD l).rows.getD i []).getD 2 (.I 0)).int) && true)))) e2
     have a2 := congrArg (fun x : List DV => DV.B (decide (((clD l[k]).getD 0 (.I 0)).int = (x.getD 0 (.I 0)).int) && (decide (((clD l[k]).getD 1 (.I 0)).int = (x.getD 1 (.I 0)).int) && (decide (((clD l[k]).getD 2 (.I 0)).int = (x.getD 2 (.I 0)).int) && true)))) e1
     exact Eq.trans a1 a2
    refine nle (show (0 : Int) ≤ k by omega) (dbr (fun cc => ?_) fun cc => ?_)
    ·rw [hc] at cc
     have c' : l[k] = l[i] := by
      clear hc e1 e2 hn hdr hrl c hcr hr0
      generalize l[k] = x at cc ⊢
      generalize l[i] = y at cc ⊢
      cases x; cases y
      simp at cc
      obtain ⟨c1, c2, c3⟩ := cc
      simp; omega
     have hkK : k ≠ i + n + 1 := by
      intro e
      subst e
      have := run_out h1 (by rw [hn]; exact h2)
      simp only [hn] at this
      exact this c'
     exact dfit (show (-9223372036854775808 : Int) ≤ (k : Int) + 1 by omega) (show (k : Int) + 1 ≤ 9223372036854775807 by omega) (dagain rfl ⟨k + 1, rfl, ⟨by omega, by omega⟩, by omega⟩)
    ·rw [hc] at cc
     have hkK : k = i + n + 1 := by
      by_cases e : k < i + n + 1
      ·have := run_in h1 k1 (by rw [hn]; exact e) h2
       rw [this] at cc
       simp at cc
      ·omega
     have ew : (k : Int) - i = ((n + 1 : Nat) : Int) := by omega
     have l1 := (lebP_length (n + 1)).2
     have l2 := (lebP_length l[i].r.toNat).2
     have l3 := (lebP_length (4 * l[i].a + l[i].h)).2
     refine dfit (show (-9223372036854775808 : Int) ≤ (k : Int) - i by omega) (show (k : Int) - i ≤ 9223372036854775807 by omega) (dcall (lebPut_sp (n + 1) (by omega)) rfl ?_ rfl (nle (le40 (n := D.length + (lebP (n + 1)).length) ?_ (by omega)) (dcall (lebPut_sp l[i].r.toNat (by omega)) rfl ?_ rfl (nle (le40 (n := (D ++ lebP (n + 1)).length + (lebP l[i].r.toNat).length) ?_ (by rw [List.length_append]; omega)) (dcall (lebPut_sp (4 * l[i].a + l[i].h) (by omega)) rfl ?_ rfl (nle (le40 (n := ((D ++ lebP (n + 1)) ++ lebP l[i].r.toNat).length + (lebP (4 * l[i].a + l[i].h)).length) ?_ (by rw [List.length_append, List.length_append]; omega)) (dagain rfl ⟨(D ++ runB (n + 1) l[i], k), ?_, ⟨by show k ≤ l.length; omega, ?_, ?_⟩, by show l.length - k < l.length - i; omega⟩)))))))
     ·have e3 := congrArg (fun d => [U.den (.wrap .u64) (.I d)]) ew
      exact e3.trans (congrArg (fun d => [d]) (wrap64_d (n + 1) (by omega)))
     ·show ((bytesD D).rows.length : Int) + (bytesD (lebP (n + 1))).rows.length = _
      rw [bytes_len, bytes_len]; omega
     ·have e3 := congrArg (fun x : List DV => [U.den (.wrap .u64) (x.getD 0 (.I 0))]) e1
      refine e3.trans ?_
      have e4 : (l[i].r : Int) = ((l[i].r.toNat : Nat) : Int) := by omega
      have e5 := congrArg (fun d : Int => [U.den (.wrap .u64) (.I d)]) e4
      exact Eq.trans e5 (congrArg (fun d => [d]) (wrap64_d l[i].r.toNat (by omega)))
     ·have e3 := congrArg (fun d => ((d.rows.length : Nat) : Int) + ((bytesD (lebP l[i].r.toNat)).rows.length : Int)) (bytes_app2 D (lebP (n + 1)))
      refine e3.trans ?_
      rw [bytes_len, bytes_len]; omega
     ·have e3 := congrArg (fun x : List DV => [U.den (.wrap .u64) (O.den .add (U.den (.wrap .u64) (O.den .mul (.I 4) (x.getD 1 (.I 0)))) (x.getD 2 (.I 0)))]) e1
      refine e3.trans ?_
      have e4 : U.den (.wrap .u64) (O.den .mul (.I 4) (.I (l[i].a : Int))) = .I ((4 * l[i].a : Nat) : Int) := by
       have : O.den .mul (.I 4) (.I (l[i].a : Int)) = .I ((4 * l[i].a : Nat) : Int) := congrArg DV.I (show (4 : Int) * (l[i].a : Int) = ((4 * l[i].a : Nat) : Int) by omega)
       rw [this]; exact wrap64_d _ (by omega)
      have e5 := congrArg (fun d => [U.den (.wrap .u64) (O.den .add d (.I (l[i].h : Int)))]) e4
      refine Eq.trans e5 ?_
      have e6 : O.den .add (.I ((4 * l[i].a : Nat) : Int)) (.I (l[i].h : Int)) = .I ((4 * l[i].a + l[i].h : Nat) : Int) := congrArg DV.I (show ((4 * l[i].a : Nat) : Int) + (l[i].h : Int) = ((4 * l[i].a + l[i].h : Nat) : Int) by omega)
      rw [e6]
      exact congrArg (fun d => [d]) (wrap64_d _ (by omega))
     ·have e0 := (congrArg (fun d => O.den .app d (bytesD (lebP l[i].r.toNat))) (bytes_app2 D (lebP (n + 1)))).trans (bytes_app2 _ _)
      have e3 := congrArg (fun d => ((d.rows.length : Nat) : Int) + ((bytesD (lebP (4 * l[i].a + l[i].h))).rows.length : Int)) e0
      refine e3.trans ?_
      rw [bytes_len, bytes_len]; omega
     ·exact congrArg (fun d => [d, DV.I (k : Int)]) (put3 D _ _ _)
     ·show (D ++ runB (n + 1) l[i]) ++ bytL (l.drop k) = bytL l
      rw [← hD, hdr, bytL_cons, hn, List.append_assoc, List.drop_drop, hkK, show i + 1 + n = i + n + 1 by omega]
     ·show ∀ x ∈ l.take k, cellB x = true
      intro x hx
      obtain ⟨j, hj, e⟩ := List.mem_iff_getElem.1 hx
      rw [List.getElem_take] at e
      have hjl : j < l.length := by rw [List.length_take] at hj; omega
      have hjk : j < k := by rw [List.length_take] at hj; omega
      by_cases hji : j < i
      ·exact hR x (List.mem_iff_getElem.2 ⟨j, by rw [List.length_take]; omega, by rw [List.getElem_take]; exact e⟩)
      ·rw [← e, run_in h1 (by omega) (by rw [hn]; omega) hjl]; exact c
   ·replace g2 : ¬ (k : Int) < l.length := by rw [← cells_len]; exact g2
    have hkK : k = i + n + 1 := by omega
    have ew : (k : Int) - i = ((n + 1 : Nat) : Int) := by omega
    have l1 := (lebP_length (n + 1)).2
    have l2 := (lebP_length l[i].r.toNat).2
    have l3 := (lebP_length (4 * l[i].a + l[i].h)).2
    refine dfit (show (-9223372036854775808 : Int) ≤ (k : Int) - i by omega) (show (k : Int) - i ≤ 9223372036854775807 by omega) (dcall (lebPut_sp (n + 1) (by omega)) rfl ?_ rfl (nle (le40 (n := D.length + (lebP (n + 1)).length) ?_ (by omega)) (dcall (lebPut_sp l[i].r.toNat (by omega)) rfl ?_ rfl (nle (le40 (n := (D ++ lebP (n + 1)).length + (lebP l[i].r.toNat).length) ?_ (by rw [List.length_append]; omega)) (dcall (lebPut_sp (4 * l[i].a + l[i].h) (by omega)) rfl ?_ rfl (nle (le40 (n := ((D ++ lebP (n + 1)) ++ lebP l[i].r.toNat).length + (lebP (4 * l[i].a + l[i].h)).length) ?_ (by rw [List.length_append, List.length_append]; omega)) (dagain rfl ⟨(D ++ runB (n + 1) l[i], k), ?_, ⟨by show k ≤ l.length; omega, ?_, ?_⟩, by show l.length - k < l.length - i; omega⟩)))))))
    ·have e3 := congrArg (fun d => [U.den (.wrap .u64) (.I d)]) ew
     exact e3.trans (congrArg (fun d => [d]) (wrap64_d (n + 1) (by omega)))
    ·show ((bytesD D).rows.length : Int) + (bytesD (lebP (n + 1))).rows.length = _
     rw [bytes_len, bytes_len]; omega
    ·have e3 := congrArg (fun x : List DV => [U.den (.wrap .u64) (x.getD 0 (.I 0))]) e1
     refine e3.trans ?_
     have e4 : (l[i].r : Int) = ((l[i].r.toNat : Nat) : Int) := by omega
     have e5 := congrArg (fun d : Int => [U.den (.wrap .u64) (.I d)]) e4
     exact Eq.trans e5 (congrArg (fun d => [d]) (wrap64_d l[i].r.toNat (by omega)))
    ·have e3 := congrArg (fun d => ((d.rows.length : Nat) : Int) + ((bytesD (lebP l[i].r.toNat)).rows.length : Int)) (bytes_app2 D (lebP (n + 1)))
     refine e3.trans ?_
     rw [bytes_len, bytes_len]; omega
    ·have e3 := congrArg (fun x : List DV => [U.den (.wrap .u64) (O.den .add (U.den (.wrap .u64) (O.den .mul (.I 4) (x.getD 1 (.I 0)))) (x.getD 2 (.I 0)))]) e1
     refine e3.trans ?_
     have e4 : U.den (.wrap .u64) (O.den .mul (.I 4) (.I (l[i].a : Int))) = .I ((4 * l[i].a : Nat) : Int) := by
      have : O.den .mul (.I 4) (.I (l[i].a : Int)) = .I ((4 * l[i].a : Nat) : Int) := congrArg DV.I (show (4 : Int) * (l[i].a : Int) = ((4 * l[i].a : Nat) : Int) by omega)
      rw [this]; exact wrap64_d _ (by omega)
     have e5 := congrArg (fun d => [U.den (.wrap .u64) (O.den .add d (.I (l[i].h : Int)))]) e4
     refine Eq.trans e5 ?_
     have e6 : O.den .add (.I ((4 * l[i].a : Nat) : Int)) (.I (l[i].h : Int)) = .I ((4 * l[i].a + l[i].h : Nat) : Int) := congrArg DV.I (show ((4 * l[i].a : Nat) : Int) + (l[i].h : Int) = ((4 * l[i].a + l[i].h : Nat) : Int) by omega)
     rw [e6]
     exact congrArg (fun d => [d]) (wrap64_d _ (by omega))
    ·have e0 := (congrArg (fun d => O.den .app d (bytesD (lebP l[i].r.toNat))) (bytes_app2 D (lebP (n + 1)))).trans (bytes_app2 _ _)
     have e3 := congrArg (fun d => ((d.rows.length : Nat) : Int) + ((bytesD (lebP (4 * l[i].a + l[i].h))).rows.length : Int)) e0
     refine e3.trans ?_
     rw [bytes_len, bytes_len]; omega
    ·exact congrArg (fun d => [d, DV.I (k : Int)]) (put3 D _ _ _)
    ·show (D ++ runB (n + 1) l[i]) ++ bytL (l.drop k) = bytL l
     rw [← hD, hdr, bytL_cons, hn, List.append_assoc, List.drop_drop, hkK, show i + 1 + n = i + n + 1 by omega]
    ·show ∀ x ∈ l.take k, cellB x = true
     intro x hx
     obtain ⟨j, hj, e⟩ := List.mem_iff_getElem.1 hx
     rw [List.getElem_take] at e
     have hjl : j < l.length := by rw [List.length_take] at hj; omega
     have hjk : j < k := by rw [List.length_take] at hj; omega
     by_cases hji : j < i
     ·exact hR x (List.mem_iff_getElem.2 ⟨j, by rw [List.length_take]; omega, by rw [List.getElem_take]; exact e⟩)
     ·rw [← e, run_in h1 (by omega) (by rw [hn]; omega) hjl]; exact c
  ·replace c : cellB l[i] = false := c
   rw [putCL_no (List.getElem_mem h1) c]; rfl
 ·replace g : ¬ (i : Int) < l.length := by rw [← cells_len]; exact g
  have : i = l.length := by omega
  subst this
  rw [List.drop_length] at hD
  rw [List.take_length] at hR
  have hD' : D = bytL l := by rw [← hD]; show D = D ++ []; rw [List.append_nil]
  rw [putCL_yes hR, hD']; rfl
end
theorem app_need {l m : List UInt8} {x y : DV} (hx : x = bytesD l) (hy : y = bytesD m) (h : l.length + m.length ≤ 1000000000) : (x.rows.length : Int) + (y.rows.length : Int) ≤ 1099511627776 := by
 rw [hx, hy, bytes_len, bytes_len]
 exact le40 (n := l.length + m.length) (by omega) h
theorem snum_nums (l : List Int) : numsL l = snumL (l.map Int.toNat) := by
 induction l with
 | nil => rfl
 | cons x l ih => show lebP x.toNat ++ numsL l = lebP x.toNat ++ snumL (l.map Int.toNat); rw [ih]
theorem snum_len (l : List Int) : (snumL (l.map Int.toNat)).length ≤ 10 * l.length := by
 have := snumL_len (l.map Int.toNat)
 rw [List.length_map] at this; exact this
theorem snum_snoc (l : List Int) (x : Int) : snumL ((l ++ [x]).map Int.toNat) = snumL (l.map Int.toNat) ++ lebP x.toNat := by
 rw [List.map_append, snumL_app]
 simp [snumL]
theorem putNums_sp (l : List Int) (hl : l.length ≤ 1048576) (he : ∀ x ∈ l, 0 ≤ x ∧ x < 9223372036854775808) : Spn n_snap_putNumbers sg_snap_putNumbers [intsD l] [bytesD (snumL (l.map Int.toNat))] := by
 refine rd_snap_putNumbers rfl (dloop (fun k : Nat => [bytesD (snumL ((l.take k).map Int.toNat)), .I (k : Int)]) (fun k => k ≤ l.length) (fun k => l.length - k) 0 rfl (Nat.zero_le _) fun k hk _ => ?_)
 have hn := snum_len (l.take k)
 rw [List.length_take] at hn
 refine dlt (fun g => ?_) fun g => ?_
 ·replace g : (k : Int) < l.length := by rw [← ints_len]; exact g
  have k1 : k < l.length := by omega
  have hx := he l[k] (List.getElem_mem k1)
  have hp := (lebP_length l[k].toNat).2
  have e1 := ints_at k1
  have hnx := snum_snoc (l.take k) l[k]
  rw [← List.take_succ_eq_append_getElem k1] at hnx
  generalize snumL ((l.take k).map Int.toNat) = S at hnx hn
  refine nle (show (0 : Int) ≤ k by omega) (dcall (pLebPut_sp l[k].toNat (by omega)) rfl ?_ rfl (nle (app_need rfl rfl (by omega)) (dfit (show (-9223372036854775808 : Int) ≤ (k : Int) + 1 by omega) (show (k : Int) + 1 ≤ 9223372036854775807 by omega) (dagain rfl ⟨k + 1, ?_, by omega, by omega⟩))))
  ·have e2 := congrArg (fun d => [U.den (.wrap .u64) d]) e1
   refine e2.trans ?_
   have : (l[k] : Int) = ((l[k].toNat : Nat) : Int) := by omega
   rw [this, wrap64_d _ (by omega)]
   rfl
  ·rw [hnx]
   exact congrArg (fun d => [d, DV.I ((k : Int) + 1)]) (bytes_app2 _ _)
 ·replace g : ¬ (k : Int) < l.length := by rw [← ints_len]; exact g
  have : k = l.length := by omega
  subst this
  rw [List.take_length]
  exact dret rfl
theorem pBit_sp (v : Bool) (n : Int) : Spn n_snap_bitIf sg_snap_bitIf [.B v, .I n] [.I (if v = true then n else 0)] := by
 cases v
 ·exact rd_snap_bitIf rfl (dfalse rfl (dret rfl))
 ·exact rd_snap_bitIf rfl (dtrue rfl (dret rfl))
theorem bN_int (v : Bool) (n : Nat) : (if v = true then (n : Int) else 0) = (bN v n : Int) := by cases v <;> rfl
theorem bits_or (a b c d : Bool) : O.den (.bor .i64) (O.den (.bor .i64) (O.den (.bor .i64) (.I (bN a 1 : Int)) (.I (bN b 2 : Int))) (.I (bN c 4 : Int))) (.I (bN d 8 : Int)) = .I ((bN a 1 + bN b 2 + bN c 4 + bN d 8 : Nat) : Int) := by
 cases a <;> cases b <;> cases c <;> cases d <;> kernel_rfl
theorem bitsOf_sp (m : Int) (s : Sc) : Spn n_snap_bitsOf sg_snap_bitsOf (scR m s) [.I (bitsN s : Int)] := by
 have h1 := pBit_sp s.wrap 1
 have h2 := pBit_sp s.auto 2
 have h3 := pBit_sp s.shown 4
 have h4 := pBit_sp s.alt 8
 rw [show (1 : Int) = ((1 : Nat) : Int) from rfl, bN_int] at h1
 rw [show (2 : Int) = ((2 : Nat) : Int) from rfl, bN_int] at h2
 rw [show (4 : Int) = ((4 : Nat) : Int) from rfl, bN_int] at h3
 rw [show (8 : Int) = ((8 : Nat) : Int) from rfl, bN_int] at h4
 refine rd_snap_bitsOf rfl (dcall h1 rfl rfl rfl (dcall h2 rfl rfl rfl (dcall h3 rfl rfl rfl (dcall h4 rfl rfl rfl (dret ?_)))))
 exact congrArg (fun d => [d]) (bits_or _ _ _ _)
theorem tabB_snoc (l : List Bool) (b : Bool) : tabsB (l ++ [b]) = tabsB l ++ [UInt8.ofNat (bN b 1)] := by
 unfold tabsB
 rw [List.map_append, snumL_app]
 cases b <;> rfl
theorem tabs_len (l : List Bool) : (tabsB l).length ≤ 10 * l.length := by
 have := snumL_len (l.map fun b => bN b 1)
 rw [List.length_map] at this; exact this
theorem tab_byte (b : Bool) : U.den (.wrap .u8) (.I (bN b 1 : Int)) = .I (((UInt8.ofNat (bN b 1)).toNat : Nat) : Int) := wrap_d _ (by have := bN_le b 1; omega)
theorem putTabs_sp (l : List Bool) (hl : l.length ≤ 1048576) : Spn n_snap_putTabs sg_snap_putTabs [boolsD l] [bytesD (tabsB l)] := by
 refine rd_snap_putTabs rfl (dloop (fun k : Nat => [bytesD (tabsB (l.take k)), .I (k : Int)]) (fun k => k ≤ l.length) (fun k => l.length - k) 0 rfl (Nat.zero_le _) fun k hk _ => ?_)
 have hn := tabs_len (l.take k)
 rw [List.length_take] at hn
 refine dlt (fun g => ?_) fun g => ?_
 ·replace g : (k : Int) < l.length := by rw [← bools_len']; exact g
  have k1 : k < l.length := by omega
  have e1 := bools_at k1
  have hb := pBit_sp l[k] 1
  rw [show (1 : Int) = ((1 : Nat) : Int) from rfl, bN_int] at hb
  have hnx := tabB_snoc (l.take k) l[k]
  rw [← List.take_succ_eq_append_getElem k1] at hnx
  generalize tabsB (l.take k) = S at hnx hn
  have ht := tab_byte l[k]
  refine nle (show (0 : Int) ≤ k by omega) (dcall hb rfl (congrArg (fun d => [d, DV.I 1]) e1) rfl (nle (app_need (l := S) (m := [UInt8.ofNat (bN l[k] 1)]) rfl (congrArg (fun d => O.den .app (.L []) (U.den .one (O.den .cns (.R []) d))) ht) (by simp; omega)) (dfit (show (-9223372036854775808 : Int) ≤ (k : Int) + 1 by omega) (show (k : Int) + 1 ≤ 9223372036854775807 by omega) (dagain rfl ⟨k + 1, ?_, by omega, by omega⟩))))
  rw [hnx]
  have e3 := (congrArg (fun d => O.den .app (bytesD S) (O.den .app (.L []) (U.den .one (O.den .cns (.R []) d)))) ht).trans (bytes_app1 S _)
  exact congrArg (fun d => [d, DV.I ((k : Int) + 1)]) e3
 ·replace g : ¬ (k : Int) < l.length := by rw [← bools_len']; exact g
  have : k = l.length := by omega
  subst this
  rw [List.take_length]
  exact dret rfl
theorem putCellsP_sp (l : List Cl) (hl : l.length ≤ 1048576) : Spn n_snap_putCells sg_snap_putCells [cellsD l] [bytesD (putCL l).1] := rd_snap_putCells rfl (dcall (pPutC_sp l hl) rfl rfl rfl (dret rfl))
theorem putParser_sp (p : Pr) (hp : RightP (p.mode : Int) p.priv p.params p.inter p.utf) : Spn n_snap_putParser sg_snap_putParser (prR p.mode p.priv p.params p.inter p.utf) [bytesD (parserB p)] := by
 obtain ⟨⟨-, m7, k16, i2, hu⟩, hps, -, hpv, -, -⟩ := hp
 have hul : p.utf.length ≤ 3 := by
  rcases Nat.eq_zero_or_pos p.utf.length with h | h
  ·omega
  ·exact (beginsL_len _ (hu h).2).2
 have lp := ints_len p.params
 have h3 := putNums_sp [(p.mode : Int), (p.priv : Int), (p.params.length : Int)] (by simp) (fun x hx => by simp at hx; omega)
 have h4 := putNums_sp p.params (by omega) (fun x hx => by have := hps x hx; omega)
 have n3 := snum_len [(p.mode : Int), (p.priv : Int), (p.params.length : Int)]
 have n4 := snum_len p.params
 have b1 : (putB p.inter).length ≤ 20 := by have := (lebP_length p.inter.length).2; simp [putB]; omega
 have b2 : (putB p.utf).length ≤ 20 := by have := (lebP_length p.utf.length).2; simp [putB]; omega
 simp only [List.length_cons, List.length_nil] at n3
 have e3 : snumL ([(p.mode : Int), (p.priv : Int), (p.params.length : Int)].map Int.toNat) = snumL [p.mode, p.priv, p.params.length] := by simp
 rw [e3] at h3 n3
 have hs : parserB p = snumL [p.mode, p.priv, p.params.length] ++ (snumL (p.params.map Int.toNat) ++ (putB p.inter ++ putB p.utf)) := rfl
 rw [hs]
 generalize snumL [p.mode, p.priv, p.params.length] = A at *
 generalize snumL (p.params.map Int.toNat) = B at *
 refine rd_snap_putParser rfl (dcall h3 rfl ?_ rfl (dcall h4 rfl rfl rfl (nle (app_need rfl rfl (by omega)) (dcall (pPutBytes_sp p.inter (by omega)) rfl rfl rfl (nle (app_need (l := A ++ B) (m := putB p.inter) (bytes_app2 _ _) rfl (by simp; omega)) (dcall (pPutBytes_sp p.utf (by omega)) rfl rfl rfl (nle (app_need (l := A ++ B ++ putB p.inter) (m := putB p.utf) (by show O.den .app (O.den .app (bytesD A) (bytesD B)) (bytesD (putB p.inter)) = _; rw [bytes_app2, bytes_app2]) rfl (by simp; omega)) (dret ?_))))))))
 ·exact congrArg (fun n => [DV.L [[.I (p.mode : Int)], [.I (p.priv : Int)], [.I n]]]) lp
 ·show [O.den .app (O.den .app (O.den .app (bytesD A) (bytesD B)) (bytesD (putB p.inter))) (bytesD (putB p.utf))] = _
  rw [bytes_app2, bytes_app2, bytes_app2, List.append_assoc, List.append_assoc]
def modeM (m : Int) (s : Sc) : Sc := { s with p := { s.p with mode := m.toNat } }
def PutR (m : Int) (s : Sc) (r : List UInt8 × Nat) : Prop := (RightS m s ∧ r = (snapL (modeM m s), 0)) ∨ (¬ RightS m s ∧ r = ([], 27))
theorem putR_ex (m : Int) (s : Sc) : ∃ r, PutR m s r := by
 by_cases h : RightS m s
 ·exact ⟨_, .inl ⟨h, rfl⟩⟩
 ·exact ⟨_, .inr ⟨h, rfl⟩⟩
theorem modeM_right {m : Int} {s : Sc} (h : RightS m s) : RightS ((modeM m s).p.mode : Int) (modeM m s) ∧ ((modeM m s).p.mode : Int) = m := by
 have h0 := h.p.1.1
 have e : ((modeM m s).p.mode : Int) = m := by show ((m.toNat : Nat) : Int) = m; omega
 rw [e]
 exact ⟨⟨h.r1, h.r2, h.c1, h.c2, h.cells, h.y0, h.y1, h.x0, h.x1, h.sy0, h.sy1, h.sx0, h.sx1, h.oy0, h.oy1, h.ox0, h.ox1, h.wrap, h.attr, h.sattr, h.tabs, h.p, h.t0, h.b1, h.tb, h.other, h.noAlt⟩, rfl⟩
def headI (s : Sc) : List Int := [s.rows, s.cols, s.y, s.x, (bitsN s : Int), (s.attr : Int), s.top, s.bottom, s.sy, s.sx, (s.sattr : Int)]
theorem headI_nat (s : Sc) : (headI s).map Int.toNat = headN s := by simp [headI, headN]
structure Parts (s : Sc) : Prop where
 head : ∀ x ∈ headI s, 0 ≤ x ∧ x < 9223372036854775808
 hl : (snumL (headN s)).length ≤ 110
 tl : (tabsB s.tabs).length ≤ 10000
 cl : (bytL s.cells).length ≤ 30000000
 cy : putCL s.cells = (bytL s.cells, 0)
 ol : s.alt = true → (bytL s.other).length ≤ 30000000
 oy : s.alt = true → putCL s.other = (bytL s.other, 0)
 o2 : s.alt = true → ∀ x ∈ [s.oy, s.ox], 0 ≤ x ∧ x < 9223372036854775808
 n2 : (snumL [s.oy.toNat, s.ox.toNat]).length ≤ 20
theorem parts_of {m : Int} {s : Sc} (h : RightS m s) : Parts s := by
 have r1 := h.r1
 have r2 := h.r2
 have c1 := h.c1
 have c2 := h.c2
 have hle : s.rows.toNat * s.cols.toNat ≤ 1000 * 1000 := Nat.mul_le_mul (by omega) (by omega)
 have n1 := h.cells.1
 have bl := bytL_len s.cells
 have t1 := tabs_len s.tabs
 have t2 := h.tabs
 have hh := snumL_len (headN s)
 have a1 := attrS_lt h.attr
 have a2 := attrS_lt h.sattr
 have b1 := bits_lt s
 refine ⟨fun x hx => ?_, by simpa [headN] using hh, by omega, by omega, putCL_yes h.cells.2.1, fun ha => ?_, fun ha => putCL_yes (h.other ha).2.1, fun ha x hx => ?_, by have := snumL_len [s.oy.toNat, s.ox.toNat]; simpa using this⟩
 ·have y0 := h.y0
  have y1 := h.y1
  have x0 := h.x0
  have x1 := h.x1
  have t0 := h.t0
  have tb := h.tb
  have bb := h.b1
  have q1 := h.sy0
  have q2 := h.sy1
  have q3 := h.sx0
  have q4 := h.sx1
  simp only [headI, List.mem_cons, List.not_mem_nil, or_false] at hx
  omega
 ·have := (h.other ha).1
  have bo := bytL_len s.other
  omega
 ·have q1 := h.oy0
  have q2 := h.oy1
  have q3 := h.ox0
  have q4 := h.ox1
  simp only [List.mem_cons, List.not_mem_nil, or_false] at hx
  omega
theorem parser_len {p : Pr} (hp : RightP (p.mode : Int) p.priv p.params p.inter p.utf) : (parserB p).length ≤ 1000 := by
 obtain ⟨⟨-, m7, k16, i2, hu⟩, hps, -, hpv, -, -⟩ := hp
 have hul : p.utf.length ≤ 3 := by
  rcases Nat.eq_zero_or_pos p.utf.length with h | h
  ·omega
  ·exact (beginsL_len _ (hu h).2).2
 have n3 := snumL_len [p.mode, p.priv, p.params.length]
 have n4 := snum_len p.params
 have b1 := (lebP_length p.inter.length).2
 have b2 := (lebP_length p.utf.length).2
 simp only [List.length_cons, List.length_nil] at n3
 unfold parserB putB
 simp only [List.length_append]
 omega
theorem pPut_sp {m : Int} {s : Sc} (hL : LenS s) {r : List UInt8 × Nat} (hr : PutR m s r) : Spn n_snap_Put sg_snap_Put (scR m s) [bytesD r.1, .I (r.2 : Int)] := by
 obtain ⟨u, hu⟩ := ex_bool (RightS m s)
 refine rd_snap_Put rfl (dcall (sRight_sp hL hu) rfl rfl rfl (dbr (fun h => ?_) fun h => dret ?_))
 ·have hR : RightS m s := hu.1 h
  rcases hr with ⟨-, rfl⟩ | ⟨h2, -⟩
  case inr => exact absurd hR h2
  have P := parts_of hR
  obtain ⟨hM, hmm⟩ := modeM_right hR
  have hPP : RightP (((modeM m s).p.mode : Nat) : Int) (modeM m s).p.priv (modeM m s).p.params (modeM m s).p.inter (modeM m s).p.utf := hM.p
  have hpp := putParser_sp (modeM m s).p hPP
  have pl := parser_len hPP
  rw [hmm] at hpp
  have hs : snapL (modeM m s) = snumL (headN s) ++ (tabsB s.tabs ++ (bytL s.cells ++ (otherB s ++ parserB (modeM m s).p))) := rfl
  have hh := putNums_sp (headI s) (by simp [headI]) P.head
  rw [headI_nat] at hh
  have ht := putTabs_sp s.tabs hL.nt
  have hc := putCellsP_sp s.cells hL.nc
  rw [P.cy] at hc
  have p1 := P.hl
  have p2 := P.tl
  have p3 := P.cl
  have p5 := P.n2
  have hob : otherB s = if s.alt = true then snumL [s.oy.toNat, s.ox.toNat] ++ bytL s.other else [] := rfl
  have hoc := putCellsP_sp s.other hL.no
  have hon := putNums_sp [s.oy, s.ox] (by simp)
  have hon2 : snumL ([s.oy, s.ox].map Int.toNat) = snumL [s.oy.toNat, s.ox.toNat] := rfl
  rw [hon2] at hon
  rw [hs, hob]
  have p4 := P.ol
  have p6 := P.oy
  have p7 := P.o2
  generalize parserB (modeM m s).p = E at *
  generalize snumL (headN s) = A at *
  generalize tabsB s.tabs = B at *
  generalize bytL s.cells = C at *
  generalize snumL [s.oy.toNat, s.ox.toNat] = X at *
  generalize hY : bytL s.other = Y at *
  refine dcall (bitsOf_sp m s) rfl rfl rfl (dcall hh rfl rfl rfl (dcall ht rfl rfl rfl (nle (app_need rfl rfl (by omega)) (dcall hc rfl rfl rfl (nle (app_need (l := A ++ B) (m := C) (bytes_app2 _ _) rfl (by simp; omega)) (dbr (fun ha => ?_) fun ha => ?_))))))
  ·replace ha : s.alt = true := ha
   have q4 := p4 ha
   have q6 := p6 ha
   rw [q6] at hoc
   refine dcall (hon (p7 ha)) rfl rfl rfl (nle (app_need (l := A ++ B ++ C) (m := X) (by show O.den .app (O.den .app (bytesD A) (bytesD B)) (bytesD C) = _; rw [bytes_app2, bytes_app2]) rfl (by simp; omega)) (dcall hoc rfl rfl rfl (nle (app_need (l := A ++ B ++ C ++ X) (m := Y) (by show O.den .app (O.den .app (O.den .app (bytesD A) (bytesD B)) (bytesD C)) (bytesD X) = _; rw [bytes_app2, bytes_app2, bytes_app2]) rfl (by simp; omega)) (dcall hpp rfl rfl rfl (nle (app_need (l := A ++ B ++ C ++ X ++ Y) (m := E) (by show O.den .app (O.den .app (O.den .app (O.den .app (bytesD A) (bytesD B)) (bytesD C)) (bytesD X)) (bytesD Y) = _; rw [bytes_app2, bytes_app2, bytes_app2, bytes_app2]) rfl (by simp; omega)) (dret ?_))))))
   show [O.den .app (O.den .app (O.den .app (O.den .app (O.den .app (bytesD A) (bytesD B)) (bytesD C)) (bytesD X)) (bytesD Y)) (bytesD E), DV.I 0] = _
   rw [bytes_app2, bytes_app2, bytes_app2, bytes_app2, bytes_app2, if_pos ha]
   simp only [List.append_assoc]
   rfl
  ·replace ha : s.alt = false := ha
   refine dcall hpp rfl rfl rfl (nle (app_need (l := A ++ B ++ C) (m := E) (by show O.den .app (O.den .app (bytesD A) (bytesD B)) (bytesD C) = _; rw [bytes_app2, bytes_app2]) rfl (by simp; omega)) (dret ?_))
   show [O.den .app (O.den .app (O.den .app (bytesD A) (bytesD B)) (bytesD C)) (bytesD E), DV.I 0] = _
   rw [bytes_app2, bytes_app2, bytes_app2, if_neg (by rw [ha]; decide)]
   simp only [List.append_assoc, List.nil_append]
   rfl
 ·replace h : u = false := h
  rcases hr with ⟨h2, -⟩ | ⟨-, rfl⟩
  ·rw [hu.2 h2] at h; cases h
  ·rfl
theorem Put_sp {m : Int} {s : Sc} (hL : LenS s) {r : List UInt8 × Nat} (hr : PutR m s r) : Spn n_r7_Put sg_r7_Put (scR m s) [bytesD r.1, .I (r.2 : Int)] := by
 obtain ⟨u, hu⟩ := ex_bool (RightS m s)
 refine rd_r7_Put rfl (dcall (Right_sp hL hu) rfl rfl rfl (dbr (fun h => ?_) fun h => dret ?_))
 ·have hR : RightS m s := hu.1 h
  rcases hr with ⟨-, rfl⟩ | ⟨h2, -⟩
  case inr => exact absurd hR h2
  have P := parts_of hR
  obtain ⟨hM, hmm⟩ := modeM_right hR
  have hPP : RightP (((modeM m s).p.mode : Nat) : Int) (modeM m s).p.priv (modeM m s).p.params (modeM m s).p.inter (modeM m s).p.utf := hM.p
  have pl := parser_len hPP
  have hs : snapL (modeM m s) = snumL (headN s) ++ (tabsB s.tabs ++ (bytL s.cells ++ (otherB s ++ (snumL [m.toNat, s.p.priv, s.p.params.length] ++ (snumL (s.p.params.map Int.toNat) ++ (putB s.p.inter ++ putB s.p.utf)))))) := rfl
  have pl2 : (snumL [m.toNat, s.p.priv, s.p.params.length] ++ (snumL (s.p.params.map Int.toNat) ++ (putB s.p.inter ++ putB s.p.utf))).length ≤ 1000 := pl
  have hob : otherB s = if s.alt = true then snumL [s.oy.toNat, s.ox.toNat] ++ bytL s.other else [] := rfl
  rw [hs, hob]
  have hpr := hR.p
  obtain ⟨⟨m0, m7, k16, i2, hu'⟩, hps, -, hpv, -, -⟩ := hpr
  have hul : s.p.utf.length ≤ 3 := by
   rcases Nat.eq_zero_or_pos s.p.utf.length with h | h
   ·omega
   ·exact (beginsL_len _ (hu' h).2).2
  have b1 := bit_sp s.wrap 1
  have b2 := bit_sp s.auto 2
  have b3 := bit_sp s.shown 4
  have b4 := bit_sp s.alt 8
  rw [show (1 : Int) = ((1 : Nat) : Int) from rfl, bN_int] at b1
  rw [show (2 : Int) = ((2 : Nat) : Int) from rfl, bN_int] at b2
  rw [show (4 : Int) = ((4 : Nat) : Int) from rfl, bN_int] at b3
  rw [show (8 : Int) = ((8 : Nat) : Int) from rfl, bN_int] at b4
  have w1 := bN_le s.wrap 1
  have w2 := bN_le s.auto 2
  have w3 := bN_le s.shown 4
  have w4 := bN_le s.alt 8
  have hbits : (bN s.wrap 1 : Int) + (bN s.auto 2 : Int) + (bN s.shown 4 : Int) + (bN s.alt 8 : Int) = (bitsN s : Int) := by unfold bitsN; omega
  have hh := num_sp [] (headI s) (by simp) (by simp [headI]) P.head
  rw [snum_nums, headI_nat, List.nil_append] at hh
  have hc := putCells_sp (l := s.cells) hL.nc
  rw [P.cy] at hc
  have hoc := putCells_sp (l := s.other) hL.no
  have hon := fun (b : List UInt8) (hb : b.length ≤ 100000000) => num_sp b [s.oy, s.ox] hb (by simp)
  have hon2 : snumL ([s.oy, s.ox].map Int.toNat) = snumL [s.oy.toNat, s.ox.toNat] := rfl
  rw [snum_nums, hon2] at hon
  have hm := fun (b : List UInt8) (hb : b.length ≤ 100000000) => num_sp b [m, (s.p.priv : Int), (s.p.params.length : Int)] hb (by simp) (fun x hx => by simp at hx; omega)
  have hm2 : snumL ([m, (s.p.priv : Int), (s.p.params.length : Int)].map Int.toNat) = snumL [m.toNat, s.p.priv, s.p.params.length] := by simp
  rw [snum_nums, hm2] at hm
  have hq := fun (b : List UInt8) (hb : b.length ≤ 100000000) => num_sp b s.p.params hb (by omega) (fun x hx => by have := hps x hx; omega)
  rw [snum_nums] at hq
  have lp := ints_len s.p.params
  have p1 := P.hl
  have p2 := P.tl
  have p3 := P.cl
  have p5 := P.n2
  have p4 := P.ol
  have p6 := P.oy
  have p7 := P.o2
  have hnt := hL.nt
  have hpi := putBytes_sp s.p.inter (by omega)
  have hpu := putBytes_sp s.p.utf (by omega)
  generalize snumL (headN s) = A at *
  generalize bytL s.cells = C at *
  generalize snumL [s.oy.toNat, s.ox.toNat] = X at *
  generalize hY : bytL s.other = Y at *
  generalize snumL [m.toNat, s.p.priv, s.p.params.length] = E1 at *
  generalize snumL (s.p.params.map Int.toNat) = E2 at *
  generalize putB s.p.inter = E3 at *
  generalize putB s.p.utf = E4 at *
  simp only [List.length_append] at pl2
  refine dcall b1 rfl rfl rfl (dcall b2 rfl rfl rfl (dfit (show (-9223372036854775808 : Int) ≤ (bN s.wrap 1 : Int) + (bN s.auto 2 : Int) by omega) (show (bN s.wrap 1 : Int) + (bN s.auto 2 : Int) ≤ 9223372036854775807 by omega) (dcall b3 rfl rfl rfl (dfit (show (-9223372036854775808 : Int) ≤ (bN s.wrap 1 : Int) + (bN s.auto 2 : Int) + (bN s.shown 4 : Int) by omega) (show (bN s.wrap 1 : Int) + (bN s.auto 2 : Int) + (bN s.shown 4 : Int) ≤ 9223372036854775807 by omega) (dcall b4 rfl rfl rfl (dfit (show (-9223372036854775808 : Int) ≤ (bN s.wrap 1 : Int) + (bN s.auto 2 : Int) + (bN s.shown 4 : Int) + (bN s.alt 8 : Int) by omega) (show (bN s.wrap 1 : Int) + (bN s.auto 2 : Int) + (bN s.shown 4 : Int) + (bN s.alt 8 : Int) ≤ 9223372036854775807 by omega) (dcall hh rfl ?_ rfl ?_)))))))
  ·exact congrArg (fun n => [DV.L [], DV.L [[.I s.rows], [.I s.cols], [.I s.y], [.I s.x], [.I n], [.I (s.attr : Int)], [.I s.top], [.I s.bottom], [.I s.sy], [.I s.sx], [.I (s.sattr : Int)]]]) hbits
  refine dloop (fun k : Nat => [bytesD (A ++ tabsB (s.tabs.take k)), .I (k : Int)]) (fun k => k ≤ s.tabs.length) (fun k => s.tabs.length - k) 0 (by show [bytesD A, DV.I 0] = [bytesD (A ++ []), DV.I 0]; rw [List.append_nil]) (Nat.zero_le _) fun k hk _ => ?_
  have hn := tabs_len (s.tabs.take k)
  rw [List.length_take] at hn
  refine dlt (fun g => ?_) fun g => ?_
  ·replace g : (k : Int) < s.tabs.length := by rw [← bools_len']; exact g
   have k1 : k < s.tabs.length := by omega
   have e1 := bools_at k1
   have hb := bit_sp s.tabs[k] 1
   rw [show (1 : Int) = ((1 : Nat) : Int) from rfl, bN_int] at hb
   have hnx := tabB_snoc (s.tabs.take k) s.tabs[k]
   rw [← List.take_succ_eq_append_getElem k1] at hnx
   generalize tabsB (s.tabs.take k) = S at hnx hn
   have ht := tab_byte s.tabs[k]
   refine nle (show (0 : Int) ≤ k by omega) (dcall hb rfl (congrArg (fun d => [d, DV.I 1]) e1) rfl (nle (app_need (l := A ++ S) (m := [UInt8.ofNat (bN s.tabs[k] 1)]) rfl (congrArg (fun d => O.den .app (.L []) (U.den .one (O.den .cns (.R []) d))) ht) (by simp; omega)) (dfit (show (-9223372036854775808 : Int) ≤ (k : Int) + 1 by omega) (show (k : Int) + 1 ≤ 9223372036854775807 by omega) (dagain rfl ⟨k + 1, ?_, by omega, by omega⟩))))
   rw [hnx]
   have e3 := (congrArg (fun d => O.den .app (bytesD (A ++ S)) (O.den .app (.L []) (U.den .one (O.den .cns (.R []) d)))) ht).trans (bytes_app1 (A ++ S) _)
   rw [List.append_assoc] at e3
   exact congrArg (fun d => [d, DV.I ((k : Int) + 1)]) e3
  ·replace g : ¬ (k : Int) < s.tabs.length := by rw [← bools_len']; exact g
   have : k = s.tabs.length := by omega
   rw [this, List.take_length]
   generalize tabsB s.tabs = B at *
   refine dcall hc rfl rfl rfl (nle (app_need (l := A ++ B) (m := C) rfl rfl (by simp; omega)) (dbr (fun ha => ?_) fun ha => ?_))
   ·replace ha : s.alt = true := ha
    have q4 := p4 ha
    have q6 := p6 ha
    rw [q6] at hoc
    simp only [scR, List.cons_append, List.nil_append]
    refine dcall hoc rfl rfl rfl (dcall (hon (A ++ B ++ C) (by simp; omega) (p7 ha)) rfl ?_ rfl (nle (app_need (l := A ++ B ++ C ++ X) (m := Y) rfl rfl (by simp; omega)) (dcall (hm (A ++ B ++ C ++ X ++ Y) (by simp; omega)) rfl ?_ rfl (dcall (hq (A ++ B ++ C ++ X ++ Y ++ E1) (by simp; omega)) rfl rfl rfl (dcall hpi rfl rfl rfl (nle (app_need (l := A ++ B ++ C ++ X ++ Y ++ E1 ++ E2) (m := E3) rfl rfl (by simp; omega)) (dcall hpu rfl rfl rfl (nle (app_need (l := A ++ B ++ C ++ X ++ Y ++ E1 ++ E2 ++ E3) (m := E4) (bytes_app2 _ _) rfl (by simp; omega)) (dret ?_)))))))))
    ·exact congrArg (fun d => [d, intsD [s.oy, s.ox]]) (bytes_app2 (A ++ B) C)
    ·exact (congrArg (fun d => [d, DV.L [[.I m], [.I (s.p.priv : Int)], [.I ((intsD s.p.params).rows.length : Int)]]]) (bytes_app2 (A ++ B ++ C ++ X) Y)).trans (congrArg (fun n => [bytesD (A ++ B ++ C ++ X ++ Y), DV.L [[.I m], [.I (s.p.priv : Int)], [.I n]]]) lp)
    ·show [O.den .app (O.den .app (bytesD (A ++ B ++ C ++ X ++ Y ++ E1 ++ E2)) (bytesD E3)) (bytesD E4), DV.I 0] = _
     rw [bytes_app2, bytes_app2, if_pos ha]
     simp only [List.append_assoc]
     rfl
   ·replace ha : s.alt = false := ha
    simp only [scR, List.cons_append, List.nil_append]
    refine dcall (hm (A ++ B ++ C) (by simp; omega)) rfl ?_ rfl (dcall (hq (A ++ B ++ C ++ E1) (by simp; omega)) rfl rfl rfl (dcall hpi rfl rfl rfl (nle (app_need (l := A ++ B ++ C ++ E1 ++ E2) (m := E3) rfl rfl (by simp; omega)) (dcall hpu rfl rfl rfl (nle (app_need (l := A ++ B ++ C ++ E1 ++ E2 ++ E3) (m := E4) (bytes_app2 _ _) rfl (by simp; omega)) (dret ?_))))))
    ·exact (congrArg (fun d => [d, DV.L [[.I m], [.I (s.p.priv : Int)], [.I ((intsD s.p.params).rows.length : Int)]]]) (bytes_app2 (A ++ B) C)).trans (congrArg (fun n => [bytesD (A ++ B ++ C), DV.L [[.I m], [.I (s.p.priv : Int)], [.I n]]]) lp)
    ·show [O.den .app (O.den .app (bytesD (A ++ B ++ C ++ E1 ++ E2)) (bytesD E3)) (bytesD E4), DV.I 0] = _
     rw [bytes_app2, bytes_app2, if_neg (by rw [ha]; decide)]
     simp only [List.append_assoc, List.nil_append]
     rfl
 ·replace h : u = false := h
  rcases hr with ⟨h2, -⟩ | ⟨-, rfl⟩
  ·rw [hu.2 h2] at h; cases h
  ·rfl
end Go.Proofs.YtbegccgpmhbnfaaGreat
