/- What is proved here: parts of the proof of SnapTells. -/
import Derived.Test.YtbegccgpmhbnfaaGreatR12
namespace Go.Proofs.YtbegccgpmhbnfaaGreat
open Go.RowKit
set_option linter.unusedVariables false
set_option linter.unusedSimpArgs false
set_option maxRecDepth 10000
set_option maxHeartbeats 1000000
def sameN (c : Cl) : List Cl → Nat
  | [] => 0
  | x :: r => if x = c then sameN c r + 1 else 0
theorem sameN_le (c : Cl) (l : List Cl) : sameN c l ≤ l.length := by
  induction l with
  | nil => exact Nat.le_refl _
  | cons x r ih => unfold sameN; split <;> simp <;> omega
theorem sameN_take (c : Cl) (l : List Cl) : l.take (sameN c l) = List.replicate (sameN c l) c := by
  induction l with
  | nil => rfl
  | cons x r ih =>
    unfold sameN
    split
    · rename_i h
      rw [List.take_succ_cons, ih, List.replicate_succ, h]
    · rfl
theorem sameN_next (c : Cl) (l : List Cl) : (l.drop (sameN c l)).head? ≠ some c := by
  induction l with
  | nil => simp [sameN]
  | cons x r ih =>
    unfold sameN
    split
    · rw [List.drop_succ_cons]; exact ih
    · rename_i h
      simp only [List.drop_zero, List.head?_cons, ne_eq, Option.some.injEq]
      exact h
theorem sameN_at (c : Cl) (l : List Cl) (k : Nat) (h : k < sameN c l) : l[k]? = some c := by
  have hl := sameN_le c l
  have e := sameN_take c l
  have : (l.take (sameN c l))[k]? = (List.replicate (sameN c l) c)[k]? := by rw [e]
  rw [List.getElem?_take, if_pos h, List.getElem?_replicate, if_pos h] at this
  exact this
theorem sameN_stop (c : Cl) (l : List Cl) (h : sameN c l < l.length) : l[sameN c l]? ≠ some c := by
  have := sameN_next c l
  rw [List.head?_drop] at this
  exact this
def runB (n : Nat) (c : Cl) : List UInt8 := lebP n ++ (lebP c.r.toNat ++ lebP (4 * c.a + c.h))
def bytF : Nat → List Cl → List UInt8
  | 0, _ => []
  | _ + 1, [] => []
  | f + 1, c :: r => runB (sameN c r + 1) c ++ bytF f (r.drop (sameN c r))
def bytL (l : List Cl) : List UInt8 := bytF l.length l
theorem bytF_nil (f : Nat) : bytF f [] = [] := by cases f <;> rfl
theorem bytF_fuel (f g : Nat) (l : List Cl) (hf : l.length ≤ f) (hg : l.length ≤ g) : bytF f l = bytF g l := by
  induction f generalizing g l with
  | zero =>
    have : l = [] := List.eq_nil_of_length_eq_zero (by omega)
    subst this
    rw [bytF_nil, bytF_nil]
  | succ f ih =>
    cases l with
    | nil => rw [bytF_nil, bytF_nil]
    | cons c r =>
      cases g with
      | zero => simp at hg
      | succ g =>
        simp only [List.length_cons] at hf hg
        unfold bytF
        rw [ih g _ (by simp; omega) (by simp; omega)]
theorem bytL_cons (c : Cl) (r : List Cl) : bytL (c :: r) = runB (sameN c r + 1) c ++ bytL (r.drop (sameN c r)) := by
  unfold bytL
  show runB (sameN c r + 1) c ++ bytF r.length (r.drop (sameN c r)) = _
  rw [bytF_fuel r.length (r.drop (sameN c r)).length _ (by simp) (Nat.le_refl _)]
def putCL (l : List Cl) : List UInt8 × Nat := if l.all cellB = true then (bytL l, 0) else ([], 27)
theorem putCL_yes {l : List Cl} (h : ∀ x ∈ l, cellB x = true) : putCL l = (bytL l, 0) := by
  unfold putCL
  rw [if_pos (List.all_eq_true.2 h)]
theorem putCL_no {l : List Cl} {x : Cl} (h : x ∈ l) (hx : cellB x = false) : putCL l = ([], 27) := by
  unfold putCL
  rw [if_neg]
  intro e
  have := List.all_eq_true.1 e x h
  rw [hx] at this
  cases this
theorem runB_len (n : Nat) (c : Cl) : 3 ≤ (runB n c).length ∧ (runB n c).length ≤ 30 := by
  unfold runB
  have h1 := lebP_length n
  have h2 := lebP_length c.r.toNat
  have h3 := lebP_length (4 * c.a + c.h)
  simp only [List.length_append]
  omega
theorem bytF_len (f : Nat) (l : List Cl) : (bytF f l).length ≤ 30 * l.length := by
  induction f generalizing l with
  | zero => simp [bytF]
  | succ f ih =>
    cases l with
    | nil => simp [bytF]
    | cons c r =>
      unfold bytF
      have h1 := runB_len (sameN c r + 1) c
      have h2 := ih (r.drop (sameN c r))
      rw [List.length_drop] at h2
      rw [List.length_append, List.length_cons]
      omega
theorem bytL_len (l : List Cl) : (bytL l).length ≤ 30 * l.length := bytF_len _ l
/-! ### reading -/
def run3 (b : List UInt8) : (Nat × Nat × Nat) × Nat × Nat :=
  if (readL b).2.2 ≠ 0 then ((0, 0, 0), 0, (readL b).2.2)
  else if (readL (b.drop (readL b).2.1)).2.2 ≠ 0 then ((0, 0, 0), 0, (readL (b.drop (readL b).2.1)).2.2)
  else if (readL (b.drop ((readL b).2.1 + (readL (b.drop (readL b).2.1)).2.1))).2.2 ≠ 0 then ((0, 0, 0), 0, (readL (b.drop ((readL b).2.1 + (readL (b.drop (readL b).2.1)).2.1))).2.2)
  else (((readL b).1, (readL (b.drop (readL b).2.1)).1, (readL (b.drop ((readL b).2.1 + (readL (b.drop (readL b).2.1)).2.1))).1), (readL b).2.1 + (readL (b.drop (readL b).2.1)).2.1 + (readL (b.drop ((readL b).2.1 + (readL (b.drop (readL b).2.1)).2.1))).2.1, 0)
theorem run3_e1 {b : List UInt8} {v k e : Nat} (h1 : readL b = (v, k, e)) (he : e ≠ 0) : run3 b = ((0, 0, 0), 0, e) := by
  unfold run3; rw [h1]; exact if_pos he
theorem run3_e2 {b : List UInt8} {v k v2 k2 e : Nat} (h1 : readL b = (v, k, 0)) (h2 : readL (b.drop k) = (v2, k2, e)) (he : e ≠ 0) : run3 b = ((0, 0, 0), 0, e) := by
  unfold run3; rw [h1]; simp only [ne_eq, not_true_eq_false, if_false]; rw [h2]; exact if_pos he
theorem run3_e3 {b : List UInt8} {v k v2 k2 v3 k3 e : Nat} (h1 : readL b = (v, k, 0)) (h2 : readL (b.drop k) = (v2, k2, 0)) (h3 : readL (b.drop (k + k2)) = (v3, k3, e)) (he : e ≠ 0) : run3 b = ((0, 0, 0), 0, e) := by
  unfold run3; rw [h1]; simp only [ne_eq, not_true_eq_false, if_false]; rw [h2]; simp only [not_true_eq_false, if_false]; rw [h3]; exact if_pos he
theorem run3_ok {b : List UInt8} {v k v2 k2 v3 k3 : Nat} (h1 : readL b = (v, k, 0)) (h2 : readL (b.drop k) = (v2, k2, 0)) (h3 : readL (b.drop (k + k2)) = (v3, k3, 0)) : run3 b = ((v, v2, v3), k + k2 + k3, 0) := by
  unfold run3; rw [h1]; simp only [ne_eq, not_true_eq_false, if_false]; rw [h2]; simp only [not_true_eq_false, if_false]; rw [h3]; simp only [not_true_eq_false, if_false]
def cellOf (v2 v3 : Nat) : Cl := ⟨(v2 : Int), v3 / 4, v3 % 4⟩
def readF (n : Nat) : Nat → List UInt8 → List Cl → Nat → List Cl × Nat × Nat
  | 0, _, out, at_ => (out, at_, 0)
  | f + 1, b, out, at_ =>
    if out.length < n then
      if (run3 b).2.2 ≠ 0 then ([], 0, (run3 b).2.2)
      else if (run3 b).1.1 = 0 ∨ n - out.length < (run3 b).1.1 ∨ 1114111 < (run3 b).1.2.1 ∨ 16384 ≤ (run3 b).1.2.2 then ([], 0, 21)
      else if cellB (cellOf (run3 b).1.2.1 (run3 b).1.2.2) = false ∨ out.getLast? = some (cellOf (run3 b).1.2.1 (run3 b).1.2.2) then ([], 0, 21)
      else readF n f (b.drop (run3 b).2.1) (out ++ List.replicate (run3 b).1.1 (cellOf (run3 b).1.2.1 (run3 b).1.2.2)) (at_ + (run3 b).2.1)
    else (out, at_, 0)
def readCL (b : List UInt8) (n : Int) : List Cl × Nat × Nat := readF n.toNat n.toNat b [] 0
theorem readF_end (n f : Nat) (b : List UInt8) (out : List Cl) (at_ : Nat) (h : ¬ out.length < n) : readF n f b out at_ = (out, at_, 0) := by
  cases f with
  | zero => rfl
  | succ f => unfold readF; rw [if_neg h]
theorem readF_err {n f : Nat} {b : List UInt8} {out : List Cl} {at_ e : Nat} {x : Nat × Nat × Nat} {k : Nat} (hf : n - out.length ≤ f) (h : out.length < n) (hr : run3 b = (x, k, e)) (he : e ≠ 0) : readF n f b out at_ = ([], 0, e) := by
  cases f with
  | zero => omega
  | succ f => unfold readF; rw [if_pos h, hr]; exact if_pos he
theorem readF_bad {n f : Nat} {b : List UInt8} {out : List Cl} {at_ v1 v2 v3 k : Nat} (hf : n - out.length ≤ f) (h : out.length < n) (hr : run3 b = ((v1, v2, v3), k, 0)) (hb : (v1 = 0 ∨ n - out.length < v1 ∨ 1114111 < v2 ∨ 16384 ≤ v3) ∨ cellB (cellOf v2 v3) = false ∨ out.getLast? = some (cellOf v2 v3)) : readF n f b out at_ = ([], 0, 21) := by
  cases f with
  | zero => omega
  | succ f =>
    unfold readF
    rw [if_pos h, hr]
    simp only [ne_eq, not_true_eq_false, if_false]
    by_cases h1 : v1 = 0 ∨ n - out.length < v1 ∨ 1114111 < v2 ∨ 16384 ≤ v3
    · rw [if_pos h1]
    · rw [if_neg h1]
      rcases hb with hb | hb
      · exact absurd hb h1
      · rw [if_pos hb]
theorem readF_fuel (n f g : Nat) (b : List UInt8) (out : List Cl) (at_ : Nat) (hf : n - out.length ≤ f) (hg : n - out.length ≤ g) : readF n f b out at_ = readF n g b out at_ := by
  induction f generalizing g b out at_ with
  | zero => rw [readF_end _ _ _ _ _ (by omega), readF_end _ _ _ _ _ (by omega)]
  | succ f ih =>
    by_cases h : out.length < n
    · cases g with
      | zero => omega
      | succ g =>
        unfold readF
        rw [if_pos h, if_pos h]
        by_cases h1 : (run3 b).2.2 ≠ 0
        · rw [if_pos h1, if_pos h1]
        · rw [if_neg h1, if_neg h1]
          by_cases h2 : (run3 b).1.1 = 0 ∨ n - out.length < (run3 b).1.1 ∨ 1114111 < (run3 b).1.2.1 ∨ 16384 ≤ (run3 b).1.2.2
          · rw [if_pos h2, if_pos h2]
          · rw [if_neg h2, if_neg h2]
            rw [ih g _ _ _ (by rw [List.length_append, List.length_replicate]; omega) (by rw [List.length_append, List.length_replicate]; omega)]
    · rw [readF_end _ _ _ _ _ h, readF_end _ _ _ _ _ h]
theorem readF_go {n f : Nat} {b : List UInt8} {out : List Cl} {at_ v1 v2 v3 k : Nat} (hf : n - out.length ≤ f) (h : out.length < n) (hr : run3 b = ((v1, v2, v3), k, 0)) (hb : ¬ (v1 = 0 ∨ n - out.length < v1 ∨ 1114111 < v2 ∨ 16384 ≤ v3)) (hc : ¬ (cellB (cellOf v2 v3) = false ∨ out.getLast? = some (cellOf v2 v3))) :
    readF n f b out at_ = readF n f (b.drop k) (out ++ List.replicate v1 (cellOf v2 v3)) (at_ + k) := by
  cases f with
  | zero => omega
  | succ f =>
    rw [readF_fuel n (f + 1) f (b.drop k) _ _ (by rw [List.length_append, List.length_replicate]; omega) (by rw [List.length_append, List.length_replicate]; omega)]
    conv => lhs; unfold readF
    rw [if_pos h, hr]
    simp only [ne_eq, not_true_eq_false, if_false]
    rw [if_neg hb, if_neg hc]
/-! ### there and back -/
theorem cellB_bd {c : Cl} (h : cellB c = true) : 0 ≤ c.r ∧ c.r ≤ 1114111 ∧ c.a < 4096 ∧ c.h ≤ 2 := by
  unfold cellB attrB mayR at h
  simp only [Bool.and_eq_true, decide_eq_true_eq] at h
  omega
theorem cellOf_back {c : Cl} (h : cellB c = true) : cellOf c.r.toNat (4 * c.a + c.h) = c := by
  obtain ⟨h1, h2, h3, h4⟩ := cellB_bd h
  unfold cellOf
  rw [show (4 * c.a + c.h) / 4 = c.a by omega, show (4 * c.a + c.h) % 4 = c.h by omega, show ((c.r.toNat : Nat) : Int) = c.r by omega]
theorem run3_runB (n : Nat) (c : Cl) (more : List UInt8) (hc : cellB c = true) (hn : n ≤ 1099511627776) : run3 (runB n c ++ more) = ((n, c.r.toNat, 4 * c.a + c.h), (runB n c).length, 0) := by
  obtain ⟨h1, h2, h3, h4⟩ := cellB_bd hc
  have e1 : runB n c ++ more = lebP n ++ (lebP c.r.toNat ++ (lebP (4 * c.a + c.h) ++ more)) := by unfold runB; simp
  have r1 := readL_lebP n (lebP c.r.toNat ++ (lebP (4 * c.a + c.h) ++ more)) (by omega)
  have r2 := readL_lebP c.r.toNat (lebP (4 * c.a + c.h) ++ more) (by omega)
  have r3 := readL_lebP (4 * c.a + c.h) more (by omega)
  rw [e1]
  have e2 : (runB n c).length = (lebP n).length + (lebP c.r.toNat).length + (lebP (4 * c.a + c.h)).length := by unfold runB; simp; omega
  rw [e2]
  refine run3_ok r1 (by rw [List.drop_left]; exact r2) ?_
  rw [← List.drop_drop, List.drop_left, List.drop_left]
  exact r3
theorem readF_bytF (m : Nat) (l : List Cl) (hm : l.length ≤ m) (n f : Nat) (more : List UInt8) (out : List Cl) (at_ : Nat) (hl : ∀ x ∈ l, cellB x = true) (hn : n = out.length + l.length) (hn2 : n ≤ 1099511627776) (hf : l.length ≤ f) (hlast : out.getLast? = none ∨ out.getLast? ≠ l.head?) :
    readF n f (bytL l ++ more) out at_ = (out ++ l, at_ + (bytL l).length, 0) := by
  induction m generalizing l out at_ with
  | zero =>
    have : l = [] := List.eq_nil_of_length_eq_zero (by omega)
    subst this
    simp only [List.length_nil] at hn
    rw [readF_end _ _ _ _ _ (by omega)]
    simp [bytL, bytF]
  | succ m ih =>
    cases l with
    | nil =>
      simp only [List.length_nil] at hn
      rw [readF_end _ _ _ _ _ (by omega)]
      simp [bytL, bytF]
    | cons c r =>
      have hcb := hl c (by simp)
      obtain ⟨b1, b2, b3, b4⟩ := cellB_bd hcb
      have hsl := sameN_le c r
      simp only [List.length_cons] at hn hm hf
      rw [bytL_cons, List.append_assoc]
      have h3 := run3_runB (sameN c r + 1) c (bytL (r.drop (sameN c r)) ++ more) hcb (by omega)
      have hgl : out.getLast? ≠ some c := by
        rcases hlast with e | e
        · rw [e]; simp
        · simpa using e
      rw [readF_go (by omega) (by omega) h3 (by omega) (by rw [cellOf_back hcb]; rintro (e | e); · rw [hcb] at e; cases e
                                                           · exact hgl e)]
      rw [cellOf_back hcb, List.drop_left]
      have hrep : List.replicate (sameN c r + 1) c ++ r.drop (sameN c r) = c :: r := by
        rw [List.replicate_succ, ← sameN_take c r, List.cons_append, List.take_append_drop]
      have hlen : (r.drop (sameN c r)).length = r.length - sameN c r := by simp
      rw [ih (r.drop (sameN c r)) (by omega) (out ++ List.replicate (sameN c r + 1) c) (at_ + (runB (sameN c r + 1) c).length) (fun x hx => hl x (List.mem_cons_of_mem _ (List.mem_of_mem_drop hx)))
        (by rw [List.length_append, List.length_replicate, hlen]; omega) (by rw [hlen]; omega) (.inr ?_)]
      · rw [List.append_assoc, hrep, List.length_append, Nat.add_assoc]
      · rw [List.replicate_succ', ← List.append_assoc, List.getLast?_concat]
        intro e
        exact sameN_next c r e.symm
theorem readCL_back (l : List Cl) (more : List UInt8) (hl : ∀ x ∈ l, cellB x = true) (hn : l.length ≤ 1048576) : readCL (bytL l ++ more) (l.length : Int) = (l, (bytL l).length, 0) := by
  unfold readCL
  rw [Int.toNat_natCast]
  have := readF_bytF l.length l (Nat.le_refl _) l.length l.length more [] 0 hl (by simp) (by omega) (Nat.le_refl _) (.inl rfl)
  simpa using this
abbrev Ru := Nat × Cl
def expL (l : List Ru) : List Cl := l.flatMap fun x => List.replicate x.1 x.2
theorem expL_app (l m : List Ru) : expL (l ++ m) = expL l ++ expL m := by simp [expL, List.flatMap_append]
theorem expL_one (x : Ru) : expL [x] = List.replicate x.1 x.2 := by simp [expL]
theorem expL_len (l : List Ru) (h : ∀ x ∈ l, 0 < x.1) : l.length ≤ (expL l).length := by
 induction l with
 | nil => simp
 | cons x l ih =>
  have := ih (fun y hy => h y (List.mem_cons_of_mem _ hy))
  have h0 := h x (by simp)
  simp only [expL, List.flatMap_cons, List.length_append, List.length_replicate, List.length_cons] at this ⊢
  omega
theorem expL_last (l : List Ru) (h : ∀ x ∈ l, 0 < x.1) : (expL l).getLast? = l.getLast?.map (·.2) := by
 rcases List.eq_nil_or_concat l with rfl | ⟨m, x, rfl⟩
 ·rfl
 ·have h0 := h x (by simp)
  rw [List.concat_eq_append, expL_app, expL_one, List.getLast?_append, List.getLast?_append]
  obtain ⟨n, hn⟩ : ∃ n, x.1 = n + 1 := ⟨x.1 - 1, by omega⟩
  rw [hn, List.replicate_succ', List.getLast?_append]
  simp
theorem run3_len {b : List UInt8} {x : Nat × Nat × Nat} {k : Nat} (h : run3 b = (x, k, 0)) : k ≤ b.length := by
 have h1 := (readL_bd b).2.1
 have h2 := (readL_bd (b.drop (readL b).2.1)).2.1
 have h3 := (readL_bd (b.drop ((readL b).2.1 + (readL (b.drop (readL b).2.1)).2.1))).2.1
 rw [List.length_drop] at h2 h3
 unfold run3 at h
 split at h
 ·simp only [Prod.mk.injEq] at h; omega
 ·split at h
  ·simp only [Prod.mk.injEq] at h; omega
  ·split at h
   ·simp only [Prod.mk.injEq] at h; omega
   ·simp only [Prod.mk.injEq] at h; omega
def cofL (x y : Nat) : Cl × Bool := if 1114111 < x ∨ 16384 ≤ y then (⟨0, 0, 0⟩, false) else (cellOf x y, cellB (cellOf x y))
def rrL (b : List UInt8) (left : Nat) : (Nat × Cl) × Nat × Nat :=
 if (run3 b).2.2 ≠ 0 then ((0, ⟨0, 0, 0⟩), 0, (run3 b).2.2)
 else if (run3 b).1.1 = 0 ∨ left < (run3 b).1.1 ∨ (cofL (run3 b).1.2.1 (run3 b).1.2.2).2 = false then ((0, ⟨0, 0, 0⟩), 0, 21)
 else (((run3 b).1.1, (cofL (run3 b).1.2.1 (run3 b).1.2.2).1), (run3 b).2.1, 0)
theorem rrL_err {b : List UInt8} {left k e : Nat} {x : Nat × Nat × Nat} (hr : run3 b = (x, k, e)) (he : e ≠ 0) : rrL b left = ((0, ⟨0, 0, 0⟩), 0, e) := by
 unfold rrL; rw [hr]; exact if_pos he
theorem rrL_bad {b : List UInt8} {left k v1 v2 v3 : Nat} (hr : run3 b = ((v1, v2, v3), k, 0)) (h : v1 = 0 ∨ left < v1 ∨ (cofL v2 v3).2 = false) : rrL b left = ((0, ⟨0, 0, 0⟩), 0, 21) := by
 unfold rrL; rw [hr]; simp only [ne_eq, not_true_eq_false, if_false]; rw [if_pos h]
theorem rrL_ok {b : List UInt8} {left k v1 v2 v3 : Nat} (hr : run3 b = ((v1, v2, v3), k, 0)) (h : ¬ (v1 = 0 ∨ left < v1 ∨ (cofL v2 v3).2 = false)) : rrL b left = ((v1, (cofL v2 v3).1), k, 0) := by
 unfold rrL; rw [hr]; simp only [ne_eq, not_true_eq_false, if_false]; rw [if_neg h]
theorem rr_cases (n : Nat) (b : List UInt8) (left : Nat) :
  (∃ e, e ≠ 0 ∧ rrL b left = ((0, ⟨0, 0, 0⟩), 0, e) ∧ ∀ f out at_, out.length < n → n - out.length = left → left ≤ f → readF n f b out at_ = ([], 0, e)) ∨
  (∃ v1 c k, rrL b left = ((v1, c), k, 0) ∧ 0 < v1 ∧ v1 ≤ left ∧ k ≤ b.length ∧ ∀ f out at_, out.length < n → n - out.length = left → left ≤ f → (out.getLast? = some c → readF n f b out at_ = ([], 0, 21)) ∧ (out.getLast? ≠ some c → readF n f b out at_ = readF n f (b.drop k) (out ++ List.replicate v1 c) (at_ + k))) := by
 obtain ⟨⟨⟨v1, v2, v3⟩, k, e⟩, hr⟩ : ∃ X, run3 b = X := ⟨_, rfl⟩
 by_cases he : e = 0
 ·subst he
  by_cases hb : v1 = 0 ∨ left < v1 ∨ (cofL v2 v3).2 = false
  ·refine .inl ⟨21, by decide, rrL_bad hr hb, fun f out at_ h1 h2 h3 => readF_bad (by omega) h1 hr ?_⟩
   rcases hb with h | h | h
   ·exact .inl (.inl h)
   ·exact .inl (.inr (.inl (by omega)))
   ·unfold cofL at h
    by_cases hx : 1114111 < v2 ∨ 16384 ≤ v3
    ·exact .inl (.inr (.inr hx))
    ·rw [if_neg hx] at h
     exact .inr (.inl h)
  ·refine .inr ⟨v1, (cofL v2 v3).1, k, rrL_ok hr hb, by omega, by omega, run3_len hr, fun f out at_ h1 h2 h3 => ?_⟩
   have hx : ¬ (1114111 < v2 ∨ 16384 ≤ v3) := by
    intro hx
    apply hb
    right; right
    unfold cofL
    rw [if_pos hx]
   have hc : cofL v2 v3 = (cellOf v2 v3, cellB (cellOf v2 v3)) := by unfold cofL; rw [if_neg hx]
   rw [hc] at hb ⊢
   simp only at hb ⊢
   refine ⟨fun h => readF_bad (by omega) h1 hr (.inr (.inr h)), fun h => readF_go (by omega) h1 hr (by omega) ?_⟩
   rintro (g | g)
   ·exact hb (.inr (.inr g))
   ·exact h g
 ·exact .inl ⟨e, he, rrL_err hr he, fun f out at_ h1 h2 h3 => readF_err (by omega) h1 hr he⟩
theorem readF_len (n f : Nat) (b : List UInt8) (out : List Cl) (at_ : Nat) (h : out.length ≤ n) : (readF n f b out at_).1.length ≤ n := by
 induction f generalizing b out at_ with
 | zero => exact h
 | succ f ih =>
  unfold readF
  split
  ·split
   ·simp
   ·split
    ·simp
    ·split
     ·simp
     ·rename_i h1 h2 _
      exact ih _ _ _ (by rw [List.length_append, List.length_replicate]; omega)
  ·exact h
theorem readF_bad0 (n f : Nat) (b : List UInt8) (out : List Cl) (at_ : Nat) (h : (readF n f b out at_).2.2 ≠ 0) : (readF n f b out at_).1 = [] ∧ (readF n f b out at_).2.1 = 0 := by
 induction f generalizing b out at_ with
 | zero => exact absurd rfl h
 | succ f ih =>
  unfold readF at h ⊢
  split at h
  ·rename_i g
   rw [if_pos g]
   split at h
   ·rename_i g1; rw [if_pos g1]; exact ⟨rfl, rfl⟩
   ·rename_i g1
    rw [if_neg g1]
    split at h
    ·rename_i g2; rw [if_pos g2]; exact ⟨rfl, rfl⟩
    ·rename_i g2
     rw [if_neg g2]
     split at h
     ·rename_i g3; rw [if_pos g3]; exact ⟨rfl, rfl⟩
     ·rename_i g3
      rw [if_neg g3]
      exact ih _ _ _ h
  ·exact absurd rfl h
theorem readCL_len (b : List UInt8) (n : Int) : (readCL b n).1.length ≤ n.toNat := readF_len _ _ _ _ _ (by simp)
def rsF (n : Nat) : Nat → List UInt8 → List Ru → Nat → List Ru × Nat × Nat
 | 0, _, out, at_ => (out, at_, 0)
 | f + 1, b, out, at_ =>
  if (expL out).length < n then
   if (rrL b (n - (expL out).length)).2.2 ≠ 0 then ([], 0, (rrL b (n - (expL out).length)).2.2)
   else if out.getLast?.map (·.2) = some (rrL b (n - (expL out).length)).1.2 then ([], 0, 21)
   else rsF n f (b.drop (rrL b (n - (expL out).length)).2.1) (out ++ [(rrL b (n - (expL out).length)).1]) (at_ + (rrL b (n - (expL out).length)).2.1)
  else (out, at_, 0)
theorem rsF_end (n f : Nat) (b : List UInt8) (out : List Ru) (at_ : Nat) (h : ¬ (expL out).length < n) : rsF n f b out at_ = (out, at_, 0) := by
 cases f with
 | zero => rfl
 | succ f => unfold rsF; rw [if_neg h]
theorem rsF_fuel (n f g : Nat) (b : List UInt8) (out : List Ru) (at_ : Nat) (hf : n - (expL out).length ≤ f) (hg : n - (expL out).length ≤ g) : rsF n f b out at_ = rsF n g b out at_ := by
 induction f generalizing g b out at_ with
 | zero => rw [rsF_end _ _ _ _ _ (by omega), rsF_end _ _ _ _ _ (by omega)]
 | succ f ih =>
  by_cases h : (expL out).length < n
  ·cases g with
   | zero => omega
   | succ g =>
    unfold rsF
    rw [if_pos h, if_pos h]
    split
    ·rfl
    ·rename_i he
     split
     ·rfl
     ·rcases rr_cases n b (n - (expL out).length) with ⟨e, h1, h2, -⟩ | ⟨v1, c, k, h1, h2, h3, -⟩
      ·rw [h2] at he; exact absurd h1 he
      ·rw [h1]
       have hl : (expL (out ++ [(v1, c)])).length = (expL out).length + v1 := by rw [expL_app, expL_one]; simp
       exact ih g _ _ _ (by rw [hl]; omega) (by rw [hl]; omega)
  ·rw [rsF_end _ _ _ _ _ h, rsF_end _ _ _ _ _ h]
theorem rsF_err {n f : Nat} {b : List UInt8} {out : List Ru} {at_ : Nat} (hf : n - (expL out).length ≤ f) (h : (expL out).length < n) (he : (rrL b (n - (expL out).length)).2.2 ≠ 0) : rsF n f b out at_ = ([], 0, (rrL b (n - (expL out).length)).2.2) := by
 cases f with
 | zero => omega
 | succ f => unfold rsF; rw [if_pos h, if_pos he]
theorem rsF_two {n f : Nat} {b : List UInt8} {out : List Ru} {at_ : Nat} (hf : n - (expL out).length ≤ f) (h : (expL out).length < n) (he : (rrL b (n - (expL out).length)).2.2 = 0) (hl : out.getLast?.map (·.2) = some (rrL b (n - (expL out).length)).1.2) : rsF n f b out at_ = ([], 0, 21) := by
 cases f with
 | zero => omega
 | succ f => unfold rsF; rw [if_pos h, if_neg (by simp [he]), if_pos hl]
theorem rsF_go {n f : Nat} {b : List UInt8} {out : List Ru} {at_ : Nat} (hf : n - (expL out).length ≤ f) (h : (expL out).length < n) (he : (rrL b (n - (expL out).length)).2.2 = 0) (hl : ¬ out.getLast?.map (·.2) = some (rrL b (n - (expL out).length)).1.2) : rsF n f b out at_ = rsF n f (b.drop (rrL b (n - (expL out).length)).2.1) (out ++ [(rrL b (n - (expL out).length)).1]) (at_ + (rrL b (n - (expL out).length)).2.1) := by
 cases f with
 | zero => omega
 | succ f =>
  conv => lhs; unfold rsF
  rw [if_pos h, if_neg (by simp [he]), if_neg hl]
  rcases rr_cases n b (n - (expL out).length) with ⟨e, h1, h2, -⟩ | ⟨v1, c, k, h1, h2, h3, -⟩
  ·rw [h2] at he; exact absurd he h1
  ·rw [h1]
   have hx : (expL (out ++ [(v1, c)])).length = (expL out).length + v1 := by rw [expL_app, expL_one]; simp
   exact rsF_fuel n f (f + 1) _ _ _ (by rw [hx]; omega) (by rw [hx]; omega)
theorem rsF_cells (n : Nat) : ∀ (f : Nat) (b : List UInt8) (out : List Ru) (at_ : Nat), (∀ x ∈ out, 0 < x.1) → n - (expL out).length ≤ f → (expL out).length ≤ n →
  readF n f b (expL out) at_ = (expL (rsF n f b out at_).1, (rsF n f b out at_).2.1, (rsF n f b out at_).2.2) := by
 intro f
 induction f with
 | zero => intro b out at_ hp hf hl; rw [rsF_end _ _ _ _ _ (by omega), readF_end _ _ _ _ _ (by omega)]
 | succ f ih =>
  intro b out at_ hp hf hl
  by_cases h : (expL out).length < n
  ·rcases rr_cases n b (n - (expL out).length) with ⟨e, h1, h2, h3⟩ | ⟨v1, c, k, h1, h2, h3, h4, h5⟩
   ·rw [h3 (f + 1) (expL out) at_ h rfl hf, rsF_err hf h (by rw [h2]; exact h1), h2]; rfl
   ·obtain ⟨h6, h7⟩ := h5 (f + 1) (expL out) at_ h rfl hf
    rw [expL_last out hp] at h6 h7
    by_cases hq : out.getLast?.map (·.2) = some c
    ·rw [h6 hq, rsF_two hf h (by rw [h1]) (by rw [h1]; exact hq)]; rfl
    ·rw [h7 hq, rsF_go hf h (by rw [h1]) (by rw [h1]; exact hq), h1]
     have hx : expL (out ++ [(v1, c)]) = expL out ++ List.replicate v1 c := by rw [expL_app, expL_one]
     have hx2 : (expL (out ++ [(v1, c)])).length = (expL out).length + v1 := by rw [hx]; simp
     have hp' : ∀ x ∈ out ++ [(v1, c)], 0 < x.1 := fun x hx => by
      rcases List.mem_append.1 hx with hx | hx
      ·exact hp x hx
      ·rw [List.mem_singleton] at hx; subst hx; exact h2
     simp only
     rw [← hx, readF_fuel n (f + 1) f _ _ _ (by rw [hx2]; omega) (by rw [hx2]; omega), rsF_fuel n (f + 1) f _ _ _ (by rw [hx2]; omega) (by rw [hx2]; omega)]
     exact ih _ _ _ hp' (by rw [hx2]; omega) (by rw [hx2]; omega)
  ·rw [rsF_end _ _ _ _ _ h, readF_end _ _ _ _ _ h]
theorem rsF_pos (n : Nat) : ∀ (f : Nat) (b : List UInt8) (out : List Ru) (at_ : Nat), (∀ x ∈ out, 0 < x.1) → ∀ x ∈ (rsF n f b out at_).1, 0 < x.1 := by
 intro f
 induction f with
 | zero => intro b out at_ hp; exact hp
 | succ f ih =>
  intro b out at_ hp
  unfold rsF
  split
  ·split
   ·intro x hx; cases hx
   ·rename_i he
    split
    ·intro x hx; cases hx
    ·rcases rr_cases n b (n - (expL out).length) with ⟨e, h1, h2, h3⟩ | ⟨v1, c, k, h1, h2, h3, h4, h5⟩
     ·rw [h2] at he; exact absurd h1 he
     ·rw [h1]
      refine ih _ _ _ fun x hx => ?_
      rcases List.mem_append.1 hx with hx | hx
      ·exact hp x hx
      ·rw [List.mem_singleton] at hx; subst hx; exact h2
  ·exact hp
theorem readCL_rs (b : List UInt8) (n : Nat) : readCL b (n : Int) = (expL (rsF n n b [] 0).1, (rsF n n b [] 0).2.1, (rsF n n b [] 0).2.2) :=
 rsF_cells n n b [] 0 (fun x hx => by cases hx) (by simp) (by simp [expL])
def snumL : List Nat → List UInt8
 | [] => []
 | n :: r => lebP n ++ snumL r
theorem snumL_app (a b : List Nat) : snumL (a ++ b) = snumL a ++ snumL b := by
 induction a with
 | nil => rfl
 | cons n r ih => show lebP n ++ snumL (r ++ b) = _; rw [ih, ← List.append_assoc]; rfl
theorem snumL_len (l : List Nat) : (snumL l).length ≤ 10 * l.length := by
 induction l with
 | nil => simp [snumL]
 | cons n r ih => have := (lebP_length n).2; simp [snumL]; omega
def bN (b : Bool) (n : Nat) : Nat := if b = true then n else 0
def tabsB (l : List Bool) : List UInt8 := snumL (l.map fun b => bN b 1)
def bitsN (s : Sc) : Nat := bN s.wrap 1 + bN s.auto 2 + bN s.shown 4 + bN s.alt 8
def headN (s : Sc) : List Nat := [s.rows.toNat, s.cols.toNat, s.y.toNat, s.x.toNat, bitsN s, s.attr, s.top.toNat, s.bottom.toNat, s.sy.toNat, s.sx.toNat, s.sattr]
def otherB (s : Sc) : List UInt8 := if s.alt = true then snumL [s.oy.toNat, s.ox.toNat] ++ bytL s.other else []
def parserB (p : Pr) : List UInt8 := snumL [p.mode, p.priv, p.params.length] ++ (snumL (p.params.map Int.toNat) ++ (putB p.inter ++ putB p.utf))
def snapL (s : Sc) : List UInt8 := snumL (headN s) ++ (tabsB s.tabs ++ (bytL s.cells ++ (otherB s ++ parserB s.p)))
abbrev RdQ := List UInt8 × Bool
def numR (most : Nat) (q : RdQ) : Nat × RdQ := if (readL q.1).2.2 = 0 ∧ (readL q.1).1 ≤ most then ((readL q.1).1, q.1.drop (readL q.1).2.1, q.2) else (0, [], true)
def tabsR : Nat → RdQ → List Bool × RdQ
 | 0, q => ([], q)
 | n + 1, q => (decide ((numR 1 q).1 = 1) :: (tabsR n (numR 1 q).2).1, (tabsR n (numR 1 q).2).2)
def paramsR : Nat → RdQ → List Int × RdQ
 | 0, q => ([], q)
 | n + 1, q => (((numR 65535 q).1 : Int) :: (paramsR n (numR 65535 q).2).1, (paramsR n (numR 65535 q).2).2)
def cellsR (n : Nat) (q : RdQ) : List Cl × RdQ := if (readCL q.1 (n : Int)).2.2 = 0 then ((readCL q.1 (n : Int)).1, q.1.drop (readCL q.1 (n : Int)).2.1, q.2) else ([], [], true)
def bytesR (q : RdQ) : List UInt8 × RdQ := if (readB q.1 (q.1.length : Int)).2.2 = 0 then ((readB q.1 (q.1.length : Int)).1, q.1.drop (readB q.1 (q.1.length : Int)).2.1, q.2) else ([], [], true)
def parserR (q : RdQ) : Pr × RdQ :=
 let a := numR 7 q
 let b := numR 255 a.2
 let k := numR 16 b.2
 let ps := paramsR k.1 k.2
 let is := bytesR ps.2
 let us := bytesR is.2
 (⟨a.1, b.1, ps.1, is.1, us.1⟩, us.2)
def otherR (alt : Bool) (n : Nat) (q : RdQ) : (Nat × Nat × List Cl) × RdQ :=
 if alt = true then
  (let a := numR 1000 q
   let b := numR 1000 a.2
   let c := cellsR n b.2
   ((a.1, b.1, c.1), c.2))
 else ((0, 0, []), q)
structure Hd where
 rows : Nat
 cols : Nat
 y : Nat
 x : Nat
 bits : Nat
 attr : Nat
 top : Nat
 bottom : Nat
 sy : Nat
 sx : Nat
 sattr : Nat
def headR (q : RdQ) : Hd × RdQ :=
 let a1 := numR 1000 q
 let a2 := numR 1000 a1.2
 let a3 := numR 1000 a2.2
 let a4 := numR 1000 a3.2
 let a5 := numR 15 a4.2
 let a6 := numR 65535 a5.2
 let a7 := numR 1000 a6.2
 let a8 := numR 1000 a7.2
 let a9 := numR 1000 a8.2
 let a10 := numR 1000 a9.2
 let a11 := numR 65535 a10.2
 (⟨a1.1, a2.1, a3.1, a4.1, a5.1, a6.1, a7.1, a8.1, a9.1, a10.1, a11.1⟩, a11.2)
def mkS (h : Hd) (tabs : List Bool) (cells : List Cl) (o : Nat × Nat × List Cl) (p : Pr) : Sc :=
 ⟨h.rows, h.cols, cells, h.y, h.x, decide (h.bits % 2 = 1), h.attr, h.top, h.bottom, tabs, h.sy, h.sx, h.sattr, decide (h.bits / 2 % 2 = 1), decide (h.bits / 4 % 2 = 1), decide (h.bits / 8 % 2 = 1), o.2.2, o.1, o.2.1, p⟩
def screenR (q : RdQ) : Sc × RdQ :=
 let h := headR q
 let t := tabsR h.1.cols h.2
 let c := cellsR (h.1.rows * h.1.cols) t.2
 let o := otherR (decide (h.1.bits / 8 % 2 = 1)) (h.1.rows * h.1.cols) c.2
 let p := parserR o.2
 (mkS h.1 t.1 c.1 o.1 p.1, p.2)
-- There and back.
theorem numR_put (n most : Nat) (h : n ≤ most) (hn : n < 18446744073709551616) (t : List UInt8) (f : Bool) : numR most (lebP n ++ t, f) = (n, t, f) := by
 unfold numR
 simp only [readL_lebP n t hn]
 rw [if_pos ⟨trivial, h⟩, List.drop_left]
theorem bN_le (b : Bool) (n : Nat) : bN b n ≤ n := by unfold bN; split <;> omega
theorem tabsR_put (l : List Bool) (t : List UInt8) (f : Bool) : tabsR l.length (tabsB l ++ t, f) = (l, t, f) := by
 induction l with
 | nil => rfl
 | cons b r ih =>
  have e : tabsB (b :: r) ++ t = lebP (bN b 1) ++ (tabsB r ++ t) := by simp [tabsB, snumL]
  have h1 := numR_put (bN b 1) 1 (bN_le b 1) (by have := bN_le b 1; omega) (tabsB r ++ t) f
  show (decide ((numR 1 (tabsB (b :: r) ++ t, f)).1 = 1) :: (tabsR r.length (numR 1 (tabsB (b :: r) ++ t, f)).2).1, (tabsR r.length (numR 1 (tabsB (b :: r) ++ t, f)).2).2) = _
  rw [e, h1]
  simp only [ih]
  cases b <;> rfl
theorem paramsR_put (l : List Int) (hl : ∀ x ∈ l, 0 ≤ x ∧ x ≤ 65535) (t : List UInt8) (f : Bool) : paramsR l.length (snumL (l.map Int.toNat) ++ t, f) = (l, t, f) := by
 induction l with
 | nil => rfl
 | cons b r ih =>
  obtain ⟨h0, h1⟩ := hl b (by simp)
  have e : snumL ((b :: r).map Int.toNat) ++ t = lebP b.toNat ++ (snumL (r.map Int.toNat) ++ t) := by simp [snumL]
  have h2 := numR_put b.toNat 65535 (by omega) (by omega) (snumL (r.map Int.toNat) ++ t) f
  show (((numR 65535 (snumL ((b :: r).map Int.toNat) ++ t, f)).1 : Int) :: (paramsR r.length (numR 65535 (snumL ((b :: r).map Int.toNat) ++ t, f)).2).1, (paramsR r.length (numR 65535 (snumL ((b :: r).map Int.toNat) ++ t, f)).2).2) = _
  rw [e, h2]
  simp only [ih (fun x hx => hl x (by simp [hx]))]
  rw [Int.toNat_of_nonneg h0]
theorem cellsR_put (l : List Cl) (hl : ∀ x ∈ l, cellB x = true) (hn : l.length ≤ 1048576) (t : List UInt8) (f : Bool) : cellsR l.length (bytL l ++ t, f) = (l, t, f) := by
 unfold cellsR
 simp only [readCL_back l t hl hn]
 rw [if_pos trivial, List.drop_left]
theorem bytesR_put (l t : List UInt8) (hl : l.length < 18446744073709551616) (f : Bool) : bytesR (putB l ++ t, f) = (l, t, f) := by
 unfold bytesR
 have h := readB_putB l t ((putB l ++ t).length : Int) hl (by simp [putB]; omega)
 simp only [h]
 rw [if_pos trivial, List.drop_left]
theorem parserR_put (p : Pr) (hp : RightP (p.mode : Int) p.priv p.params p.inter p.utf) (t : List UInt8) (f : Bool) : parserR (parserB p ++ t, f) = (p, t, f) := by
 obtain ⟨⟨-, m7, k16, i2, hu⟩, hps, -, hpv, -, -⟩ := hp
 have hul : p.utf.length ≤ 3 := by
  rcases Nat.eq_zero_or_pos p.utf.length with h | h
  ·omega
  ·exact (beginsL_len _ (hu h).2).2
 have e1 : parserB p ++ t = lebP p.mode ++ (lebP p.priv ++ (lebP p.params.length ++ (snumL (p.params.map Int.toNat) ++ (putB p.inter ++ (putB p.utf ++ t))))) := by simp [parserB, snumL]
 unfold parserR
 simp only [e1]
 rw [numR_put p.mode 7 (by omega) (by omega)]
 simp only
 rw [numR_put p.priv 255 (by omega) (by omega)]
 simp only
 rw [numR_put p.params.length 16 (by omega) (by omega)]
 simp only
 rw [paramsR_put p.params hps]
 simp only
 rw [bytesR_put p.inter _ (by omega)]
 simp only
 rw [bytesR_put p.utf _ (by omega)]
theorem bits_lt (s : Sc) : bitsN s ≤ 15 := by
 have := bN_le s.wrap 1
 have := bN_le s.auto 2
 have := bN_le s.shown 4
 have := bN_le s.alt 8
 unfold bitsN
 omega
theorem bits_back (s : Sc) : decide (bitsN s % 2 = 1) = s.wrap ∧ decide (bitsN s / 2 % 2 = 1) = s.auto ∧ decide (bitsN s / 4 % 2 = 1) = s.shown ∧ decide (bitsN s / 8 % 2 = 1) = s.alt := by
 unfold bitsN bN
 cases s.wrap <;> cases s.auto <;> cases s.shown <;> cases s.alt <;> decide
theorem attrS_lt {a : Nat} (h : attrB a = true) : a < 4096 := by
 unfold attrB at h
 simp only [Bool.and_eq_true, decide_eq_true_eq] at h
 exact h.1.1.1
theorem headR_put (s : Sc) (hs : RightS (s.p.mode : Int) s) (t : List UInt8) (f : Bool) : headR (snumL (headN s) ++ t, f) = (⟨s.rows.toNat, s.cols.toNat, s.y.toNat, s.x.toNat, bitsN s, s.attr, s.top.toNat, s.bottom.toNat, s.sy.toNat, s.sx.toNat, s.sattr⟩, t, f) := by
 have r2 := hs.r2
 have c2 := hs.c2
 have y1 := hs.y1
 have x1 := hs.x1
 have b1 := hs.b1
 have tb := hs.tb
 have sy1 := hs.sy1
 have sx1 := hs.sx1
 have a1 := attrS_lt hs.attr
 have a2 := attrS_lt hs.sattr
 have bl := bits_lt s
 have e1 : snumL (headN s) ++ t = lebP s.rows.toNat ++ (lebP s.cols.toNat ++ (lebP s.y.toNat ++ (lebP s.x.toNat ++ (lebP (bitsN s) ++ (lebP s.attr ++ (lebP s.top.toNat ++ (lebP s.bottom.toNat ++ (lebP s.sy.toNat ++ (lebP s.sx.toNat ++ (lebP s.sattr ++ t)))))))))) := by simp [headN, snumL]
 unfold headR
 simp only [e1]
 rw [numR_put _ 1000 (by omega) (by omega)]
 simp only
 rw [numR_put _ 1000 (by omega) (by omega)]
 simp only
 rw [numR_put _ 1000 (by omega) (by omega)]
 simp only
 rw [numR_put _ 1000 (by omega) (by omega)]
 simp only
 rw [numR_put _ 15 (by omega) (by omega)]
 simp only
 rw [numR_put _ 65535 (by omega) (by omega)]
 simp only
 rw [numR_put _ 1000 (by omega) (by omega)]
 simp only
 rw [numR_put _ 1000 (by omega) (by omega)]
 simp only
 rw [numR_put _ 1000 (by omega) (by omega)]
 simp only
 rw [numR_put _ 1000 (by omega) (by omega)]
 simp only
 rw [numR_put _ 65535 (by omega) (by omega)]
theorem otherR_put (s : Sc) (hs : RightS (s.p.mode : Int) s) (t : List UInt8) (f : Bool) : otherR s.alt (s.rows.toNat * s.cols.toNat) (otherB s ++ t, f) = ((s.oy.toNat, s.ox.toNat, s.other), t, f) := by
 have r2 := hs.r2
 have c2 := hs.c2
 have oy1 := hs.oy1
 have ox1 := hs.ox1
 unfold otherR otherB
 cases h : s.alt with
 | false =>
  obtain ⟨e1, e2, e3⟩ := hs.noAlt h
  have e4 : s.other = [] := List.eq_nil_of_length_eq_zero e1
  simp [e2, e3, e4]
 | true =>
  obtain ⟨n1, n2, -⟩ := hs.other h
  have e1 : snumL [s.oy.toNat, s.ox.toNat] ++ bytL s.other ++ t = lebP s.oy.toNat ++ (lebP s.ox.toNat ++ (bytL s.other ++ t)) := by simp [snumL]
  have hle : s.rows.toNat * s.cols.toNat ≤ 1000 * 1000 := Nat.mul_le_mul (by omega) (by omega)
  simp only [if_true, e1]
  rw [numR_put _ 1000 (by omega) (by omega)]
  simp only
  rw [numR_put _ 1000 (by omega) (by omega)]
  simp only
  rw [← n1, cellsR_put s.other n2 (by omega)]
theorem screenR_put (s : Sc) (hs : RightS (s.p.mode : Int) s) (t : List UInt8) (f : Bool) : screenR (snapL s ++ t, f) = (s, t, f) := by
 have r1 := hs.r1
 have r2 := hs.r2
 have c1 := hs.c1
 have c2 := hs.c2
 have tl := hs.tabs
 obtain ⟨n1, n2, -⟩ := hs.cells
 have hle : s.rows.toNat * s.cols.toNat ≤ 1000 * 1000 := Nat.mul_le_mul (by omega) (by omega)
 obtain ⟨w1, w2, w3, w4⟩ := bits_back s
 have e1 : snapL s ++ t = snumL (headN s) ++ (tabsB s.tabs ++ (bytL s.cells ++ (otherB s ++ (parserB s.p ++ t)))) := by simp [snapL]
 unfold screenR
 simp only [e1]
 rw [headR_put s hs]
 simp only
 rw [show s.cols.toNat = s.tabs.length by omega, tabsR_put]
 simp only
 rw [show s.tabs.length = s.cols.toNat by omega, ← n1, cellsR_put s.cells n2 (by omega)]
 simp only
 rw [w4, n1, otherR_put s hs]
 simp only
 rw [parserR_put s.p hs.p]
 simp only
 have ey := hs.y0
 have ex := hs.x0
 have e3 := hs.t0
 have e4 : 0 ≤ s.bottom := by have := hs.tb; omega
 have e5 := hs.sy0
 have e6 := hs.sx0
 have e7 := hs.oy0
 have e8 := hs.ox0
 unfold mkS
 simp only [w1, w2, w3, w4]
 rw [Int.toNat_of_nonneg (show 0 ≤ s.rows by omega), Int.toNat_of_nonneg (show 0 ≤ s.cols by omega), Int.toNat_of_nonneg ey, Int.toNat_of_nonneg ex, Int.toNat_of_nonneg e3, Int.toNat_of_nonneg e4, Int.toNat_of_nonneg e5, Int.toNat_of_nonneg e6, Int.toNat_of_nonneg e7, Int.toNat_of_nonneg e8]
-- What is read is just what was put.
theorem readG_canon (l : List UInt8) : ∀ (acc i v k : Nat), i ≤ 9 → readG acc i l = (v, k, 0) → ∃ n, v = acc + n * 2 ^ (7 * i) ∧ i ≤ k ∧ l.take (k - i) = lebF (9 - i) n ∧ k - i ≤ l.length ∧ (i = 0 ∨ 0 < n) := by
 induction l with
 | nil => intro acc i v k _ h; simp [readG] at h
 | cons c r ih =>
  intro acc i v k hi h
  have hc : c.toNat < 256 := c.toNat_lt
  have hcc : UInt8.ofNat c.toNat = c := by simp
  unfold readG at h
  split at h
  ·simp at h
  ·rename_i h9
   split at h
   ·rename_i hbig
    obtain ⟨n, e1, e2, e3, e4, e5⟩ := ih _ _ _ _ (show i + 1 ≤ 9 by omega) h
    have hn : 0 < n := by omega
    refine ⟨c.toNat % 128 + 128 * n, ?_, by omega, ?_, by simp; omega, .inr (by omega)⟩
    ·rw [e1, show 7 * (i + 1) = 7 * i + 7 by omega, Nat.pow_add, Nat.add_mul, Nat.add_assoc]
     congr 1
     rw [show (2 : Nat) ^ 7 = 128 from rfl, Nat.mul_comm (2 ^ (7 * i)) 128, ← Nat.mul_assoc, Nat.mul_comm n 128]
    ·obtain ⟨j, hj⟩ : ∃ j, k - i = j + 1 := ⟨k - i - 1, by omega⟩
     rw [hj, List.take_succ_cons, show 9 - i = (9 - (i + 1)) + 1 by omega, lebF_big _ _ (by omega)]
     rw [show (c.toNat % 128 + 128 * n) % 128 + 128 = c.toNat by omega, show (c.toNat % 128 + 128 * n) / 128 = n by omega, hcc, ← e3]
     congr 2
     omega
   ·rename_i hsm
    split at h
    ·simp at h
    ·rename_i hz
     simp only [Prod.mk.injEq, and_true] at h
     obtain ⟨rfl, rfl⟩ := h
     refine ⟨c.toNat % 128, rfl, by omega, ?_, by simp, ?_⟩
     ·rw [show i + 1 - i = 1 by omega, lebF_small _ _ (by omega), show c.toNat % 128 = c.toNat by omega, hcc]
      simp
     ·omega
theorem readL_canon {l : List UInt8} {v k : Nat} (h : readL l = (v, k, 0)) : l = lebP v ++ l.drop k ∧ k = (lebP v).length := by
 obtain ⟨n, e1, e2, e3, e4, -⟩ := readG_canon l 0 0 v k (by omega) h
 have hv : v = n := by simpa using e1
 subst hv
 have e5 : l.take k = lebP v := by simpa [lebP] using e3
 refine ⟨by rw [← e5, List.take_append_drop], ?_⟩
 rw [← e5, List.length_take]
 omega
theorem readL_split (l : List UInt8) : ∃ v k e, readL l = (v, k, e) := ⟨_, _, _, rfl⟩
theorem numR_canon {most n : Nat} {l r : List UInt8} {f : Bool} (h : numR most (l, f) = (n, r, false)) : l = lebP n ++ r ∧ f = false ∧ n ≤ most := by
 unfold numR at h
 split at h
 ·rename_i hc
  obtain ⟨v, k, e, hv⟩ := readL_split l
  simp only [hv] at h hc
  obtain ⟨rfl, hm⟩ := hc
  simp only [Prod.mk.injEq] at h
  obtain ⟨rfl, rfl, rfl⟩ := h
  exact ⟨(readL_canon hv).1, rfl, hm⟩
 ·simp at h
theorem numR_le (most : Nat) (q : RdQ) : (numR most q).1 ≤ most := by
 unfold numR
 split
 ·rename_i h; exact h.2
 ·simp
theorem numR_rest (most : Nat) (q : RdQ) : (numR most q).2.1.length ≤ q.1.length := by
 unfold numR
 split
 ·simp
 ·simp
theorem tabsR_canon (n : Nat) : ∀ {l r : List UInt8} {f : Bool} {b : List Bool}, tabsR n (l, f) = (b, r, false) → l = tabsB b ++ r ∧ f = false ∧ b.length = n := by
 induction n with
 | zero =>
  intro l r f b h
  simp only [tabsR, Prod.mk.injEq] at h
  obtain ⟨rfl, rfl, rfl⟩ := h
  exact ⟨rfl, rfl, rfl⟩
 | succ n ih =>
  intro l r f b h
  simp only [tabsR, Prod.mk.injEq] at h
  obtain ⟨rfl, h2⟩ := h
  have e0 : tabsR n (numR 1 (l, f)).2 = ((tabsR n (numR 1 (l, f)).2).1, r, false) := by rw [← h2]
  obtain ⟨e1, e2, e3⟩ := ih (l := (numR 1 (l, f)).2.1) (f := (numR 1 (l, f)).2.2) e0
  have h3 : numR 1 (l, f) = ((numR 1 (l, f)).1, (numR 1 (l, f)).2.1, false) := by rw [← e2]
  obtain ⟨g1, g2, g3⟩ := numR_canon h3
  refine ⟨?_, g2, by simp [e3]⟩
  conv => lhs; rw [g1, e1]
  have : bN (decide ((numR 1 (l, f)).1 = 1)) 1 = (numR 1 (l, f)).1 := by
   unfold bN
   rcases Nat.lt_or_ge (numR 1 (l, f)).1 1 with c | c
   ·rw [show (numR 1 (l, f)).1 = 0 by omega]; rfl
   ·rw [show (numR 1 (l, f)).1 = 1 by omega]; rfl
  show _ = (lebP (bN (decide ((numR 1 (l, f)).1 = 1)) 1) ++ tabsB _) ++ r
  rw [this, List.append_assoc]
theorem paramsR_canon (n : Nat) : ∀ {l r : List UInt8} {f : Bool} {b : List Int}, paramsR n (l, f) = (b, r, false) → l = snumL (b.map Int.toNat) ++ r ∧ f = false ∧ b.length = n := by
 induction n with
 | zero =>
  intro l r f b h
  simp only [paramsR, Prod.mk.injEq] at h
  obtain ⟨rfl, rfl, rfl⟩ := h
  exact ⟨rfl, rfl, rfl⟩
 | succ n ih =>
  intro l r f b h
  simp only [paramsR, Prod.mk.injEq] at h
  obtain ⟨rfl, h2⟩ := h
  have e0 : paramsR n (numR 65535 (l, f)).2 = ((paramsR n (numR 65535 (l, f)).2).1, r, false) := by rw [← h2]
  obtain ⟨e1, e2, e3⟩ := ih (l := (numR 65535 (l, f)).2.1) (f := (numR 65535 (l, f)).2.2) e0
  have h3 : numR 65535 (l, f) = ((numR 65535 (l, f)).1, (numR 65535 (l, f)).2.1, false) := by rw [← e2]
  obtain ⟨g1, g2, g3⟩ := numR_canon h3
  refine ⟨?_, g2, by simp [e3]⟩
  conv => lhs; rw [g1, e1]
  show _ = (lebP ((numR 65535 (l, f)).1 : Int).toNat ++ snumL _) ++ r
  rw [Int.toNat_natCast, List.append_assoc]
theorem bytesR_canon {l r b : List UInt8} {f : Bool} (h : bytesR (l, f) = (b, r, false)) : l = putB b ++ r ∧ f = false := by
 unfold bytesR at h
 split at h
 ·rename_i hc
  simp only [Prod.mk.injEq] at h
  obtain ⟨v, k, e, hv⟩ := readL_split l
  have hb : readB l (l.length : Int) = (b, (readB l (l.length : Int)).2.1, 0) := by rw [← h.1, ← hc]
  unfold readB at hb hc h
  simp only [hv] at hb hc h
  split at hc
  ·rename_i c; exact absurd hc c
  ·rename_i c0
   have he : e = 0 := by omega
   subst he
   split at hc
   ·simp at hc
   ·split at hc
    ·simp at hc
    ·rename_i c2 c3
     rw [if_neg c0, if_neg c2, if_neg c3] at h
     obtain ⟨g1, g2, rfl⟩ := h
     obtain ⟨q1, q2⟩ := readL_canon hv
     refine ⟨?_, rfl⟩
     have hl : b.length = v := by rw [← g1]; simp; omega
     unfold putB
     rw [hl, List.append_assoc, ← g1, ← g2, ← List.drop_drop, List.take_append_drop]
     exact q1
 ·simp at h
theorem run3_canon {b : List UInt8} {n v2 v3 k : Nat} (h : run3 b = ((n, v2, v3), k, 0)) : b = lebP n ++ (lebP v2 ++ (lebP v3 ++ b.drop k)) := by
 obtain ⟨x1, k1, e1, h1⟩ := readL_split b
 obtain ⟨x2, k2, e2, h2⟩ := readL_split (b.drop k1)
 obtain ⟨x3, k3, e3, h3⟩ := readL_split (b.drop (k1 + k2))
 by_cases c1 : e1 = 0
 ·subst c1
  by_cases c2 : e2 = 0
  ·subst c2
   by_cases c3 : e3 = 0
   ·subst c3
    rw [run3_ok h1 h2 h3] at h
    simp only [Prod.mk.injEq, and_true] at h
    obtain ⟨⟨rfl, rfl, rfl⟩, rfl⟩ := h
    have q1 := (readL_canon h1).1
    have q2 := (readL_canon h2).1
    have q3 := (readL_canon h3).1
    rw [List.drop_drop] at q2 q3
    rw [← q3, ← q2]
    exact q1
   ·rw [run3_e3 h1 h2 h3 c3] at h; simp only [Prod.mk.injEq] at h; omega
  ·rw [run3_e2 h1 h2 c2] at h; simp only [Prod.mk.injEq] at h; omega
 ·rw [run3_e1 h1 c1] at h; simp only [Prod.mk.injEq] at h; omega
theorem cellOf_num {v2 v3 : Nat} (h2 : v2 ≤ 1114111) (h3 : v3 < 16384) : (cellOf v2 v3).r.toNat = v2 ∧ 4 * (cellOf v2 v3).a + (cellOf v2 v3).h = v3 := by
 unfold cellOf
 simp only [Int.toNat_natCast, true_and]
 omega
theorem sameN_rep (n : Nat) (c : Cl) (r : List Cl) (h : r.head? ≠ some c) : sameN c (List.replicate n c ++ r) = n := by
 induction n with
 | zero =>
  cases r with
  | nil => rfl
  | cons x r =>
   have : x ≠ c := fun e => h (by simp [e])
   simp [sameN, this]
 | succ n ih => simp [List.replicate_succ, sameN, ih]
theorem bytL_run (n : Nat) (c : Cl) (r : List Cl) (hn : 0 < n) (h : r.head? ≠ some c) : bytL (List.replicate n c ++ r) = runB n c ++ bytL r := by
 obtain ⟨m, rfl⟩ : ∃ m, n = m + 1 := ⟨n - 1, by omega⟩
 rw [List.replicate_succ, List.cons_append, bytL_cons, sameN_rep m c r h]
 congr 2
 rw [List.drop_left' (by simp)]
theorem rep_last (out : List Cl) (n : Nat) (c : Cl) (hn : 0 < n) : (out ++ List.replicate n c).getLast? = some c := by
 obtain ⟨m, rfl⟩ : ∃ m, n = m + 1 := ⟨n - 1, by omega⟩
 rw [List.replicate_succ', ← List.append_assoc]
 simp
theorem readF_canon (n : Nat) : ∀ (f : Nat) (b : List UInt8) (out res : List Cl) (at_ at2 : Nat), n - out.length ≤ f → out.length ≤ n → readF n f b out at_ = (res, at2, 0) →
  ∃ c, res = out ++ c ∧ res.length = n ∧ at_ ≤ at2 ∧ b = bytL c ++ b.drop (at2 - at_) ∧ (c = [] ∨ out.getLast? = none ∨ out.getLast? ≠ c.head?) ∧ ∀ x ∈ c, cellB x = true := by
 intro f
 induction f with
 | zero =>
  intro b out res at_ at2 hf hl h
  simp only [readF, Prod.mk.injEq, and_true] at h
  obtain ⟨rfl, rfl⟩ := h
  exact ⟨[], by simp, by omega, by omega, by simp [bytL, bytF], .inl rfl, by simp⟩
 | succ f ih =>
  intro b out res at_ at2 hf hl h
  by_cases hlt : out.length < n
  ·obtain ⟨⟨⟨v1, v2, v3⟩, k, e⟩, hr⟩ : ∃ x, run3 b = x := ⟨_, rfl⟩
   by_cases he : e = 0
   ·subst he
    by_cases hb : v1 = 0 ∨ n - out.length < v1 ∨ 1114111 < v2 ∨ 16384 ≤ v3
    ·rw [readF_bad hf hlt hr (.inl hb)] at h; simp at h
    ·by_cases hc : cellB (cellOf v2 v3) = false ∨ out.getLast? = some (cellOf v2 v3)
     ·rw [readF_bad hf hlt hr (.inr hc)] at h; simp at h
     ·rw [readF] at h
      rw [if_pos hlt, hr] at h
      rw [if_neg (by simp), if_neg hb, if_neg hc] at h
      simp only at h
      obtain ⟨c, e1, e2, e3, e4, e5, e6⟩ := ih _ _ _ _ _ (by simp; omega) (by simp; omega) h
      have hlast := rep_last out v1 (cellOf v2 v3) (by omega)
      have hne : c.head? ≠ some (cellOf v2 v3) := by
       intro hh
       rcases e5 with e5 | e5 | e5
       ·rw [e5] at hh; cases hh
       ·rw [hlast] at e5; cases e5
       ·exact e5 (hlast.trans hh.symm)
      obtain ⟨g1, g2⟩ := cellOf_num (v2 := v2) (v3 := v3) (by omega) (by omega)
      refine ⟨List.replicate v1 (cellOf v2 v3) ++ c, by rw [e1, List.append_assoc], e2, by omega, ?_, ?_, ?_⟩
      ·rw [bytL_run v1 _ c (by omega) hne]
       have q := run3_canon hr
       unfold runB
       rw [g1, g2, List.append_assoc, List.append_assoc, List.append_assoc]
       rw [List.drop_drop] at e4
       rw [show k + (at2 - (at_ + k)) = at2 - at_ by omega] at e4
       rw [← e4]
       exact q
      ·obtain ⟨m, rfl⟩ : ∃ m, v1 = m + 1 := ⟨v1 - 1, by omega⟩
       rw [List.replicate_succ, List.cons_append, List.head?_cons]
       exact .inr (.inr (fun hh => hc (.inr hh)))
      ·intro x hx
       rcases List.mem_append.1 hx with hx | hx
       ·rw [List.eq_of_mem_replicate hx]
        cases hh : cellB (cellOf v2 v3) with
        | false => exact absurd (.inl hh) hc
        | true => rfl
       ·exact e6 x hx
   ·rw [readF_err hf hlt hr he] at h; simp only [Prod.mk.injEq] at h; omega
  ·rw [readF_end _ _ _ _ _ hlt] at h
   simp only [Prod.mk.injEq, and_true] at h
   obtain ⟨rfl, rfl⟩ := h
   exact ⟨[], by simp, by omega, by omega, by simp [bytL, bytF], .inl rfl, by simp⟩
theorem cellsR_canon {n : Nat} {l r : List UInt8} {f : Bool} {c : List Cl} (h : cellsR n (l, f) = (c, r, false)) : l = bytL c ++ r ∧ f = false ∧ c.length = n ∧ ∀ x ∈ c, cellB x = true := by
 unfold cellsR at h
 split at h
 ·rename_i hc
  obtain ⟨⟨c0, k, e⟩, hv⟩ : ∃ x, readCL l (n : Int) = x := ⟨_, rfl⟩
  simp only [hv] at h hc
  subst hc
  simp only [Prod.mk.injEq] at h
  obtain ⟨rfl, rfl, rfl⟩ := h
  unfold readCL at hv
  rw [Int.toNat_natCast] at hv
  obtain ⟨c, e1, e2, e3, e4, -, e6⟩ := readF_canon n n l [] c0 0 k (by simp) (by simp) hv
  rw [List.nil_append] at e1
  subst e1
  exact ⟨e4, rfl, e2, e6⟩
 ·simp at h
theorem parserR_canon {l r : List UInt8} {f : Bool} {p : Pr} (h : parserR (l, f) = (p, r, false)) : l = parserB p ++ r ∧ f = false ∧ p.priv ≤ 255 ∧ p.mode ≤ 7 ∧ p.params.length ≤ 16 := by
 unfold parserR at h
 obtain ⟨a, ha⟩ : ∃ x, numR 7 (l, f) = x := ⟨_, rfl⟩
 simp only [ha] at h
 obtain ⟨b, hb⟩ : ∃ x, numR 255 a.2 = x := ⟨_, rfl⟩
 simp only [hb] at h
 obtain ⟨k, hk⟩ : ∃ x, numR 16 b.2 = x := ⟨_, rfl⟩
 simp only [hk] at h
 obtain ⟨ps, hps⟩ : ∃ x, paramsR k.1 k.2 = x := ⟨_, rfl⟩
 simp only [hps] at h
 obtain ⟨is, his⟩ : ∃ x, bytesR ps.2 = x := ⟨_, rfl⟩
 simp only [his] at h
 obtain ⟨us, hus⟩ : ∃ x, bytesR is.2 = x := ⟨_, rfl⟩
 simp only [hus, Prod.mk.injEq] at h
 obtain ⟨rfl, h2⟩ := h
 obtain ⟨a1, a2, a3⟩ := a
 obtain ⟨b1, b2, b3⟩ := b
 obtain ⟨k1, k2, k3⟩ := k
 obtain ⟨p1, p2, p3⟩ := ps
 obtain ⟨i1, i2, i3⟩ := is
 obtain ⟨u1, u2, u3⟩ := us
 simp only at h2
 obtain ⟨rfl, rfl⟩ := Prod.mk.inj h2
 obtain ⟨e6, rfl⟩ := bytesR_canon hus
 obtain ⟨e5, rfl⟩ := bytesR_canon his
 obtain ⟨e4, rfl, e4n⟩ := paramsR_canon _ hps
 obtain ⟨e3, rfl, e3n⟩ := numR_canon hk
 obtain ⟨e2, rfl, e2n⟩ := numR_canon hb
 obtain ⟨e1, rfl, e1n⟩ := numR_canon ha
 refine ⟨?_, rfl, e2n, e1n, by simp only; omega⟩
 rw [e1, e2, e3, e4, e5, e6]
 simp only at e4n
 simp [parserB, snumL, e4n]
theorem headR_canon {l r : List UInt8} {f : Bool} {h : Hd} (hh : headR (l, f) = (h, r, false)) : l = snumL [h.rows, h.cols, h.y, h.x, h.bits, h.attr, h.top, h.bottom, h.sy, h.sx, h.sattr] ++ r ∧ f = false ∧ h.rows ≤ 1000 ∧ h.cols ≤ 1000 ∧ h.bits ≤ 15 := by
 unfold headR at hh
 obtain ⟨a1, h1⟩ : ∃ x, numR 1000 (l, f) = x := ⟨_, rfl⟩
 simp only [h1] at hh
 obtain ⟨a2, h2⟩ : ∃ x, numR 1000 a1.2 = x := ⟨_, rfl⟩
 simp only [h2] at hh
 obtain ⟨a3, h3⟩ : ∃ x, numR 1000 a2.2 = x := ⟨_, rfl⟩
 simp only [h3] at hh
 obtain ⟨a4, h4⟩ : ∃ x, numR 1000 a3.2 = x := ⟨_, rfl⟩
 simp only [h4] at hh
 obtain ⟨a5, h5⟩ : ∃ x, numR 15 a4.2 = x := ⟨_, rfl⟩
 simp only [h5] at hh
 obtain ⟨a6, h6⟩ : ∃ x, numR 65535 a5.2 = x := ⟨_, rfl⟩
 simp only [h6] at hh
 obtain ⟨a7, h7⟩ : ∃ x, numR 1000 a6.2 = x := ⟨_, rfl⟩
 simp only [h7] at hh
 obtain ⟨a8, h8⟩ : ∃ x, numR 1000 a7.2 = x := ⟨_, rfl⟩
 simp only [h8] at hh
 obtain ⟨a9, h9⟩ : ∃ x, numR 1000 a8.2 = x := ⟨_, rfl⟩
 simp only [h9] at hh
 obtain ⟨a10, h10⟩ : ∃ x, numR 1000 a9.2 = x := ⟨_, rfl⟩
 simp only [h10] at hh
 obtain ⟨a11, h11⟩ : ∃ x, numR 65535 a10.2 = x := ⟨_, rfl⟩
 simp only [h11] at hh
 obtain ⟨rfl, hh2⟩ := Prod.mk.inj hh
 clear hh
 obtain ⟨x1, y1, z1⟩ := a1
 obtain ⟨x2, y2, z2⟩ := a2
 obtain ⟨x3, y3, z3⟩ := a3
 obtain ⟨x4, y4, z4⟩ := a4
 obtain ⟨x5, y5, z5⟩ := a5
 obtain ⟨x6, y6, z6⟩ := a6
 obtain ⟨x7, y7, z7⟩ := a7
 obtain ⟨x8, y8, z8⟩ := a8
 obtain ⟨x9, y9, z9⟩ := a9
 obtain ⟨x10, y10, z10⟩ := a10
 obtain ⟨x11, y11, z11⟩ := a11
 simp only at hh2
 obtain ⟨rfl, rfl⟩ := Prod.mk.inj hh2
 obtain ⟨e11, rfl, -⟩ := numR_canon h11
 obtain ⟨e10, rfl, -⟩ := numR_canon h10
 obtain ⟨e9, rfl, -⟩ := numR_canon h9
 obtain ⟨e8, rfl, -⟩ := numR_canon h8
 obtain ⟨e7, rfl, -⟩ := numR_canon h7
 obtain ⟨e6, rfl, -⟩ := numR_canon h6
 obtain ⟨e5, rfl, n5⟩ := numR_canon h5
 obtain ⟨e4, rfl, -⟩ := numR_canon h4
 obtain ⟨e3, rfl, -⟩ := numR_canon h3
 obtain ⟨e2, rfl, n2⟩ := numR_canon h2
 obtain ⟨e1, rfl, n1⟩ := numR_canon h1
 refine ⟨?_, rfl, n1, n2, n5⟩
 rw [e1, e2, e3, e4, e5, e6, e7, e8, e9, e10, e11]
 simp [snumL]
theorem otherR_canon {alt : Bool} {n : Nat} {l r : List UInt8} {f : Bool} {o : Nat × Nat × List Cl} (h : otherR alt n (l, f) = (o, r, false)) : l = (if alt = true then snumL [o.1, o.2.1] ++ bytL o.2.2 else []) ++ r ∧ f = false := by
 unfold otherR at h
 cases alt with
 | false =>
  simp only [Bool.false_eq_true, if_false, Prod.mk.injEq] at h
  obtain ⟨rfl, rfl, rfl⟩ := h
  simp
 | true =>
  simp only [if_true] at h
  obtain ⟨a1, h1⟩ : ∃ x, numR 1000 (l, f) = x := ⟨_, rfl⟩
  simp only [h1] at h
  obtain ⟨a2, h2⟩ : ∃ x, numR 1000 a1.2 = x := ⟨_, rfl⟩
  simp only [h2] at h
  obtain ⟨a3, h3⟩ : ∃ x, cellsR n a2.2 = x := ⟨_, rfl⟩
  simp only [h3] at h
  obtain ⟨rfl, hh2⟩ := Prod.mk.inj h
  clear h
  obtain ⟨x1, y1, z1⟩ := a1
  obtain ⟨x2, y2, z2⟩ := a2
  obtain ⟨x3, y3, z3⟩ := a3
  simp only at hh2
  obtain ⟨rfl, rfl⟩ := Prod.mk.inj hh2
  obtain ⟨e3, rfl, -⟩ := cellsR_canon h3
  obtain ⟨e2, rfl, -⟩ := numR_canon h2
  obtain ⟨e1, rfl, -⟩ := numR_canon h1
  refine ⟨?_, rfl⟩
  rw [e1, e2, e3]
  simp [snumL]
theorem bits_mk {b : Nat} (h : b ≤ 15) {s : Sc} (e1 : s.wrap = decide (b % 2 = 1)) (e2 : s.auto = decide (b / 2 % 2 = 1)) (e3 : s.shown = decide (b / 4 % 2 = 1)) (e4 : s.alt = decide (b / 8 % 2 = 1)) : bitsN s = b := by
 unfold bitsN bN
 rw [e1, e2, e3, e4]
 simp only [decide_eq_true_eq]
 split <;> split <;> split <;> split <;> omega
theorem screenR_canon {l r : List UInt8} {f : Bool} {s : Sc} (h : screenR (l, f) = (s, r, false)) : l = snapL s ++ r ∧ f = false ∧ s.p.priv ≤ 255 ∧ s.p.mode ≤ 7 := by
 unfold screenR at h
 obtain ⟨⟨hd, qh⟩, h1⟩ : ∃ x, headR (l, f) = x := ⟨_, rfl⟩
 simp only [h1] at h
 obtain ⟨⟨tb, qt⟩, h2⟩ : ∃ x, tabsR hd.cols qh = x := ⟨_, rfl⟩
 simp only [h2] at h
 obtain ⟨⟨cs, qc⟩, h3⟩ : ∃ x, cellsR (hd.rows * hd.cols) qt = x := ⟨_, rfl⟩
 simp only [h3] at h
 obtain ⟨⟨o, qo⟩, h4⟩ : ∃ x, otherR (decide (hd.bits / 8 % 2 = 1)) (hd.rows * hd.cols) qc = x := ⟨_, rfl⟩
 simp only [h4] at h
 obtain ⟨⟨p, qp⟩, h5⟩ : ∃ x, parserR qo = x := ⟨_, rfl⟩
 simp only [h5] at h
 obtain ⟨rfl, rfl⟩ := Prod.mk.inj h
 obtain ⟨lo, fo⟩ := qo
 obtain ⟨lc, fc⟩ := qc
 obtain ⟨lt, ft⟩ := qt
 obtain ⟨lh, fh⟩ := qh
 obtain ⟨e5, rfl, n5, m5, -⟩ := parserR_canon h5
 obtain ⟨e4, rfl⟩ := otherR_canon h4
 obtain ⟨e3, rfl, -⟩ := cellsR_canon h3
 obtain ⟨e2, rfl, -⟩ := tabsR_canon _ h2
 obtain ⟨e1, rfl, n1, n2, n3⟩ := headR_canon h1
 refine ⟨?_, rfl, n5, m5⟩
 have hb : bitsN (mkS hd tb cs o p) = hd.bits := bits_mk n3 rfl rfl rfl rfl
 rw [e1, e2, e3, e4, e5]
 unfold snapL headN otherB
 rw [hb]
 simp [mkS]
def IsSnap (b : List UInt8) (s : Sc) : Prop := RightS (s.p.mode : Int) s ∧ snapL s = b
theorem snap_inj {s t : Sc} (hs : RightS (s.p.mode : Int) s) (ht : RightS (t.p.mode : Int) t) (h : snapL s = snapL t) : s = t := by
 have e1 := screenR_put s hs [] false
 have e2 := screenR_put t ht [] false
 rw [h, e2] at e1
 exact (Prod.mk.inj e1).1.symm
theorem snap_pre {s t : Sc} {m : List UInt8} (hs : RightS (s.p.mode : Int) s) (ht : RightS (t.p.mode : Int) t) (h : snapL s ++ m = snapL t) : m = [] := by
 have e1 := screenR_put s hs m false
 have e2 := screenR_put t ht [] false
 rw [List.append_nil] at e2
 rw [h, e2] at e1
 exact (Prod.mk.inj (Prod.mk.inj e1).2).1.symm
theorem isSnap_iff (b : List UInt8) : ((screenR (b, false)).2.2 = false ∧ (screenR (b, false)).2.1 = [] ∧ RightS ((screenR (b, false)).1.p.mode : Int) (screenR (b, false)).1) ↔ ∃ s, IsSnap b s := by
 constructor
 ·rintro ⟨h1, h2, h3⟩
  refine ⟨(screenR (b, false)).1, h3, ?_⟩
  have := (screenR_canon (l := b) (r := []) (f := false) (s := (screenR (b, false)).1) (Prod.ext rfl (Prod.ext h2 h1))).1
  rw [List.append_nil] at this
  exact this.symm
 ·rintro ⟨s, hs, rfl⟩
  have e1 := screenR_put s hs [] false
  rw [List.append_nil] at e1
  rw [e1]
  exact ⟨rfl, rfl, hs⟩
theorem isSnap_read {b : List UInt8} {s : Sc} (h : IsSnap b s) : (screenR (b, false)).1 = s := by
 obtain ⟨hs, rfl⟩ := h
 have e1 := screenR_put s hs [] false
 rw [List.append_nil] at e1
 rw [e1]
theorem drop_den {l : List UInt8} {env : List DV} {A X : E} {k : Nat} (hA : A.den env = bytesD l) (hX : (X.den env).int = k) : (E.O .tk (.O .dr A X) (.O .sub (.U .len A) X)).den env = bytesD (l.drop k) := by
 show DV.L (((A.den env).rows.drop (X.den env).int.toNat).take ((((A.den env).rows.length : Nat) : Int) - (X.den env).int).toNat) = _
 rw [hA, hX]
 simp only [bytesD, DV.rows, Int.toNat_natCast, List.length_map, ← List.map_drop]
 rw [List.take_of_length_le (by simp)]
theorem cut_den {l : List UInt8} {env : List DV} {A X Y : E} {k n : Nat} (hA : A.den env = bytesD l) (hX : (X.den env).int = k) (hY : (Y.den env).int = ((k + n : Nat) : Int)) : (E.O .tk (.O .dr A X) (.O .sub Y X)).den env = bytesD ((l.drop k).take n) := by
 show DV.L (((A.den env).rows.drop (X.den env).int.toNat).take ((Y.den env).int - (X.den env).int).toNat) = _
 rw [hA, hX, hY, show (((k + n : Nat) : Int) - (k : Int)).toNat = n by omega]
 simp only [bytesD, DV.rows, Int.toNat_natCast, ← List.map_drop, ← List.map_take]
theorem wrapU {n : Nat} (h : n < 18446744073709551616) {x : DV} (hx : x.int = n) : U.den (.wrap .u64) x = .I (n : Int) := by
 have : U.den (.wrap .u64) x = .I (IntKind.u64.wrap x.int) := rfl
 rw [this, hx, IntKind.wrap_u64]
 exact congrArg DV.I (by omega)
theorem wrapI {n : Nat} (h : n < 9223372036854775808) {x : DV} (hx : x.int = n) : U.den (.wrap .i64) x = .I (n : Int) := by
 have : U.den (.wrap .i64) x = .I (IntKind.i64.wrap x.int) := rfl
 rw [this, hx, wrap_id ⟨by show (-9223372036854775808 : Int) ≤ _; omega, by show (_ : Int) ≤ 9223372036854775807; omega⟩]
def rBD (r : List UInt8 × Nat × Nat) : List DV := [bytesD r.1, .I (r.2.1 : Int), .I (r.2.2 : Int)]
theorem dReadB_sp (l : List UInt8) (most : Nat) (hm : most ≤ 1048576) (hl : l.length ≤ 1048576) : Spn n_r1_ReadBytes sg_r1_ReadBytes [bytesD l, .I most] (rBD (readB l most)) := by
 have hb := readL_bd l
 refine rd_r1_ReadBytes rfl (dcall (dRead_sp l (by omega)) rfl rfl rfl (deq (fun h => ?_) fun h => ?_))
 ·replace h : ((readL l).2.2 : Int) = 0 := h
  have he : (readL l).2.2 = 0 := by omega
  have hw : (U.den (.wrap .u64) (O.den .max (.I (most : Int)) (.I 0))) = .I (most : Int) := wrapU (by omega) (show (if (0 : Int) > most then 0 else (most : Int)) = most by rw [if_neg (by omega)])
  have hlen := bytes_len l
  refine dlt (fun h1 => ?_) fun h1 => ?_
  ·have h1 : (U.den (.wrap .u64) (O.den .max (.I (most : Int)) (.I 0))).int < ((readL l).1 : Int) := h1
   rw [hw] at h1
   replace h1 : (most : Int) < ((readL l).1 : Int) := h1
   exact dret (by rw [readB_long l most he (by simp; omega)]; rfl)
  ·have h1 : ¬ (U.den (.wrap .u64) (O.den .max (.I (most : Int)) (.I 0))).int < ((readL l).1 : Int) := h1
   rw [hw] at h1
   replace h1 : ¬ (most : Int) < ((readL l).1 : Int) := h1
   have hw2 : (U.den (.wrap .u64) (.I (((bytesD l).rows.length : Int) - ((readL l).2.1 : Int)))) = .I ((l.length - (readL l).2.1 : Nat) : Int) := wrapU (by omega) (show ((bytesD l).rows.length : Int) - ((readL l).2.1 : Int) = _ by rw [hlen]; omega)
   refine dfit (show (-9223372036854775808 : Int) ≤ ((bytesD l).rows.length : Int) - ((readL l).2.1 : Int) by rw [hlen]; omega) (show ((bytesD l).rows.length : Int) - ((readL l).2.1 : Int) ≤ 9223372036854775807 by rw [hlen]; omega) (dlt (fun h2 => ?_) fun h2 => ?_)
   ·have h2 : (U.den (.wrap .u64) (.I (((bytesD l).rows.length : Int) - ((readL l).2.1 : Int)))).int < ((readL l).1 : Int) := h2
    rw [hw2] at h2
    replace h2 : ((l.length - (readL l).2.1 : Nat) : Int) < ((readL l).1 : Int) := h2
    exact dret (by rw [readB_short l most he (by simp; omega) (by omega)]; rfl)
   ·have h2 : ¬ (U.den (.wrap .u64) (.I (((bytesD l).rows.length : Int) - ((readL l).2.1 : Int)))).int < ((readL l).1 : Int) := h2
    rw [hw2] at h2
    replace h2 : ¬ ((l.length - (readL l).2.1 : Nat) : Int) < ((readL l).1 : Int) := h2
    have hw3 : (U.den (.wrap .i64) (.I ((readL l).1 : Int))) = .I ((readL l).1 : Int) := wrapI (by omega) rfl
    have hs : ((readL l).2.1 : Int) + (U.den (.wrap .i64) (.I ((readL l).1 : Int))).int = (((readL l).2.1 + (readL l).1 : Nat) : Int) := by rw [hw3]; show ((readL l).2.1 : Int) + ((readL l).1 : Int) = _; omega
    refine dfit (show (-9223372036854775808 : Int) ≤ ((readL l).2.1 : Int) + (U.den (.wrap .i64) (.I ((readL l).1 : Int))).int by rw [hs]; omega) (show ((readL l).2.1 : Int) + (U.den (.wrap .i64) (.I ((readL l).1 : Int))).int ≤ 9223372036854775807 by rw [hs]; omega) ?_
    refine dslice (show (0 : Int) ≤ ((readL l).2.1 : Int) by omega) (show ((readL l).2.1 : Int) ≤ ((readL l).2.1 : Int) + (U.den (.wrap .i64) (.I ((readL l).1 : Int))).int by rw [hs]; omega) (show ((readL l).2.1 : Int) + (U.den (.wrap .i64) (.I ((readL l).1 : Int))).int ≤ ((bytesD l).rows.length : Int) by rw [hs, hlen]; omega) (dret ?_)
    rw [readB_ok l most he (by simp; omega) (by omega)]
    have hc := cut_den (l := l) (env := [bytesD l, .I (most : Int)] ++ r3D (readL l)) (A := .V 0) (X := .V 3) (Y := .O .add (.V 3) (.U (.wrap .i64) (.V 2))) (k := (readL l).2.1) (n := (readL l).1) rfl rfl hs
    exact (congrArg (fun d => [d, DV.I (((readL l).2.1 : Int) + (U.den (.wrap .i64) (.I ((readL l).1 : Int))).int), DV.I 0]) hc).trans (congrArg (fun d => [bytesD ((l.drop (readL l).2.1).take (readL l).1), DV.I d, DV.I 0]) hs)
 ·replace h : ¬ ((readL l).2.2 : Int) = 0 := h
  exact dret (by rw [readB_err l most (by omega)]; rfl)
theorem pReadB_sp (l : List UInt8) (most : Nat) (hm : most ≤ 1048576) (hl : l.length ≤ 1048576) : Spn n_leb_ReadBytes sg_leb_ReadBytes [bytesD l, .I most] (rBD (readB l most)) := by
 have hb := readL_bd l
 refine rd_leb_ReadBytes rfl (dcall (pRead_sp l (by omega)) rfl rfl rfl (deq (fun h => ?_) fun h => ?_))
 ·replace h : ((readL l).2.2 : Int) = 0 := h
  have he : (readL l).2.2 = 0 := by omega
  have hw : (U.den (.wrap .u64) (O.den .max (.I (most : Int)) (.I 0))) = .I (most : Int) := wrapU (by omega) (show (if (0 : Int) > most then 0 else (most : Int)) = most by rw [if_neg (by omega)])
  have hlen := bytes_len l
  refine dlt (fun h1 => ?_) fun h1 => ?_
  ·have h1 : (U.den (.wrap .u64) (O.den .max (.I (most : Int)) (.I 0))).int < ((readL l).1 : Int) := h1
   rw [hw] at h1
   replace h1 : (most : Int) < ((readL l).1 : Int) := h1
   exact dret (by rw [readB_long l most he (by simp; omega)]; rfl)
  ·have h1 : ¬ (U.den (.wrap .u64) (O.den .max (.I (most : Int)) (.I 0))).int < ((readL l).1 : Int) := h1
   rw [hw] at h1
   replace h1 : ¬ (most : Int) < ((readL l).1 : Int) := h1
   have hw2 : (U.den (.wrap .u64) (.I (((bytesD l).rows.length : Int) - ((readL l).2.1 : Int)))) = .I ((l.length - (readL l).2.1 : Nat) : Int) := wrapU (by omega) (show ((bytesD l).rows.length : Int) - ((readL l).2.1 : Int) = _ by rw [hlen]; omega)
   refine dfit (show (-9223372036854775808 : Int) ≤ ((bytesD l).rows.length : Int) - ((readL l).2.1 : Int) by rw [hlen]; omega) (show ((bytesD l).rows.length : Int) - ((readL l).2.1 : Int) ≤ 9223372036854775807 by rw [hlen]; omega) (dlt (fun h2 => ?_) fun h2 => ?_)
   ·have h2 : (U.den (.wrap .u64) (.I (((bytesD l).rows.length : Int) - ((readL l).2.1 : Int)))).int < ((readL l).1 : Int) := h2
    rw [hw2] at h2
    replace h2 : ((l.length - (readL l).2.1 : Nat) : Int) < ((readL l).1 : Int) := h2
    exact dret (by rw [readB_short l most he (by simp; omega) (by omega)]; rfl)
   ·have h2 : ¬ (U.den (.wrap .u64) (.I (((bytesD l).rows.length : Int) - ((readL l).2.1 : Int)))).int < ((readL l).1 : Int) := h2
    rw [hw2] at h2
    replace h2 : ¬ ((l.length - (readL l).2.1 : Nat) : Int) < ((readL l).1 : Int) := h2
    have hw3 : (U.den (.wrap .i64) (.I ((readL l).1 : Int))) = .I ((readL l).1 : Int) := wrapI (by omega) rfl
    have hs : ((readL l).2.1 : Int) + (U.den (.wrap .i64) (.I ((readL l).1 : Int))).int = (((readL l).2.1 + (readL l).1 : Nat) : Int) := by rw [hw3]; show ((readL l).2.1 : Int) + ((readL l).1 : Int) = _; omega
    have hc := cut_den (l := l) (env := [bytesD l, .I (most : Int)] ++ r3D (readL l)) (A := .V 0) (X := .V 3) (Y := .O .add (.V 3) (.U (.wrap .i64) (.V 2))) (k := (readL l).2.1) (n := (readL l).1) rfl rfl hs
    refine dfit (show (-9223372036854775808 : Int) ≤ ((readL l).2.1 : Int) + (U.den (.wrap .i64) (.I ((readL l).1 : Int))).int by rw [hs]; omega) (show ((readL l).2.1 : Int) + (U.den (.wrap .i64) (.I ((readL l).1 : Int))).int ≤ 9223372036854775807 by rw [hs]; omega) ?_
    refine dslice (show (0 : Int) ≤ ((readL l).2.1 : Int) by omega) (show ((readL l).2.1 : Int) ≤ ((readL l).2.1 : Int) + (U.den (.wrap .i64) (.I ((readL l).1 : Int))).int by rw [hs]; omega) (show ((readL l).2.1 : Int) + (U.den (.wrap .i64) (.I ((readL l).1 : Int))).int ≤ ((bytesD l).rows.length : Int) by rw [hs, hlen]; omega) (nle (le40 (n := ((l.drop (readL l).2.1).take (readL l).1).length) ?_ (by simp; omega)) (dret ?_))
    ·have := congrArg (fun d : DV => (0 : Int) + (d.rows.length : Int)) hc
     refine Eq.trans this ?_
     rw [bytes_len]; omega
    rw [readB_ok l most he (by simp; omega) (by omega)]
    have hc2 : O.den .app (.L []) ((E.O .tk (.O .dr (.V 0) (.V 3)) (.O .sub (.O .add (.V 3) (.U (.wrap .i64) (.V 2))) (.V 3))).den ([bytesD l, .I (most : Int)] ++ r3D (readL l))) = bytesD ((l.drop (readL l).2.1).take (readL l).1) := by
     rw [hc]; rfl
    exact (congrArg (fun d => [d, DV.I (((readL l).2.1 : Int) + (U.den (.wrap .i64) (.I ((readL l).1 : Int))).int), DV.I 0]) hc2).trans (congrArg (fun d => [bytesD ((l.drop (readL l).2.1).take (readL l).1), DV.I d, DV.I 0]) hs)
 ·replace h : ¬ ((readL l).2.2 : Int) = 0 := h
  exact dret (by rw [readB_err l most (by omega)]; rfl)
theorem wrap32 {n : Nat} (h : n ≤ 1114111) {x : DV} (hx : x.int = n) : U.den (.wrap .i32) x = .I (n : Int) := by
 have : U.den (.wrap .i32) x = .I (IntKind.i32.wrap x.int) := rfl
 rw [this, hx, wrap_id ⟨by show (-2147483648 : Int) ≤ _; omega, by show (_ : Int) ≤ 2147483647; omega⟩]
theorem quo4 {y : Nat} (hy : y < 18446744073709551616) : U.den (.wrap .u64) (O.den .quo (.I (y : Int)) (.I 4)) = .I ((y / 4 : Nat) : Int) := by
 refine wrapU (by omega) ?_
 show Int.tdiv (y : Int) 4 = _
 rw [Int.tdiv_eq_ediv_of_nonneg (by omega)]; omega
theorem attr16 {y : Nat} (hy : y < 16384) : U.den (.wrap .u16) (U.den (.wrap .u64) (O.den .quo (.I (y : Int)) (.I 4))) = .I ((y / 4 : Nat) : Int) := by
 rw [quo4 (by omega)]
 have : U.den (.wrap .u16) (.I ((y / 4 : Nat) : Int)) = .I (IntKind.u16.wrap ((y / 4 : Nat) : Int)) := rfl
 rw [this, IntKind.wrap_u16]
 exact congrArg DV.I (by omega)
theorem half8 (y : Nat) : U.den (.wrap .u8) (O.den .rem (.I (y : Int)) (.I 4)) = .I ((y % 4 : Nat) : Int) := by
 have : U.den (.wrap .u8) (O.den .rem (.I (y : Int)) (.I 4)) = .I (IntKind.u8.wrap (Int.tmod (y : Int) 4)) := rfl
 rw [this, Int.tmod_eq_emod_of_nonneg (by omega), IntKind.wrap_u8]
 exact congrArg DV.I (by omega)
theorem cell3 {x y : Nat} (hx : x ≤ 1114111) (hy : y < 16384) : [U.den (.wrap .i32) (.I (x : Int)), U.den (.wrap .u16) (U.den (.wrap .u64) (O.den .quo (.I (y : Int)) (.I 4))), U.den (.wrap .u8) (O.den .rem (.I (y : Int)) (.I 4))] = clD (cellOf x y) := by
 rw [wrap32 hx rfl, attr16 hy, half8]; rfl
theorem cellOf_sp (x y : Nat) (hx : x < 18446744073709551616) (hy : y < 18446744073709551616) : Spn n_runs_cellOf sg_runs_cellOf [.I x, .I y] (clD (cofL x y).1 ++ [.B (cofL x y).2]) := by
 refine rd_runs_cellOf rfl (dlt (fun h1 => dret ?_) fun h1 => dle (fun h2 => dret ?_) fun h2 => ?_)
 ·replace h1 : (1114111 : Int) < x := h1
  unfold cofL; rw [if_pos (by omega)]; rfl
 ·have h2 : (4096 : Int) ≤ (U.den (.wrap .u64) (O.den .quo (.I (y : Int)) (.I 4))).int := h2
  rw [quo4 hy] at h2
  replace h2 : (4096 : Int) ≤ ((y / 4 : Nat) : Int) := h2
  unfold cofL; rw [if_pos (by omega)]; rfl
 ·replace h1 : ¬ (1114111 : Int) < x := h1
  have h2 : ¬ (4096 : Int) ≤ (U.den (.wrap .u64) (O.den .quo (.I (y : Int)) (.I 4))).int := h2
  rw [quo4 hy] at h2
  replace h2 : ¬ (4096 : Int) ≤ ((y / 4 : Nat) : Int) := h2
  have hc := cell3 (x := x) (y := y) (by omega) (by omega)
  refine dcall (runsRight_sp (cellOf x y)) rfl hc rfl (dret ?_)
  unfold cofL
  rw [if_neg (by omega)]
  exact congrArg (fun l : List DV => l ++ [DV.B (cellB (cellOf x y))]) hc
def rrD (r : (Nat × Cl) × Nat × Nat) : List DV := [.I (r.1.1 : Int), .I r.1.2.r, .I (r.1.2.a : Int), .I (r.1.2.h : Int), .I (r.2.1 : Int), .I (r.2.2 : Int)]
theorem readRun_sp (b : List UInt8) (left : Nat) (hl : b.length ≤ 1048576) : Spn n_runs_readRun sg_runs_readRun [bytesD b, .I left] (rrD (rrL b left)) := by
 have hlen := bytes_len b
 obtain ⟨a1, k1, e1, r1⟩ := readL_split b
 obtain ⟨b1, b2, b3⟩ := readL_bd b
 rw [r1] at b1 b2 b3
 simp only at b1 b2 b3
 have d1 : ∀ (X : DV), X.rows = (bytesD b).rows → DV.L ((X.rows.drop (0 : Int).toNat).take (((X.rows.length : Nat) : Int) - 0).toNat) = bytesD b := fun X hX => by
  rw [hX]; simp [bytesD, DV.rows]
  exact List.take_of_length_le (by simp)
 have err : ∀ (e : Nat) (h : rrL b left = ((0, ⟨0, 0, 0⟩), 0, e)) {x : E} {env : List DV} {cx} (hx : x.den env = .I (e : Int)), (Tree.ret [.I 0, .I 0, .I 0, .I 0, .I 0, x]).den SpF1 (fun es => es = rrD (rrL b left)) env cx := fun e h {x env cx} hx => dret (by
   rw [h]; exact congrArg (fun d => [DV.I 0, DV.I 0, DV.I 0, DV.I 0, DV.I 0, d]) hx)
 refine rd_runs_readRun rfl (nle (show (0 : Int) ≤ ((bytesD b).rows.length : Int) by omega) (dcall (pRead_sp b (by omega)) rfl ?_ rfl ?_))
 ·exact congrArg (fun d => [d]) (d1 (bytesD b) rfl)
 rw [r1]
 refine deq (fun h1 => ?_) fun h1 => err e1 (rrL_err (run3_e1 r1 (fun h => h1 (by subst h; rfl))) (fun h => h1 (by subst h; rfl))) rfl
 replace h1 : (e1 : Int) = 0 := h1
 obtain rfl : e1 = 0 := by omega
 obtain ⟨a2, k2, e2, r2⟩ := readL_split (b.drop k1)
 obtain ⟨c1, c2, c3⟩ := readL_bd (b.drop k1)
 rw [r2, List.length_drop] at c2
 rw [r2] at c1 c3
 simp only at c1 c2 c3
 refine dfit (show (-9223372036854775808 : Int) ≤ 0 + (k1 : Int) by omega) (show 0 + (k1 : Int) ≤ 9223372036854775807 by omega) (dneed rfl ?_)
 refine dneed (Bool.and_eq_true_iff.2 ⟨decide_eq_true (show (0 : Int) ≤ 0 + (k1 : Int) by omega), decide_eq_true (show 0 + (k1 : Int) ≤ ((bytesD b).rows.length : Int) by rw [hlen]; omega)⟩) (dcall (pRead_sp (b.drop k1) (by simp; omega)) rfl ?_ rfl ?_)
 ·exact congrArg (fun d => [d]) (drop_den (l := b) (env := [bytesD b, .I (left : Int)] ++ r3D (a1, k1, 0)) (A := .V 0) (X := .O .add (.I 0) (.V 3)) (k := k1) rfl (show 0 + (k1 : Int) = k1 by omega))
 rw [r2]
 refine deq (fun h2 => ?_) fun h2 => err e2 (rrL_err (run3_e2 r1 r2 (fun h => h2 (by subst h; rfl))) (fun h => h2 (by subst h; rfl))) rfl
 replace h2 : (e2 : Int) = 0 := h2
 obtain rfl : e2 = 0 := by omega
 obtain ⟨a3, k3, e3, r3⟩ := readL_split (b.drop (k1 + k2))
 obtain ⟨f1, f2, f3⟩ := readL_bd (b.drop (k1 + k2))
 rw [r3, List.length_drop] at f2
 rw [r3] at f1 f3
 simp only at f1 f2 f3
 refine dfit (show (-9223372036854775808 : Int) ≤ 0 + (k1 : Int) + k2 by omega) (show 0 + (k1 : Int) + k2 ≤ 9223372036854775807 by omega) (dneed rfl ?_)
 refine dneed (Bool.and_eq_true_iff.2 ⟨decide_eq_true (show (0 : Int) ≤ 0 + (k1 : Int) + k2 by omega), decide_eq_true (show 0 + (k1 : Int) + k2 ≤ ((bytesD b).rows.length : Int) by rw [hlen]; omega)⟩) (dcall (pRead_sp (b.drop (k1 + k2)) (by simp; omega)) rfl ?_ rfl ?_)
 ·exact congrArg (fun d => [d]) (drop_den (l := b) (env := [bytesD b, .I (left : Int)] ++ r3D (a1, k1, 0) ++ r3D (a2, k2, 0)) (A := .V 0) (X := .O .add (.O .add (.I 0) (.V 3)) (.V 6)) (k := k1 + k2) rfl (show 0 + (k1 : Int) + k2 = ((k1 + k2 : Nat) : Int) by omega))
 rw [r3]
 refine deq (fun h3 => ?_) fun h3 => err e3 (rrL_err (run3_e3 r1 r2 r3 (fun h => h3 (by subst h; rfl))) (fun h => h3 (by subst h; rfl))) rfl
 replace h3 : (e3 : Int) = 0 := h3
 obtain rfl : e3 = 0 := by omega
 have hr := run3_ok r1 r2 r3
 refine dfit (show (-9223372036854775808 : Int) ≤ 0 + (k1 : Int) + k2 + k3 by omega) (show 0 + (k1 : Int) + k2 + k3 ≤ 9223372036854775807 by omega) (dneed rfl (dcall (cellOf_sp a2 a3 c1 f1) rfl rfl rfl ?_))
 refine deq (fun g1 => err 21 (rrL_bad hr ?_) rfl) fun g1 => dlt (fun g2 => err 21 (rrL_bad hr ?_) rfl) fun g2 => dbr (fun g3 => dret ?_) fun g3 => err 21 (rrL_bad hr ?_) rfl
 ·replace g1 : (a1 : Int) = 0 := g1
  omega
 ·replace g2 : (left : Int) < a1 := g2
  omega
 ·replace g1 : ¬ (a1 : Int) = 0 := g1
  replace g2 : ¬ (left : Int) < a1 := g2
  replace g3 : (cofL a2 a3).2 = true := g3
  rw [rrL_ok hr (by rw [g3]; simp; omega)]
  exact congrArg (fun n => [DV.I (a1 : Int), .I (cofL a2 a3).1.r, .I ((cofL a2 a3).1.a : Int), .I ((cofL a2 a3).1.h : Int), .I n, .I 0]) (show 0 + (k1 : Int) + k2 + k3 = ((k1 + k2 + k3 : Nat) : Int) by omega)
 ·exact .inr (.inr g3)
def ruD (x : Ru) : List DV := [.I (x.1 : Int), .I x.2.r, .I (x.2.a : Int), .I (x.2.h : Int)]
def runsD (l : List Ru) : DV := .L (l.map ruD)
theorem runs_len (l : List Ru) : ((runsD l).rows.length : Int) = l.length := by simp [runsD, DV.rows]
theorem runs_at {l : List Ru} {k : Nat} (h : k < l.length) : (runsD l).rows.getD k [] = ruD l[k] := by
 simp [runsD, DV.rows, List.getElem?_eq_getElem h]
theorem cl_ext {x y : Cl} : x = y ↔ x.r = y.r ∧ (x.a : Int) = y.a ∧ (x.h : Int) = y.h := by
 obtain ⟨a, b, c⟩ := x
 obtain ⟨d, e, f⟩ := y
 simp only [Cl.mk.injEq]
 constructor
 ·rintro ⟨rfl, rfl, rfl⟩; exact ⟨rfl, rfl, rfl⟩
 ·rintro ⟨h1, h2, h3⟩; exact ⟨h1, by omega, by omega⟩
theorem cond3 {env : List DV} {a1 a2 a3 b1 b2 b3 : E} {x y : Cl} (h1 : (a1.den env).int = x.r) (h2 : (a2.den env).int = x.a) (h3 : (a3.den env).int = x.h) (g1 : (b1.den env).int = y.r) (g2 : (b2.den env).int = y.a) (g3 : (b3.den env).int = y.h) :
  ((E.O .and (.O .eq a1 b1) (.O .and (.O .eq a2 b2) (.O .and (.O .eq a3 b3) (.B true)))).den env).bool = decide (x = y) := by
 show (decide ((a1.den env).int = (b1.den env).int) && (decide ((a2.den env).int = (b2.den env).int) && (decide ((a3.den env).int = (b3.den env).int) && true))) = _
 rw [h1, h2, h3, g1, g2, g3, Bool.eq_iff_iff]
 simp only [Bool.and_eq_true, decide_eq_true_eq, and_true]
 exact cl_ext.symm
theorem last_at {α : Type} {l : List α} (h : 0 < l.length) : l.getLast? = some (l[l.length - 1]'(by omega)) := by
 rw [List.getLast?_eq_getElem?, List.getElem?_eq_getElem (by omega)]
def rsD (r : List Ru × Nat × Nat) : List DV := [runsD r.1, .I (r.2.1 : Int), .I (r.2.2 : Int)]
theorem readRuns_sp (b : List UInt8) (n : Nat) (hn : n ≤ 1048576) (hl : b.length ≤ 1048576) : Spn n_runs_readRuns sg_runs_readRuns [bytesD b, .I n] (rsD (rsF n n b [] 0)) := by
 have hlen := bytes_len b
 refine rd_runs_readRuns rfl (dloop (fun s : List Ru × Nat => [runsD s.1, .I (s.2 : Int), .I ((n - (expL s.1).length : Nat) : Int)]) (fun s => (expL s.1).length ≤ n ∧ s.2 ≤ b.length ∧ (∀ x ∈ s.1, 0 < x.1) ∧ rsF n n (b.drop s.2) s.1 s.2 = rsF n n b [] 0) (fun s => n - (expL s.1).length) ([], 0) (by simp [expL, E.den, runsD]) ⟨by simp [expL], Nat.zero_le _, fun x hx => (by cases hx), rfl⟩ fun s hs _ => ?_)
 obtain ⟨out, at_⟩ := s
 obtain ⟨h1, h2, h3, h4⟩ := hs
 simp only at h1 h2 h3 h4
 have hol := expL_len out h3
 refine dlt (fun g => ?_) fun g => ?_
 ·replace g : (0 : Int) < ((n - (expL out).length : Nat) : Int) := g
  have hlt : (expL out).length < n := by omega
  refine dneed (Bool.and_eq_true_iff.2 ⟨decide_eq_true (show (0 : Int) ≤ at_ by omega), decide_eq_true (show (at_ : Int) ≤ ((bytesD b).rows.length : Int) by rw [hlen]; omega)⟩) (dcall (readRun_sp (b.drop at_) (n - (expL out).length) (by simp; omega)) rfl ?_ rfl ?_)
  ·exact congrArg (fun d => [d, DV.I ((n - (expL out).length : Nat) : Int)]) (drop_den (l := b) (env := [bytesD b, .I (n : Int)] ++ [runsD out, .I (at_ : Int), .I ((n - (expL out).length : Nat) : Int)]) (A := .V 0) (X := .V 3) (k := at_) rfl rfl)
  have e1 := rsF_err (n := n) (f := n) (b := b.drop at_) (out := out) (at_ := at_) (by omega) hlt
  have e2 := rsF_two (n := n) (f := n) (b := b.drop at_) (out := out) (at_ := at_) (by omega) hlt
  have e3 := rsF_go (n := n) (f := n) (b := b.drop at_) (out := out) (at_ := at_) (by omega) hlt
  rw [h4] at e1 e2 e3
  have hrr := rr_cases n (b.drop at_) (n - (expL out).length)
  generalize rrL (b.drop at_) (n - (expL out).length) = R at *
  obtain ⟨⟨v1, c⟩, k, e⟩ := R
  simp only at hrr e1 e2 e3
  refine deq (fun q => ?_) fun q => dret (by rw [e1 (fun h => q (by subst h; rfl))]; rfl)
  replace q : (e : Int) = 0 := q
  obtain rfl : e = 0 := by clear hrr; omega
  have hv : 0 < v1 ∧ v1 ≤ n - (expL out).length ∧ k ≤ (b.drop at_).length := by
   rcases hrr with ⟨e, he, hx, -⟩ | ⟨v1', c', k', hx, p1, p2, p3, -⟩
   ·simp only [Prod.mk.injEq] at hx; exact absurd hx.2.2.symm he
   ·simp only [Prod.mk.injEq] at hx
    obtain ⟨⟨rfl, rfl⟩, rfl, -⟩ := hx
    exact ⟨p1, p2, p3⟩
  clear hrr
  rw [List.length_drop] at hv
  have hx : (expL (out ++ [(v1, c)])).length = (expL out).length + v1 := by rw [expL_app, expL_one]; simp
  have more : ∀ (hq : ¬ out.getLast?.map (·.2) = some c), (Tree.need (.O .le (.O .add (.U .len (.V 2)) (.U .len (.O .app .N (.U .one (.O .cns (.O .cns (.O .cns (.O .cns .R (.V 5)) (.V 6)) (.V 7)) (.V 8)))))) (.I 1099511627776)) (.need (.U (.fit .i64) (.O .add (.V 3) (.V 9))) (.again 0 [.O .app (.V 2) (.O .app .N (.U .one (.O .cns (.O .cns (.O .cns (.O .cns .R (.V 5)) (.V 6)) (.V 7)) (.V 8)))), .O .add (.V 3) (.V 9), .U (.wrap .u64) (.O .sub (.V 4) (.V 5))]))).den SpF1 (fun es => es = rsD (rsF n n b [] 0)) ([bytesD b, .I (n : Int)] ++ [runsD out, .I (at_ : Int), .I ((n - (expL out).length : Nat) : Int)] ++ rrD ((v1, c), k, 0)) ([] ++ [fun v => ∃ a' : List Ru × Nat, v = [runsD a'.1, .I (a'.2 : Int), .I ((n - (expL a'.1).length : Nat) : Int)] ∧ ((expL a'.1).length ≤ n ∧ a'.2 ≤ b.length ∧ (∀ x ∈ a'.1, 0 < x.1) ∧ rsF n n (b.drop a'.2) a'.1 a'.2 = rsF n n b [] 0) ∧ n - (expL a'.1).length < n - (expL out).length]) := fun hq => by
   refine nle (le40 (n := out.length + 1) ?_ (by omega)) (dfit (show (-9223372036854775808 : Int) ≤ (at_ : Int) + k by omega) (show (at_ : Int) + k ≤ 9223372036854775807 by omega) (dagain rfl ⟨(out ++ [(v1, c)], at_ + k), ?_, ⟨by simp only [hx]; omega, by simp only; omega, ?_, ?_⟩, by simp only [hx]; omega⟩))
   ·show ((runsD out).rows.length : Int) + 1 = _
    rw [runs_len]; omega
   ·have a1 : O.den .app (runsD out) (.L [[.I (v1 : Int), .I c.r, .I (c.a : Int), .I (c.h : Int)]]) = runsD (out ++ [(v1, c)]) := by
     simp [O.den, runsD, DV.rows, ruD]
    have a2 : U.den (.wrap .u64) (.I (((n - (expL out).length : Nat) : Int) - (v1 : Int))) = .I ((n - (expL (out ++ [(v1, c)])).length : Nat) : Int) := wrapU (by omega) (show ((n - (expL out).length : Nat) : Int) - (v1 : Int) = _ by rw [hx]; omega)
    exact (congrArg (fun d => [d, DV.I ((at_ : Int) + (k : Int)), U.den (.wrap .u64) (.I (((n - (expL out).length : Nat) : Int) - (v1 : Int)))]) a1).trans (congrArg (fun d => [runsD (out ++ [(v1, c)]), DV.I ((at_ : Int) + (k : Int)), d]) a2)
   ·intro x hx
    rcases List.mem_append.1 hx with hx | hx
    ·exact h3 x hx
    ·rw [List.mem_singleton] at hx; subst hx; exact hv.1
   ·simp only
    rw [e3 rfl hq, List.drop_drop]
  refine dlt (fun g2 => ?_) fun g2 => more ?_
  ·have g2 : (0 : Int) < ((runsD out).rows.length : Int) := g2
   rw [runs_len] at g2
   have hla := last_at (l := out) (by omega)
   have ro := runs_at (l := out) (k := out.length - 1) (by omega)
   have i1 : (((runsD out).rows.length : Int) - 1).toNat = out.length - 1 := by rw [runs_len]; omega
   have at3 : ∀ (j : Nat), (((runsD out).rows.getD (((runsD out).rows.length : Int) - 1).toNat []).getD j (.I 0)) = (ruD (out[out.length - 1]'(by omega))).getD j (.I 0) := fun j => by rw [i1, ro]
   refine dfit (show (-9223372036854775808 : Int) ≤ ((runsD out).rows.length : Int) - 1 by rw [runs_len]; omega) (show ((runsD out).rows.length : Int) - 1 ≤ 9223372036854775807 by rw [runs_len]; omega) (dwithin (show (0 : Int) ≤ ((runsD out).rows.length : Int) - 1 by rw [runs_len]; omega) (show ((runsD out).rows.length : Int) - 1 < ((runsD out).rows.length : Int) by omega) ?_)
   have hE := cond3 (env := [bytesD b, .I (n : Int)] ++ [runsD out, .I (at_ : Int), .I ((n - (expL out).length : Nat) : Int)] ++ rrD ((v1, c), k, 0)) (a1 := .O (.at 1) (.V 2) (.O .sub (.U .len (.V 2)) (.I 1))) (a2 := .O (.at 2) (.V 2) (.O .sub (.U .len (.V 2)) (.I 1))) (a3 := .O (.at 3) (.V 2) (.O .sub (.U .len (.V 2)) (.I 1))) (b1 := .V 6) (b2 := .V 7) (b3 := .V 8) (x := (out[out.length - 1]'(by omega)).2) (y := c) (congrArg DV.int (at3 1)) (congrArg DV.int (at3 2)) (congrArg DV.int (at3 3)) rfl rfl rfl
   refine dbr (fun q2 => ?_) fun q2 => more ?_
   ·have q2 : decide (_ = _) = true := hE.symm.trans q2
    have q2 := of_decide_eq_true q2
    exact dret (by rw [e2 rfl (by rw [hla]; exact congrArg some q2)]; rfl)
   ·have q2 : decide (_ = _) = false := hE.symm.trans q2
    have q2 := of_decide_eq_false q2
    rw [hla]
    exact fun h => q2 (Option.some.inj h)
  ·have g2 : ¬ (0 : Int) < ((runsD out).rows.length : Int) := g2
   rw [runs_len] at g2
   have : out = [] := List.eq_nil_of_length_eq_zero (by omega)
   rw [this]; simp
 ·replace g : ¬ (0 : Int) < ((n - (expL out).length : Nat) : Int) := g
  exact dret (by rw [← h4, rsF_end _ _ _ _ _ (by omega)]; rfl)
theorem spread_sp (rs : List Ru) (n : Nat) (hn : n ≤ 1048576) (hl : (expL rs).length ≤ 1048576) (hp : ∀ x ∈ rs, 0 < x.1) : Spn n_runs_spread sg_runs_spread [runsD rs, .I n] [cellsD (expL rs)] := by
 have hol := expL_len rs hp
 refine rd_runs_spread rfl (dneed (Bool.and_eq_true_iff.2 ⟨decide_eq_true (show (0 : Int) ≤ n by omega), decide_eq_true (show (n : Int) ≤ 1099511627776 by omega)⟩) (dloop (fun j : Nat => [cellsD (expL (rs.take j)), .I (j : Int)]) (fun j => j ≤ rs.length) (fun j => rs.length - j) 0 rfl (Nat.zero_le _) fun j hj _ => ?_))
 refine dlt (fun g => ?_) fun g => ?_
 ·replace g : (j : Int) < rs.length := by rw [← runs_len]; exact g
  have j1 : j < rs.length := by omega
  have ro := runs_at j1
  have hnext : expL (rs.take (j + 1)) = expL (rs.take j) ++ List.replicate rs[j].1 rs[j].2 := by
   rw [List.take_succ_eq_append_getElem j1, expL_app, expL_one]
  have htot : (expL (rs.take (j + 1))).length ≤ 1048576 := by
   have : expL rs = expL (rs.take (j + 1)) ++ expL (rs.drop (j + 1)) := by rw [← expL_app, List.take_append_drop]
   rw [this, List.length_append] at hl; omega
  rw [hnext, List.length_append, List.length_replicate] at htot
  generalize hX : expL (rs.take j) = X at hnext htot
  refine nle (show (0 : Int) ≤ j by omega) (dloop (fun i : Nat => [cellsD (X ++ List.replicate i rs[j].2), .I (i : Int)]) (fun i => i ≤ rs[j].1) (fun i => rs[j].1 - i) 0 (by rw [List.replicate_zero, List.append_nil]; rfl) (Nat.zero_le _) fun i hi _ => ?_)
  have ra : ∀ (q : Nat), ((runsD rs).rows.getD j []).getD q (.I 0) = (ruD rs[j]).getD q (.I 0) := fun q => by rw [ro]
  refine dlt (fun g2 => ?_) fun g2 => ?_
  ·have g2 : (i : Int) < (((runsD rs).rows.getD j []).getD 0 (.I 0)).int := g2
   rw [ra] at g2
   replace g2 : (i : Int) < rs[j].1 := g2
   refine nle (le40 (n := X.length + i + 1) ?_ (by omega)) (dagain rfl ⟨i + 1, ?_, by omega, by omega⟩)
   ·show ((cellsD (X ++ List.replicate i rs[j].2)).rows.length : Int) + 1 = _
    rw [cells_len, List.length_append, List.length_replicate]; omega
   ·have a1 : O.den .app (cellsD (X ++ List.replicate i rs[j].2)) (.L [[((runsD rs).rows.getD j []).getD 1 (.I 0), ((runsD rs).rows.getD j []).getD 2 (.I 0), ((runsD rs).rows.getD j []).getD 3 (.I 0)]]) = cellsD (X ++ List.replicate (i + 1) rs[j].2) := by
     rw [ra, ra, ra, List.replicate_succ', ← List.append_assoc]
     simp [O.den, cellsD, DV.rows, ruD, clD]
    have a2 : U.den (.wrap .u64) (.I ((i : Int) + 1)) = .I ((i + 1 : Nat) : Int) := wrapU (by omega) (show (i : Int) + 1 = _ by omega)
    exact (congrArg (fun d => [d, U.den (.wrap .u64) (.I ((i : Int) + 1))]) a1).trans (congrArg (fun d => [cellsD (X ++ List.replicate (i + 1) rs[j].2), d]) a2)
  ·have g2 : ¬ (i : Int) < (((runsD rs).rows.getD j []).getD 0 (.I 0)).int := g2
   rw [ra] at g2
   replace g2 : ¬ (i : Int) < rs[j].1 := g2
   have : i = rs[j].1 := by omega
   subst this
   refine dfit (show (-9223372036854775808 : Int) ≤ (j : Int) + 1 by omega) (show (j : Int) + 1 ≤ 9223372036854775807 by omega) (dagain rfl ⟨j + 1, ?_, by omega, by omega⟩)
   rw [hnext]; rfl
 ·replace g : ¬ (j : Int) < rs.length := by rw [← runs_len]; exact g
  have : j = rs.length := by omega
  subst this
  rw [List.take_length]
  exact dret rfl
def rCD (r : List Cl × Nat × Nat) : List DV := [cellsD r.1, .I (r.2.1 : Int), .I (r.2.2 : Int)]
theorem pReadC_sp (b : List UInt8) (n : Nat) (hn : n ≤ 1048576) (hl : b.length ≤ 1048576) : Spn n_runs_Read sg_runs_Read [bytesD b, .I n] (rCD (readCL b n)) := by
 have hcl := readCL_len b n
 have hrs := readCL_rs b n
 have hb0 := readF_bad0 n n b [] 0
 have hpos := rsF_pos n n b [] 0 (fun x hx => by cases hx)
 have hmax : (O.den .max (.I (n : Int)) (.I 0)) = .I (n : Int) := by
  show DV.I (if (0 : Int) > n then 0 else (n : Int)) = _
  rw [if_neg (by omega)]
 refine rd_runs_Read rfl (dcall (readRuns_sp b n hn hl) rfl ?_ rfl (deq (fun h => ?_) fun h => dret ?_))
 ·have : U.den (.wrap .u64) (O.den .max (.I (n : Int)) (.I 0)) = .I (n : Int) := wrapU (by omega) (by rw [hmax]; rfl)
  exact congrArg (fun d => [bytesD b, d]) this
 ·replace h : ((rsF n n b [] 0).2.2 : Int) = 0 := h
  rw [hrs] at hcl
  simp only [Int.toNat_natCast] at hcl
  refine dcall (spread_sp (rsF n n b [] 0).1 n hn (by omega) hpos) rfl (congrArg (fun d => [runsD (rsF n n b [] 0).1, d]) hmax) rfl (dret ?_)
  rw [hrs]
  exact congrArg (fun d => [cellsD (expL (rsF n n b [] 0).1), DV.I ((rsF n n b [] 0).2.1 : Int), DV.I d]) h.symm
 ·replace h : ¬ ((rsF n n b [] 0).2.2 : Int) = 0 := h
  have : (readF n n b [] 0).2.2 ≠ 0 := fun e => h (by
    have h2 : readCL b (n : Int) = readF n n b [] 0 := by unfold readCL; rw [Int.toNat_natCast]
    rw [← h2, hrs] at e
    simp only at e
    omega)
  obtain ⟨z1, z2⟩ := hb0 this
  have h2 : readCL b (n : Int) = readF n n b [] 0 := by unfold readCL; rw [Int.toNat_natCast]
  have h3 : (readCL b (n : Int)).2.2 = (rsF n n b [] 0).2.2 := by rw [hrs]
  unfold rCD
  rw [h3, h2, z1, z2]; rfl
end Go.Proofs.YtbegccgpmhbnfaaGreat
