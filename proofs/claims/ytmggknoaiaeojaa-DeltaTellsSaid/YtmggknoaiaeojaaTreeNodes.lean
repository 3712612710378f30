/- What is proved here: the nodes of a plain suffix tree as a list, and what a step of its growth makes of that list. -/
import Derived.Test.YtmggknoaiaeojaaTreeSplit
namespace Go.Proofs.Ytmggknoaiaeojaa
set_option linter.unusedVariables false

def nodeOf (t : Tr) (v : Nat) : Nd := (t.fst v + t.dep (t.par v), t.fst v + t.dep v, t.lk v)
def nodesOf (t : Tr) : List Nd := (List.range t.m).map (nodeOf t)
theorem nodesOf_len (t : Tr) : (nodesOf t).length = t.m := by simp [nodesOf]
theorem nodesOf_get (t : Tr) (v : Nat) (h : v < t.m) : (nodesOf t)[v]? = some (nodeOf t v) := by simp [nodesOf, h]
theorem nodesOf_out (t : Tr) (v : Nat) (h : t.m ≤ v) : (nodesOf t)[v]? = none := by simp [nodesOf, h]
theorem nodesOf_eq (t : Tr) (l : List Nd) (hl : l.length = t.m) (h : ∀ v, v < t.m → l[v]? = some (nodeOf t v)) : nodesOf t = l := by
  apply List.ext_getElem?
  intro v
  rcases Nat.lt_or_ge v t.m with c | c
  · rw [nodesOf_get t v c, h v c]
  · rw [nodesOf_out t v c, List.getElem?_eq_none (by omega)]

theorem nodes_hang (ch : Nat → UInt8) (t : Tr) (u a d : Nat) (hu : u < t.m) (hp : ∀ v, v < t.m → t.par v < t.m) : nodesOf (t.hang ch u a d) = nodesOf t ++ [(a + t.dep u, a + d, 0)] := by
  refine nodesOf_eq _ _ (by rw [List.length_append, nodesOf_len]; rfl) fun v hv => ?_
  have hv' : v < t.m + 1 := hv
  show _ = some (upd t.fst t.m a v + upd t.dep t.m d (upd t.par t.m u v), upd t.fst t.m a v + upd t.dep t.m d v, upd t.lk t.m 0 v)
  by_cases e : v = t.m
  · rw [e, upd_same, upd_same, upd_same, upd_same, upd_other _ _ (by omega), List.getElem?_append_right (by rw [nodesOf_len]; exact Nat.le_refl _), nodesOf_len]
    simp
  · have := hp v (by omega)
    rw [upd_other _ _ e, upd_other _ _ e, upd_other _ _ e, upd_other _ _ e, upd_other _ _ (by omega), List.getElem?_append_left (by rw [nodesOf_len]; omega), nodesOf_get t v (by omega)]
    rfl
theorem nodes_split (ch : Nat → UInt8) (t : Tr) (u v d : Nat) (hu : u < t.m) (hv : v < t.m) (hp : ∀ v, v < t.m → t.par v < t.m) : nodesOf (t.split ch u v d) = (nodesOf t ++ [(t.fst v + t.dep u, t.fst v + d, 0)]).set v (t.fst v + d, t.fst v + t.dep v, t.lk v) := by
  refine nodesOf_eq _ _ (by rw [List.length_set, List.length_append, nodesOf_len]; rfl) fun x hx => ?_
  have hx' : x < t.m + 1 := hx
  show _ = some (upd t.fst t.m (t.fst v) x + upd t.dep t.m d (upd (upd t.par t.m u) v t.m x), upd t.fst t.m (t.fst v) x + upd t.dep t.m d x, upd t.lk t.m 0 x)
  by_cases ev : x = v
  · subst ev
    rw [List.getElem?_set_self (by rw [List.length_append, nodesOf_len]; simp; omega), upd_same, upd_same, upd_other _ _ (by omega), upd_other _ _ (by omega), upd_other _ _ (by omega)]
  · rw [List.getElem?_set_ne (Ne.symm ev), upd_other _ _ ev]
    by_cases e : x = t.m
    · rw [e, upd_same, upd_same, upd_same, upd_same, upd_other _ _ (by omega), List.getElem?_append_right (by rw [nodesOf_len]; exact Nat.le_refl _), nodesOf_len]
      simp
    · have := hp x (by omega)
      rw [upd_other _ _ e, upd_other _ _ e, upd_other _ _ e, upd_other _ _ e, upd_other _ _ (by omega), List.getElem?_append_left (by rw [nodesOf_len]; omega), nodesOf_get t x (by omega)]
      rfl
theorem nodes_link (t : Tr) (x y : Nat) (hx : x < t.m) : nodesOf (t.link x y) = linkN (nodesOf t) x y := by
  by_cases h0 : x = 0
  · rw [h0]; rfl
  rw [linkN_some (nodesOf t) x y (nodeOf t x) h0 (nodesOf_get t x hx)]
  refine nodesOf_eq _ _ (by rw [List.length_set, nodesOf_len]; rfl) fun v hv => ?_
  have hv' : v < t.m := hv
  show _ = some (t.fst v + t.dep (t.par v), t.fst v + t.dep v, (if x = 0 then t.lk else upd t.lk x y) v)
  rw [if_neg h0]
  by_cases e : v = x
  · subst e
    rw [List.getElem?_set_self (by rw [nodesOf_len]; exact hx), upd_same]
    rfl
  · rw [List.getElem?_set_ne (Ne.symm e), nodesOf_get t v hv', upd_other _ _ e]
    rfl
theorem TOk.pars {ch : Nat → UInt8} {N k : Nat} {t : Tr} (h : TOk ch N t k) (v : Nat) (hv : v < t.m) : t.par v < t.m := by
  rcases Nat.eq_zero_or_pos v with e | e
  · rw [e, h.par0]; exact h.pos
  · exact h.par_lt v e hv
end Go.Proofs.Ytmggknoaiaeojaa
