/- What is proved here: parts of layer 10's proofs. -/
import Derived.Test.YthepofkdgbcifaaGreatLebPlain
import Derived.Test.YthepofkdgbcifaaGreatRows
import Derived.WalkKit
import Derived.WalkSpells
import Derived.WalkLawsBesides
import Derived.Below
import Derived.Lib.Hide
import Derived.Maps.AppendAt
import Derived.Deep.AppendLies
import Derived.Deep.Draws
import Derived.OwnWalk
import Derived.Laws.BytesArg
import Derived.OpenShut
import Derived.Lib.SlBytesConst
import Derived.Laws.OwnMore
import Derived.Laws.MakeOwn
import Derived.Deep.OwnRows
import Derived.Deep.QuietTactic
import Derived.BigQuiet
namespace Go.Proofs.YthepofkdgbcifaaGreat
open Go.RowKit
set_option linter.unusedVariables false
set_option linter.unusedSimpArgs false
set_option maxHeartbeats 1000000
set_option maxRecDepth 100000
structure Cl where
 r : Int
 a : Nat
 h : Nat
deriving DecidableEq
def blankC : Cl := ⟨32, 0, 0⟩
def fillL (l : List Cl) (f : Nat → Cl) (lo hi : Nat) : List Cl := l.mapIdx fun i c => if lo ≤ i ∧ i < hi then f i else c
theorem fillL_len (l : List Cl) (f : Nat → Cl) (lo hi : Nat) : (fillL l f lo hi).length = l.length := by simp [fillL]
theorem fillL_get (l : List Cl) (f : Nat → Cl) (lo hi i : Nat) : (fillL l f lo hi)[i]? = if i < l.length then (if lo ≤ i ∧ i < hi then some (f i) else l[i]?) else none := by
 unfold fillL
 rw [List.getElem?_mapIdx]
 by_cases hi2 : i < l.length
 ·rw [if_pos hi2, List.getElem?_eq_getElem hi2]
  simp only [Option.map_some]
  split <;> rfl
 ·rw [if_neg hi2, List.getElem?_eq_none (by omega)]
  rfl
theorem fillL_none (l : List Cl) (f : Nat → Cl) (lo hi : Nat) (h : hi ≤ lo) : fillL l f lo hi = l := by
 apply List.ext_getElem?
 intro i
 rw [fillL_get]
 split
 ·rw [if_neg (by omega)]
 ·rename_i hh; rw [List.getElem?_eq_none (by omega)]
theorem fillL_set (l : List Cl) (f : Nat → Cl) (lo m : Nat) (c : Cl) (h1 : lo ≤ m) (hc : c = f m) : (fillL l f lo m).set m c = fillL l f lo (m + 1) := by
 subst hc
 apply List.ext_getElem?
 intro i
 rw [List.getElem?_set, fillL_len, fillL_get, fillL_get]
 by_cases e : m = i
 ·subst e
  rw [if_pos rfl]
  by_cases hl : m < l.length
  ·rw [if_pos hl, if_pos hl, if_pos (by omega)]
  ·rw [if_neg hl, if_neg hl]
 ·rw [if_neg e]
  split
  ·by_cases hr : lo ≤ i ∧ i < m
   ·rw [if_pos hr, if_pos (by omega)]
   ·rw [if_neg hr, if_neg (by omega)]
  ·rfl
theorem fillL_skip (l : List Cl) (f : Nat → Cl) (lo m : Nat) (hc : l[m]? = some (f m)) : fillL l f lo m = fillL l f lo (m + 1) := by
 apply List.ext_getElem?
 intro i
 rw [fillL_get, fillL_get]
 split
 ·by_cases hr : lo ≤ i ∧ i < m
  ·rw [if_pos hr, if_pos (by omega)]
  ·by_cases hr2 : lo ≤ i ∧ i < m + 1
   ·have e : i = m := by omega
    rw [if_neg hr, if_pos hr2, e, hc]
   ·rw [if_neg hr, if_neg hr2]
 ·rfl
def gOk (n : Nat) (cols : Int) : Bool := decide (1 ≤ cols ∧ cols ≤ 1000 ∧ (n : Int) % cols = 0 ∧ 1 ≤ (n : Int) / cols ∧ (n : Int) / cols ≤ 1000)
structure GOk (n r c : Nat) : Prop where
 c1 : 1 ≤ c
 c2 : c ≤ 1000
 r1 : 1 ≤ r
 r2 : r ≤ 1000
 n : n = r * c
theorem GOk.quo {n r c : Nat} (h : GOk n r c) : (n : Int) / (c : Int) = r ∧ (n : Int) % (c : Int) = 0 := by
 have h1 := h.c1
 rw [h.n]
 constructor
 ·rw [Int.natCast_mul]
  exact Int.mul_ediv_cancel _ (by omega)
 ·rw [Int.natCast_mul]
  exact Int.mul_emod_left _ _
theorem GOk.ok {n r c : Nat} (h : GOk n r c) : gOk n (c : Int) = true := by
 have h1 := h.c1
 have h2 := h.c2
 have h3 := h.r1
 have h4 := h.r2
 unfold gOk
 rw [h.quo.1, h.quo.2]
 simp
 omega
theorem gOk_of {n : Nat} {cols : Int} (h : gOk n cols = true) : ∃ r c : Nat, cols = c ∧ GOk n r c := by
 unfold gOk at h
 simp only [decide_eq_true_eq] at h
 obtain ⟨h1, h2, h3, h4, h5⟩ := h
 refine ⟨((n : Int) / cols).toNat, cols.toNat, by omega, by omega, by omega, by omega, by omega, ?_⟩
 have e1 : ((((n : Int) / cols).toNat : Nat) : Int) = (n : Int) / cols := by omega
 have e2 : ((cols.toNat : Nat) : Int) = cols := by omega
 have := Int.mul_ediv_add_emod (n : Int) cols
 have h6 : ((((n : Int) / cols).toNat * cols.toNat : Nat) : Int) = (n : Int) := by
  rw [Int.natCast_mul, e1, e2, Int.mul_comm]
  omega
 omega
theorem rc_div (y c x : Nat) (h : x < c) : (y * c + x) / c = y ∧ (y * c + x) % c = x := by
 constructor
 ·rw [Nat.mul_comm, Nat.mul_add_div (by omega), Nat.div_eq_of_lt h, Nat.add_zero]
 ·rw [Nat.mul_comm, Nat.mul_add_mod, Nat.mod_eq_of_lt h]
theorem rc_lt {r c y x : Nat} (hy : y < r) (hx : x < c) : y * c + x < r * c := by
 have : (y + 1) * c ≤ r * c := Nat.mul_le_mul_right _ hy
 have e : (y + 1) * c = y * c + c := by rw [Nat.add_mul, Nat.one_mul]
 omega
theorem rc_le {r c : Nat} (hr : r ≤ 1000) (hc : c ≤ 1000) : r * c ≤ 1000000 := Nat.mul_le_mul hr hc
def getC (l : List Cl) (i : Nat) : Cl := l.getD i blankC
theorem getC_of {l : List Cl} {i : Nat} (h : i < l.length) : l[i]? = some (getC l i) := by
 unfold getC List.getD
 rw [List.getElem?_eq_getElem h]
 rfl
def capN (n : Int) : Nat := (min (max n 0) 1000).toNat
def upF (l : List Cl) (c : Nat) (bottom : Nat) (n : Nat) (i : Nat) : Cl := if i / c + n ≤ bottom then getC l (i + n * c) else blankC
def downF (l : List Cl) (c : Nat) (top : Nat) (n : Nat) (i : Nat) : Cl := if top + n ≤ i / c then getC l (i - n * c) else blankC
def upL (l : List Cl) (cols top bottom n : Int) : List Cl :=
 if gOk l.length cols = true ∧ 0 ≤ top ∧ bottom < (l.length : Int) / cols ∧ top ≤ bottom then fillL l (upF l cols.toNat bottom.toNat (capN n)) (top.toNat * cols.toNat) ((bottom.toNat + 1) * cols.toNat) else l
def downL (l : List Cl) (cols top bottom n : Int) : List Cl :=
 if gOk l.length cols = true ∧ 0 ≤ top ∧ bottom < (l.length : Int) / cols ∧ top ≤ bottom then fillL l (downF l cols.toNat top.toNat (capN n)) (top.toNat * cols.toNat) ((bottom.toNat + 1) * cols.toNat) else l
def gPlace (n : Nat) (cols y x : Int) : Bool := gOk n cols && decide (0 ≤ y ∧ y < (n : Int) / cols ∧ 0 ≤ x ∧ x ≤ cols)
def badH (l : List Cl) (c i x : Nat) : Bool :=
 decide ((getC l i).h = 1) && (decide (x + 1 = c) || decide ((getC l (i + 1)).h ≠ 2)) || decide ((getC l i).h = 2) && (decide (x = 0) || decide ((getC l (i - 1)).h ≠ 1))
def mendF (l : List Cl) (c : Nat) (i : Nat) : Cl := if badH l c i (i % c) = true then blankC else getC l i
def mendL (l : List Cl) (cols y : Int) : List Cl :=
 if gPlace l.length cols y 0 = true then fillL l (mendF l cols.toNat) (y.toNat * cols.toNat) (y.toNat * cols.toNat + cols.toNat) else l
def insF (l : List Cl) (i0 : Nat) (n : Nat) (i : Nat) : Cl := if i0 + n ≤ i then getC l (i - n) else blankC
def delF (l : List Cl) (e : Nat) (n : Nat) (i : Nat) : Cl := if i + n < e then getC l (i + n) else blankC
def insertL (l : List Cl) (cols y x n : Int) : List Cl :=
 if gPlace l.length cols y x = true then mendL (fillL l (insF l (y.toNat * cols.toNat + x.toNat) (capN n)) (y.toNat * cols.toNat + x.toNat) (y.toNat * cols.toNat + cols.toNat)) cols y else l
def deleteL (l : List Cl) (cols y x n : Int) : List Cl :=
 if gPlace l.length cols y x = true then mendL (fillL l (delF l (y.toNat * cols.toNat + cols.toNat) (capN n)) (y.toNat * cols.toNat + x.toNat) (y.toNat * cols.toNat + cols.toNat)) cols y else l
def capC (n cols : Int) : Nat := (min (max n 0) cols).toNat
def eraseL (l : List Cl) (cols y fr til : Int) : List Cl :=
 if gPlace l.length cols y 0 = true then mendL (fillL l (fun _ => blankC) (y.toNat * cols.toNat + capC fr cols) (y.toNat * cols.toNat + capC til cols)) cols y else l
def sizeOk (rows cols : Int) : Bool := decide (1 ≤ rows ∧ rows ≤ 1000 ∧ 1 ≤ cols ∧ cols ≤ 1000)
def blankL (rows cols : Int) : List Cl := if sizeOk rows cols = true then List.replicate (rows.toNat * cols.toNat) blankC else []
theorem mendL_len (l : List Cl) (cols y : Int) : (mendL l cols y).length = l.length := by
 unfold mendL
 split
 ·exact fillL_len _ _ _ _
 ·rfl
theorem upL_len (l : List Cl) (cols top bottom n : Int) : (upL l cols top bottom n).length = l.length := by
 unfold upL
 split
 ·exact fillL_len _ _ _ _
 ·rfl
theorem downL_len (l : List Cl) (cols top bottom n : Int) : (downL l cols top bottom n).length = l.length := by
 unfold downL
 split
 ·exact fillL_len _ _ _ _
 ·rfl
theorem insertL_len (l : List Cl) (cols y x n : Int) : (insertL l cols y x n).length = l.length := by
 unfold insertL
 split
 ·rw [mendL_len, fillL_len]
 ·rfl
theorem deleteL_len (l : List Cl) (cols y x n : Int) : (deleteL l cols y x n).length = l.length := by
 unfold deleteL
 split
 ·rw [mendL_len, fillL_len]
 ·rfl
theorem eraseL_len (l : List Cl) (cols y fr til : Int) : (eraseL l cols y fr til).length = l.length := by
 unfold eraseL
 split
 ·rw [mendL_len, fillL_len]
 ·rfl
theorem gPlace_of {n : Nat} {cols y x : Int} (h : gPlace n cols y x = true) : ∃ r c yy xx : Nat, cols = c ∧ y = yy ∧ x = xx ∧ GOk n r c ∧ yy < r ∧ xx ≤ c := by
 unfold gPlace at h
 rw [Bool.and_eq_true, decide_eq_true_eq] at h
 obtain ⟨h1, h2, h3, h4, h5⟩ := h
 obtain ⟨r, c, rfl, hG⟩ := gOk_of h1
 rw [hG.quo.1] at h3
 exact ⟨r, c, y.toNat, x.toNat, rfl, by omega, by omega, hG, by omega, by omega⟩
theorem gPlace_mk {n r c : Nat} {y x : Int} (h : GOk n r c) (h1 : 0 ≤ y) (h2 : y < r) (h3 : 0 ≤ x) (h4 : x ≤ c) : gPlace n (c : Int) y x = true := by
 unfold gPlace
 rw [h.ok, h.quo.1]
 simp [h1, h2, h3, h4]
def mayR (r : Int) : Bool := decide (0 ≤ r) && decide (r ≤ 1114111) && (decide (r < 55296) || decide (57343 < r))
def contB (b : UInt8) : Bool := decide (128 ≤ b.toNat) && decide (b.toNat < 192)
def loB (a : Nat) : Nat := if a = 224 then 160 else if a = 240 then 144 else 128
def hiB (a : Nat) : Nat := if a = 237 then 159 else if a = 244 then 143 else 191
theorem hiB_le (a : Nat) : hiB a ≤ 191 := by
 unfold hiB
 split
 ·omega
 ·split <;> omega
def secB (a b : UInt8) : Bool := decide (loB a.toNat ≤ b.toNat) && decide (b.toNat ≤ hiB a.toNat)
theorem secB_iff (a b : UInt8) : secB a b = true ↔ loB a.toNat ≤ b.toNat ∧ b.toNat ≤ hiB a.toNat := by simp [secB]
def beginsL : List UInt8 → Bool
 | [a] => decide (194 ≤ a.toNat) && decide (a.toNat ≤ 244)
 | [a, b] => decide (224 ≤ a.toNat) && decide (a.toNat ≤ 244) && secB a b
 | [a, b, c] => decide (240 ≤ a.toNat) && decide (a.toNat ≤ 244) && secB a b && contB c
 | _ => false
def wholeL : List UInt8 → Option Nat
 | [a] => if a.toNat < 128 then some a.toNat else none
 | [a, b] => if (decide (194 ≤ a.toNat) && decide (a.toNat < 224) && contB b) = true then some ((a.toNat - 192) * 64 + (b.toNat - 128)) else none
 | [a, b, c] => if (decide (224 ≤ a.toNat) && decide (a.toNat < 240) && secB a b && contB c) = true then some ((a.toNat - 224) * 4096 + (b.toNat - 128) * 64 + (c.toNat - 128)) else none
 | [a, b, c, d] => if (decide (240 ≤ a.toNat) && decide (a.toNat ≤ 244) && secB a b && contB c && contB d) = true then some ((a.toNat - 240) * 262144 + (b.toNat - 128) * 4096 + (c.toNat - 128) * 64 + (d.toNat - 128)) else none
 | _ => none
def firstL (b : UInt8) (out : List Nat) : List UInt8 × List Nat :=
 if b.toNat < 128 then ([], out ++ [b.toNat]) else if beginsL [b] then ([b], out) else ([], out ++ [65533])
def stepL (p : List UInt8) (b : UInt8) : List UInt8 × List Nat :=
 if beginsL p = true then
  match wholeL (p ++ [b]) with
  | some r => ([], [r])
  | none => if beginsL (p ++ [b]) then (p ++ [b], []) else firstL b [65533]
 else firstL b []
theorem beginsL_len (p : List UInt8) (h : beginsL p = true) : 1 ≤ p.length ∧ p.length ≤ 3 := by
 match p, h with
 | [a], _ => simp
 | [a, b], _ => simp
 | [a, b, c], _ => simp
theorem firstL_pend (b : UInt8) (o : List Nat) : (firstL b o).1 = [] ∨ beginsL (firstL b o).1 = true := by
 unfold firstL
 split
 ·exact .inl rfl
 ·split
  ·exact .inr (by assumption)
  ·exact .inl rfl
theorem stepL_pend (p : List UInt8) (b : UInt8) : (stepL p b).1 = [] ∨ beginsL (stepL p b).1 = true := by
 unfold stepL
 split
 ·split
  ·exact .inl rfl
  ·split
   ·exact .inr (by assumption)
   ·exact firstL_pend _ _
 ·exact firstL_pend _ _
theorem firstL_len (b : UInt8) (o : List Nat) : (firstL b o).1.length ≤ 1 ∧ (firstL b o).2.length ≤ o.length + 1 := by
 unfold firstL
 split
 ·simp
 ·split <;> simp
theorem stepL_len (p : List UInt8) (b : UInt8) : (stepL p b).1.length ≤ 3 ∧ (stepL p b).2.length ≤ 2 := by
 unfold stepL
 split
 ·split
  ·simp
  ·split
   ·rename_i h
    have := beginsL_len _ h
    exact ⟨this.2, by simp⟩
   ·have := firstL_len b [65533]
    simp at this
    omega
 ·have := firstL_len b []
  simp at this
  omega
theorem firstL_lt (b : UInt8) (o : List Nat) (ho : ∀ r ∈ o, r < 1114112) : ∀ r ∈ (firstL b o).2, r < 1114112 := by
 have := b.toNat_lt
 unfold firstL
 split
 ·intro r hr
  rw [List.mem_append, List.mem_singleton] at hr
  rcases hr with hr | hr
  ·exact ho r hr
  ·omega
 ·split
  ·exact ho
  ·intro r hr
   rw [List.mem_append, List.mem_singleton] at hr
   rcases hr with hr | hr
   ·exact ho r hr
   ·omega
theorem wholeL_lt (l : List UInt8) (r : Nat) (h : wholeL l = some r) : r < 1114112 := by
 match l, h with
 | [a], h =>
  have := a.toNat_lt
  simp only [wholeL] at h
  split at h <;> simp at h
  omega
 | [a, b], h =>
  have := a.toNat_lt
  have := b.toNat_lt
  simp only [wholeL] at h
  split at h <;> simp at h
  omega
 | [a, b, c], h =>
  have := a.toNat_lt
  have := b.toNat_lt
  have := c.toNat_lt
  simp only [wholeL] at h
  split at h
  ·rename_i hc
   simp [contB] at hc
   simp at h
   omega
  ·simp at h
 | [a, b, c, d], h =>
  have := b.toNat_lt
  have := c.toNat_lt
  have := d.toNat_lt
  simp only [wholeL] at h
  split at h
  ·rename_i hc
   simp only [Bool.and_eq_true, secB_iff, decide_eq_true_eq, contB] at hc
   simp at h
   have := hiB_le a.toNat
   by_cases h4 : a.toNat = 244
   ·have h5 : hiB a.toNat = 143 := by rw [h4]; rfl
    omega
   ·omega
  ·simp at h
theorem stepL_lt (p : List UInt8) (b : UInt8) : ∀ r ∈ (stepL p b).2, r < 1114112 := by
 unfold stepL
 split
 ·split
  ·rename_i r h
   intro q hq
   simp at hq
   subst hq
   exact wholeL_lt _ _ h
  ·split
   ·simp
   ·exact firstL_lt b _ (by simp)
 ·exact firstL_lt b _ (by simp)
structure Pr where
 mode : Nat
 priv : Nat
 params : List Int
 inter : List UInt8
 utf : List UInt8
structure Ac where
 kind : Nat
 r : Int
 b : Nat
 priv : Nat
 params : List Int
 inter : List UInt8
def prM (m : Nat) : Pr := ⟨m, 0, [], [], []⟩
def acP (r : Int) : Ac := ⟨0, r, 0, 0, [], []⟩
def acC (b : Nat) : Ac := ⟨1, 0, b, 0, [], []⟩
def acE (b : Nat) (i : List UInt8) : Ac := ⟨2, 0, b, 0, [], i⟩
def acS (p : Pr) (b : Nat) : Ac := ⟨3, 0, b, p.priv, p.params, p.inter⟩
def interB (b : UInt8) : Bool := decide (32 ≤ b.toNat) && decide (b.toNat ≤ 47)
def printsL (l : List Nat) : List Ac := l.map fun (r : Nat) => acP (Int.ofNat r)
def oneP (l : List Int) : List Int := if l.length = 0 then [0] else l
def digP (l : List Int) (b : Nat) : List Int := l.set (l.length - 1) (min (10 * l.getD (l.length - 1) 0 + ((b : Int) - 48)) 65535)
def csiL (p : Pr) (b : UInt8) : Pr × List Ac :=
 if 64 ≤ b.toNat then (prM 0, [acS p b.toNat])
 else if interB b = true then (if 2 ≤ p.inter.length then (prM 6, []) else ({ p with mode := 5, inter := p.inter ++ [b] }, []))
 else if p.mode = 5 ∨ b.toNat = 58 then (prM 6, [])
 else if 60 ≤ b.toNat then (if 0 < p.params.length ∨ p.priv ≠ 0 then (prM 6, []) else ({ p with priv := b.toNat }, []))
 else if b.toNat = 59 then (if 16 ≤ (oneP p.params).length then (prM 6, []) else ({ p with params := oneP p.params ++ [0] }, []))
 else ({ p with params := digP (oneP p.params) b.toNat }, [])
def vtM (p : Pr) (b : UInt8) : Pr × List Ac :=
 if p.mode = 1 then
  (if interB b = true then ({ prM 2 with inter := [b] }, [])
   else if b.toNat = 91 then (prM 4, [])
   else if b.toNat = 93 ∨ b.toNat = 80 ∨ b.toNat = 88 ∨ b.toNat = 94 ∨ b.toNat = 95 then (prM 7, [])
   else (prM 0, [acE b.toNat []]))
 else if p.mode = 2 then
  (if interB b = false then (prM 0, [acE b.toNat p.inter])
   else if 2 ≤ p.inter.length then (prM 3, [])
   else ({ prM 2 with inter := p.inter ++ [b] }, []))
 else if p.mode = 3 then (if 48 ≤ b.toNat then (prM 0, []) else (p, []))
 else if p.mode = 6 then (if 64 ≤ b.toNat then (prM 0, []) else (p, []))
 else csiL p b
def vtN (p : Pr) (b : UInt8) : Pr × List Ac :=
 if b.toNat = 24 ∨ b.toNat = 26 then (prM 0, [])
 else if b.toNat = 27 then (prM 1, [])
 else if p.mode = 0 then
  (if b.toNat < 32 then (prM 0, [acC b.toNat])
   else if b.toNat = 127 then (prM 0, [])
   else ({ prM 0 with utf := (stepL [] b).1 }, printsL (stepL [] b).2))
 else if p.mode = 7 then (if b.toNat = 7 then (prM 0, []) else (p, []))
 else if b.toNat < 32 then (p, [acC b.toNat])
 else if b.toNat = 127 then (p, [])
 else if 128 ≤ b.toNat then (prM 0, [])
 else vtM p b
def formedB (p : List UInt8) (b : UInt8) : Bool := p == [239, 191] && b == 189
def goesB (u : List UInt8) (b : UInt8) : Bool :=
 decide (128 ≤ b.toNat) && (decide ((stepL u b).2.length = 0) || decide ((stepL u b).2.getD 0 0 ≠ 65533) || (decide ((stepL u b).2.length = 1) && decide ((stepL u b).1.length = 0) && formedB u b))
def vtL (p : Pr) (b : UInt8) : Pr × List Ac :=
 if p.mode = 0 ∧ 0 < p.utf.length then
  (if goesB p.utf b = true then ({ prM 0 with utf := (stepL p.utf b).1 }, printsL (stepL p.utf b).2)
   else ((vtN { p with utf := [] } b).1, acP 65533 :: (vtN { p with utf := [] } b).2))
 else vtN p b
structure PrOk (p : Pr) : Prop where
 mode : p.mode ≤ 7
 priv : p.priv = 0 ∨ (60 ≤ p.priv ∧ p.priv ≤ 63)
 params : p.params.length ≤ 16
 each : ∀ x ∈ p.params, 0 ≤ x ∧ x ≤ 65535
 inter : p.inter.length ≤ 2
 eachI : ∀ b ∈ p.inter, interB b = true
 utf : p.utf = [] ∨ (p.mode = 0 ∧ beginsL p.utf = true)
 csi : p.mode = 4 ∨ p.mode = 5 ∨ (p.priv = 0 ∧ p.params = [])
 with_ : (p.mode = 2 ∨ p.mode = 5) ↔ 0 < p.inter.length
theorem prM_ok (m : Nat) (h : m ≤ 7) (h2 : m ≠ 2) (h5 : m ≠ 5) : PrOk (prM m) := ⟨h, .inl rfl, by simp [prM], by simp [prM], by simp [prM], by simp [prM], .inl rfl, .inr (.inr ⟨rfl, rfl⟩), by simp [prM]; omega⟩
theorem oneP_len (l : List Int) : 1 ≤ (oneP l).length ∧ ((oneP l).length = l.length ∨ (l.length = 0 ∧ (oneP l).length = 1)) := by
 unfold oneP
 split
 ·rename_i h; simp [h]
 ·rename_i h; exact ⟨by omega, .inl rfl⟩
theorem oneP_each (l : List Int) (h : ∀ x ∈ l, 0 ≤ x ∧ x ≤ 65535) : ∀ x ∈ oneP l, 0 ≤ x ∧ x ≤ 65535 := by
 unfold oneP
 split
 ·simp
 ·exact h
theorem digP_len (l : List Int) (b : Nat) : (digP l b).length = l.length := by simp [digP]
theorem digP_each (l : List Int) (b : Nat) (hb : 48 ≤ b) (hl : 1 ≤ l.length) (h : ∀ x ∈ l, 0 ≤ x ∧ x ≤ 65535) : ∀ x ∈ digP l b, 0 ≤ x ∧ x ≤ 65535 := by
 intro x hx
 unfold digP at hx
 rcases List.mem_or_eq_of_mem_set hx with h1 | h1
 ·exact h x h1
 ·have hlt : l.length - 1 < l.length := by omega
  have hm : 0 ≤ l.getD (l.length - 1) 0 ∧ l.getD (l.length - 1) 0 ≤ 65535 := by
   have := h (l[l.length - 1]) (List.getElem_mem hlt)
   simpa [List.getD, List.getElem?_eq_getElem hlt] using this
  rw [h1]
  omega
theorem csiL_ok (p : Pr) (b : UInt8) (h : PrOk p) (hm : p.mode = 4 ∨ p.mode = 5) (hb : 32 ≤ b.toNat) : PrOk (csiL p b).1 := by
 have hi := h.with_
 unfold csiL
 split
 ·exact prM_ok 0 (by omega) (by omega) (by omega)
 split
 ·rename_i hB
  split
  ·exact prM_ok 6 (by omega) (by omega) (by omega)
  ·rename_i hl
   refine ⟨by show 5 ≤ 7; omega, h.priv, h.params, h.each, by show (p.inter ++ [b]).length ≤ 2; simp; omega, ?_, ?_, .inr (.inl rfl), ?_⟩
   ·intro c hc
    rcases List.mem_append.1 hc with h1 | h1
    ·exact h.eachI c h1
    ·rw [List.mem_singleton.1 h1]; exact hB
   ·rcases h.utf with hu | ⟨hu, _⟩
    ·exact .inl hu
    ·omega
   ·show ((5 : Nat) = 2 ∨ (5 : Nat) = 5) ↔ 0 < (p.inter ++ [b]).length
    simp
 rename_i hnb hB
 split
 ·exact prM_ok 6 (by omega) (by omega) (by omega)
 rename_i hm5
 have hm4 : p.mode = 4 := by omega
 have hu : p.utf = [] := by
  rcases h.utf with hu | ⟨hu, _⟩
  ·exact hu
  ·omega
 split
 ·split
  ·exact prM_ok 6 (by omega) (by omega) (by omega)
  ·rename_i h60 hp
   exact ⟨h.mode, .inr ⟨h60, by show b.toNat ≤ 63; omega⟩, h.params, h.each, h.inter, h.eachI, .inl hu, .inl hm4, h.with_⟩
 rename_i h60
 have hlen := oneP_len p.params
 have hpl := h.params
 split
 ·split
  ·exact prM_ok 6 (by omega) (by omega) (by omega)
  ·rename_i h59 h16
   refine ⟨h.mode, h.priv, by show (oneP p.params ++ [0]).length ≤ 16; simp; omega, ?_, h.inter, h.eachI, .inl hu, .inl hm4, h.with_⟩
   intro x hx
   rcases List.mem_append.1 hx with h1 | h1
   ·exact oneP_each _ h.each x h1
   ·rw [List.mem_singleton.1 h1]; omega
 ·rename_i h59
  have hn : 48 ≤ b.toNat := by
   rcases Nat.lt_or_ge b.toNat 48 with h1 | h1
   ·exact absurd (show interB b = true by simp [interB]; omega) hB
   ·exact h1
  exact ⟨h.mode, h.priv, by show (digP (oneP p.params) b.toNat).length ≤ 16; rw [digP_len]; omega, digP_each _ _ hn hlen.1 (oneP_each _ h.each), h.inter, h.eachI, .inl hu, .inl hm4, h.with_⟩
theorem utf_ok (u : List UInt8) (h : u = [] ∨ beginsL u = true) : PrOk { prM 0 with utf := u } :=
 ⟨by show (0 : Nat) ≤ 7; omega, .inl rfl, by simp [prM], by simp [prM], by simp [prM], by simp [prM], h.elim .inl (fun h => .inr ⟨rfl, h⟩), .inr (.inr ⟨rfl, rfl⟩), by simp [prM]⟩
theorem vtM_ok (p : Pr) (b : UInt8) (h : PrOk p) (h0 : p.mode ≠ 0) (h7 : p.mode ≠ 7) (hb : 32 ≤ b.toNat) : PrOk (vtM p b).1 := by
 have hi := h.with_
 have hmode := h.mode
 unfold vtM
 split
 ·split
  ·rename_i hB
   exact ⟨by show (2 : Nat) ≤ 7; omega, .inl rfl, by simp [prM], by simp [prM], by show [b].length ≤ 2; simp, by intro c hc; rw [List.mem_singleton.1 hc]; exact hB, .inl rfl, .inr (.inr ⟨rfl, rfl⟩), by show ((2 : Nat) = 2 ∨ (2 : Nat) = 5) ↔ 0 < [b].length; simp⟩
  split
  ·exact prM_ok 4 (by omega) (by omega) (by omega)
  split
  ·exact prM_ok 7 (by omega) (by omega) (by omega)
  ·exact prM_ok 0 (by omega) (by omega) (by omega)
 split
 ·split
  ·exact prM_ok 0 (by omega) (by omega) (by omega)
  split
  ·exact prM_ok 3 (by omega) (by omega) (by omega)
  ·rename_i hB hl
   have hB' : interB b = true := by cases hh : interB b <;> simp_all
   refine ⟨by show (2 : Nat) ≤ 7; omega, .inl rfl, by simp [prM], by simp [prM], by show (p.inter ++ [b]).length ≤ 2; simp; omega, ?_, .inl rfl, .inr (.inr ⟨rfl, rfl⟩), by show ((2 : Nat) = 2 ∨ (2 : Nat) = 5) ↔ 0 < (p.inter ++ [b]).length; simp⟩
   intro c hc
   rcases List.mem_append.1 hc with h1 | h1
   ·exact h.eachI c h1
   ·rw [List.mem_singleton.1 h1]; exact hB'
 split
 ·split
  ·exact prM_ok 0 (by omega) (by omega) (by omega)
  ·exact h
 split
 ·split
  ·exact prM_ok 0 (by omega) (by omega) (by omega)
  ·exact h
 ·exact csiL_ok p b h (by omega) (by omega)
theorem vtN_ok (p : Pr) (b : UInt8) (h : PrOk p) : PrOk (vtN p b).1 := by
 have hi := h.with_
 have hmode := h.mode
 unfold vtN
 split
 ·exact prM_ok 0 (by omega) (by omega) (by omega)
 split
 ·exact prM_ok 1 (by omega) (by omega) (by omega)
 split
 ·split
  ·exact prM_ok 0 (by omega) (by omega) (by omega)
  split
  ·exact prM_ok 0 (by omega) (by omega) (by omega)
  ·exact utf_ok _ (stepL_pend [] b)
 split
 ·split
  ·exact prM_ok 0 (by omega) (by omega) (by omega)
  ·exact h
 split
 ·exact h
 split
 ·exact h
 split
 ·exact prM_ok 0 (by omega) (by omega) (by omega)
 ·exact vtM_ok p b h (by omega) (by omega) (by omega)
theorem drop_ok (p : Pr) (h : PrOk p) : PrOk { p with utf := [] } := ⟨h.mode, h.priv, h.params, h.each, h.inter, h.eachI, .inl rfl, h.csi, h.with_⟩
theorem vtL_ok (p : Pr) (b : UInt8) (h : PrOk p) : PrOk (vtL p b).1 := by
 unfold vtL
 split
 ·split
  ·exact utf_ok _ (stepL_pend p.utf b)
  ·exact vtN_ok _ b (drop_ok p h)
 ·exact vtN_ok p b h
def vB (b : UInt8) : Value := .int .u8 (b.toNat : Int)
def vBs (l : List UInt8) : List Value := l.map vB
def OB (w : World) (base : Nat) (v : Value) (l : List UInt8) : Prop := w.ownsRow base 5 1 v l.length (vBs l)
def BS (w : World) (B : Nat) (v : Value) (l : List UInt8) : Prop :=
 ∃ A c, v = .slice A l.length c ∧ l.length ≤ c ∧ c ≤ maxLen ∧
  (0 < l.length → ∃ ad, A = some ad ∧ ad.block < B ∧ ∀ j b, l[j]? = some b → w.cell? (ad.add j) = some (vB b))
theorem block_add (a : Addr) (n : Nat) : (a.add n).block = a.block := by unfold Addr.add; split <;> rfl
theorem add_add (a : Addr) (i j : Nat) : (a.add i).add j = a.add (i + j) := by
 unfold Addr.add
 by_cases hi : i = 0 <;> by_cases hj : j = 0 <;> simp [hi, hj, Nat.add_assoc]
theorem vBs_one (l : List UInt8) : ∀ u ∈ vBs l, u.oneCell' = true := by
 intro u hu
 unfold vBs at hu
 rw [List.mem_map] at hu
 obtain ⟨b, _, rfl⟩ := hu
 rfl
section
variable {w w' : World} {B B' base : Nat} {v : Value} {l : List UInt8}
theorem BS.keep (h : BS w B v l) (hk : ∀ p : Addr, p.block < B → w'.cell? p = w.cell? p) : BS w' B v l := by
 obtain ⟨A, c, hv, h1, h2, h3⟩ := h
 refine ⟨A, c, hv, h1, h2, fun hl => ?_⟩
 obtain ⟨ad, hA, hb, hc⟩ := h3 hl
 exact ⟨ad, hA, hb, fun j b hj => (hk _ (by rw [block_add]; exact hb)).trans (hc j b hj)⟩
theorem BS.below (h : BS w B v l) (hb : Below B w w') : BS w' B v l := h.keep fun _ hp => hb.cell hp
theorem BS.more (h : BS w B v l) (hB : B ≤ B') : BS w B' v l := by
 obtain ⟨A, c, hv, h1, h2, h3⟩ := h
 refine ⟨A, c, hv, h1, h2, fun hl => ?_⟩
 obtain ⟨ad, hA, hb, hc⟩ := h3 hl
 exact ⟨ad, hA, by omega, hc⟩
theorem BS.alloc (h : BS w B v l) (hB : B ≤ w.heap.size) (o : Obj) : BS (w.alloc o) B v l := h.keep fun p hp => World.cell?_alloc_lt w o p (by omega)
theorem BS.nil (w : World) (B : Nat) : BS w B (.slice none 0 0) [] := ⟨none, 0, rfl, by simp, by simp [maxLen], fun h => absurd h (by simp)⟩
theorem BS.at_ (h : BS w B v l) : ∃ A c, v = .slice A l.length c ∧ l.length ≤ c ∧ c ≤ maxLen ∧
  ∀ k (hk : k < l.length), ∃ ad, A = some ad ∧ w.cell? (ad.add k) = some (vB (l[k]'hk)) := by
 obtain ⟨A, c, hv, h1, h2, h3⟩ := h
 refine ⟨A, c, hv, h1, h2, fun k hk => ?_⟩
 obtain ⟨ad, hA, _, hc⟩ := h3 (by omega)
 exact ⟨ad, hA, hc k _ (List.getElem?_eq_getElem hk)⟩
theorem OB.nil (w : World) (base : Nat) : OB w base (.slice none 0 0) [] := World.ownsRow_nil w base _ _
theorem OB.below (h : OB w base v l) (hb : Below w.heap.size w w') : OB w' base v l := by
 have hg : w.grownBy w' none := ⟨hb.os, hb.tape, hb.output, hb.size, fun i hi _ => hb.block i hi⟩
 unfold OB at h ⊢
 refine h.kept hg ?_
 cases hv : v.ownBlock with
 | none => exact Or.inl rfl
 | some k => exact Or.inr (by simp)
theorem OB.bs (h : OB w base v l) : BS w w.heap.size v l := by
 unfold OB at h
 rcases h.2 with ⟨rfl, hn⟩ | ⟨g, cap, cur, rfl, hbg, hg, hnc, hcm, hcs, htake⟩
 ·have : l = [] := List.eq_nil_of_length_eq_zero hn
  subst this
  exact BS.nil w _
 ·have hlt : g < w.heap.size := by
   rcases Nat.lt_or_ge g w.heap.size with hh | hh
   ·exact hh
   ·rw [Array.getElem?_eq_none hh] at hg; cases hg
  refine ⟨_, cap, rfl, hnc, hcm, fun _ => ⟨_, rfl, hlt, fun j b hj => ?_⟩⟩
  refine h.cells (g := g) rfl j (vB b) ?_
  unfold vBs
  rw [List.getElem?_map, hj]; rfl
end
theorem BS.cut {w : World} {B : Nat} {A : Option Addr} {n c : Nat} {l : List UInt8} (h : BS w B (.slice A n c) l) (k m j : Nat) (hk : k + m ≤ l.length) (hj : j = m) :
  BS w B (.slice (if c = k then A else Option.map (fun x => x.add k) A) j (c - k)) ((l.drop k).take m) := by
 subst hj
 obtain ⟨A', c', hv, h1, h2, h3⟩ := h
 simp only [Value.slice.injEq] at hv
 obtain ⟨rfl, rfl, rfl⟩ := hv
 have hlen : ((l.drop k).take j).length = j := by simp; omega
 refine ⟨_, c - k, by rw [hlen], by rw [hlen]; omega, by omega, fun hl => ?_⟩
 rw [hlen] at hl
 obtain ⟨ad, rfl, hb, hc⟩ := h3 (by omega)
 rw [if_neg (by omega)]
 refine ⟨ad.add k, rfl, by rw [block_add]; exact hb, fun i b hi => ?_⟩
 rw [add_add]
 refine hc _ b ?_
 rw [List.getElem?_take] at hi
 split at hi
 ·rw [List.getElem?_drop] at hi; exact hi
 ·cases hi
theorem BS.one (w : World) (b : UInt8) (t : TypeId) : BS (w.alloc (.cells #[vB b] t)) (w.heap.size + 1) (.slice (some ⟨w.heap.size, 0, none⟩) 1 1) [b] := by
 refine ⟨_, 1, rfl, by simp, by simp [maxLen], fun _ => ⟨_, rfl, by simp, fun j c hj => ?_⟩⟩
 match j, hj with
 | 0, hj =>
  simp at hj
  subst hj
  simp [Addr.add]
theorem vB_of (x : Int) (h0 : 0 ≤ x) (h1 : x < 256) : vB (UInt8.ofNat x.toNat) = .int .u8 x := by
 unfold vB
 rw [ofNat_toNat _ (by omega)]
 congr 1
 omega
theorem BS.one' (w : World) (x : Int) (h0 : 0 ≤ x) (h1 : x < 256) (t : TypeId) :
  BS (w.alloc (.cells #[.int .u8 x] t)) (w.heap.size + 1) (.slice (some ⟨w.heap.size, 0, none⟩) 1 1) [UInt8.ofNat x.toNat] := by
 rw [← vB_of x h0 h1]
 exact BS.one w _ t
theorem OB.alloc {w : World} {base : Nat} {v : Value} {l : List UInt8} (h : OB w base v l) (o : Obj) : OB (w.alloc o) base v l := World.ownsRow.alloc h o
theorem bs_row {W : World} {a : Addr} {len cap : Nat} {zs : List Int} (hl : len ≤ cap) (hm : cap ≤ maxLen) (hz : zs.length = cap)
  (hcell : ∀ i, i < zs.length → W.cell? (a.add i) = some (.int .u8 (zs.getD i 0))) (hwz : ∀ n ∈ zs, (Lit.int .u8 n).wf = true) : ∃ l, BS W W.heap.size (.slice (some a) len cap) l := by
 have hlen : ((zs.take len).map fun n => UInt8.ofNat n.toNat).length = len := by simp; omega
 refine ⟨(zs.take len).map fun n => UInt8.ofNat n.toNat, _, cap, by rw [hlen], by rw [hlen]; exact hl, hm, fun h0 => ⟨a, rfl, ?_, fun j b hj => ?_⟩⟩
 ·rw [hlen] at h0
  have h := hcell 0 (by omega)
  rw [show a.add 0 = a from by simp [Addr.add]] at h
  rcases Nat.lt_or_ge a.block W.heap.size with hh | hh
  ·exact hh
  ·simp [World.cell?, Array.getElem?_eq_none hh] at h
 ·have hj1 : j < len := by
   rcases Nat.lt_or_ge j len with hh | hh
   ·exact hh
   ·rw [List.getElem?_eq_none (by rw [hlen]; exact hh)] at hj; cases hj
  have hj2 : j < zs.length := by omega
  rw [hcell j hj2]
  rw [List.getElem?_map, List.getElem?_take, if_pos hj1, List.getElem?_eq_getElem hj2] at hj
  injection hj with hj
  subst hj
  have hw := bounds_u8 (hwz zs[j] (List.getElem_mem hj2))
  rw [vB_of zs[j] (by omega) (by omega)]
  simp [List.getD, List.getElem?_eq_getElem hj2]
theorem byteInfo : (Tryz.prog.info? 5).map (fun i => (i.zero, i.size, i.bytes)) = some (some (.int .u8 0), 1, 1) := by kernel_rfl
theorem run_app (w : World) (ty : TypeId) {base B : Nat} {v u : Value} {l m : List UInt8} (hown : OB w base v l) (hr : BS w B u m) (hlen : l.length + m.length ≤ 1099511627776) (hbase : base ≤ w.heap.size) :
  ∃ v' w', (Builtin.append_ #[26, 26] ty #[v, u]).run Tryz.prog w = .ok v' w' ∧ OB w' base v' (l ++ m) ∧ w.grownBy w' v.ownBlock ∧ Below base w w' ∧ (v'.ownBlock = v.ownBlock ∨ v'.ownBlock = some w.heap.size) := by
 obtain ⟨i0, hi0, hz0, hz1, hz2⟩ := info_parts byteInfo
 have hlt := World.ownsRow.lt hown
 have hfin : ∀ v' w', w'.ownsRow base 5 1 v' (l.length + m.length) (vBs l ++ vBs m) → OB w' base v' (l ++ m) := by
  intro v' w' h
  unfold OB vBs
  rw [List.length_append, List.map_append]
  exact h
 obtain ⟨A, c, rfl, h1, h2, h3⟩ := hr
 rcases Nat.eq_zero_or_pos m.length with h0 | h0
 ·have hm : m = [] := List.eq_nil_of_length_eq_zero h0
  subst hm
  refine ⟨v, w, ?_, by simpa using hown, World.grownBy.refl w _, Below.refl _ _, .inl rfl⟩
  rcases hown.2 with ⟨rfl, hn⟩ | ⟨g, cap, cur, rfl, _, _, hnc, _⟩
  ·cases A <;> simp [Builtin.append_, run_underlying Tryz.underlying26, sizeOf, typeInfo, hi0, Builtin.lenOf, Builtin.firstCells, loadCells, loadCellsFrom]
  ·cases A <;> simp [Builtin.append_, run_underlying Tryz.underlying26, sizeOf, typeInfo, hi0, Builtin.lenOf, Builtin.firstCells, hnc, storeCells, loadCells, loadCellsFrom]
 ·obtain ⟨ad, rfl, hb, hc⟩ := h3 h0
  obtain ⟨v', w', hrun, h4, h5, _, h6⟩ := run_append_own_at (P := Tryz.prog) w base 26 ty 5 i0 _ 1 1 Tryz.underlying26 hi0 hz0 hz1 hz2 rfl (by omega) v l.length (vBs l) hown ad m.length c (vBs m) (by simp [vBs])
   (fun j u hj => by
    unfold vBs at hj
    rw [List.getElem?_map] at hj
    cases hmj : m[j]? with
    | none => rw [hmj] at hj; cases hj
    | some b =>
     rw [hmj] at hj
     simp only [Option.map_some, Option.some.injEq] at hj
     subst hj
     exact hc j b hmj)
   (vBs_one m) (by simp only [maxLen]; omega) (by omega) hbase
  exact ⟨v', w', hrun, hfin v' w' h4, h5, (Below.refl _ _).grown h5 hbase (fun k hk => (hlt k hk).1), h6⟩
theorem wpl_app (w : World) {ops : Array Oper} {rest : List Oper} {o : Oper} {a : Act} {Q : Exit → Act → World → Prop} (hgd : o.guard = none) (s x : Operand)
  (ho : o.op = .call { callee := .builtin .append, args := #[s, x], argTypes := #[26, 26] })
  (base B : Nat) (v u : Value) (l m : List UInt8) (hs : a.eval s = v) (hx : a.eval x = u) (hown : OB w base v l) (hr : BS w B u m) (hlen : l.length + m.length ≤ 1099511627776) (hbase : base ≤ w.heap.size)
  (h : ∀ v' w', OB w' base v' (l ++ m) → w.grownBy w' v.ownBlock → Below base w w' → (v'.ownBlock = v.ownBlock ∨ v'.ownBlock = some w.heap.size) → wpList Tryz.prog ops Q rest (a.put o.dst v') w') :
  wpList Tryz.prog ops Q (o :: rest) a w := by
 refine wpList_plain hgd fun K hK => ?_
 obtain ⟨v', w', hrun, h2, h3, h4, h5⟩ := run_app w o.type hown hr hlen hbase
 unfold Oper.wp execOp
 simp only [ho, resolve, invoke, builtin, Sem.run_bind, Sem.run_pure, Result.andThen_ok, List.map_toArray, List.map_cons, List.map_nil, hs, hx, hrun]
 exact hK _ _ (h v' w' h2 h3 h4 h5)
def strB (l : List UInt8) : ByteArray := ⟨l.toArray⟩
theorem strB_toList (l : List UInt8) : (strB l).toList = l := by
 rw [ByteArray.toList_eq]
 rfl
theorem run_str {w : World} {B : Nat} {v : Value} {l : List UInt8} (h : BS w B v l) : (convert 26 9 v).run Tryz.prog w = .ok (.string (strB l)) w := by
 obtain ⟨A, c, rfl, h1, h2, h3⟩ := h
 rcases Nat.eq_zero_or_pos l.length with h0 | h0
 ·have hm : l = [] := List.eq_nil_of_length_eq_zero h0
  subst hm
  cases A with
  | none => exact run_convert_bytes_nil w 26 5 Tryz.underlying26 Tryz.underlying5 _ _ 9 Tryz.underlying9
  | some ad =>
   rw [run_convert_bytes_string w 26 9 5 _ _ c Tryz.underlying26 Tryz.underlying5 Tryz.underlying9,
    run_bytesToString w ad [].length c [] (by simp [loadCells, loadCellsFrom])]
   rfl
 ·obtain ⟨ad, rfl, _, hc⟩ := h3 h0
  have hl : (loadCells ad l.length).run Tryz.prog w = .ok ((l.map fun b => (b.toNat : Int)).map (Value.int .u8)).toArray w := by
   have := run_loadCells_list (P := Tryz.prog) w ad (vBs l) (fun j u hj => by
    unfold vBs at hj
    rw [List.getElem?_map] at hj
    cases hmj : l[j]? with
    | none => rw [hmj] at hj; cases hj
    | some b =>
     rw [hmj] at hj
     simp only [Option.map_some, Option.some.injEq] at hj
     subst hj
     exact hc j b hmj)
   have e : (l.map fun b => (b.toNat : Int)).map (Value.int .u8) = vBs l := by simp [vBs, vB]
   rw [e]
   simpa [vBs] using this
  rw [run_convert_bytes_string w 26 9 5 _ _ c Tryz.underlying26 Tryz.underlying5 Tryz.underlying9, run_bytesToString w ad _ c _ hl, foldl_push_bytes]
  congr 2
  simp [strB, Function.comp_def]
theorem Lh {p : Prop} (h : p) : Go.RowKit.Hid p := Lib.hid h
theorem bF {α : Type} [BEq α] [LawfulBEq α] {a b : α} (h : a ≠ b) : (a == b) = false := beq_eq_false_iff_ne.2 h
def vR (b : Int) : Value := .int .i32 b
def vRs (l : List Int) : List Value := l.map vR
def OR (w : World) (base : Nat) (v : Value) (l : List Int) : Prop := w.ownsRow base 21 1 v l.length (vRs l)
def RS (w : World) (B : Nat) (v : Value) (l : List Int) : Prop :=
 ∃ A c, v = .slice A l.length c ∧ l.length ≤ c ∧ c ≤ maxLen ∧
  (0 < l.length → ∃ ad, A = some ad ∧ ad.block < B ∧ ∀ j b, l[j]? = some b → w.cell? (ad.add j) = some (vR b))
theorem vRs_one (l : List Int) : ∀ u ∈ vRs l, u.oneCell' = true := by
 intro u hu
 unfold vRs at hu
 rw [List.mem_map] at hu
 obtain ⟨b, _, rfl⟩ := hu
 rfl
section
variable {w w' : World} {B B' base : Nat} {v : Value} {l : List Int}
theorem RS.keep (h : RS w B v l) (hk : ∀ p : Addr, p.block < B → w'.cell? p = w.cell? p) : RS w' B v l := by
 obtain ⟨A, c, hv, h1, h2, h3⟩ := h
 refine ⟨A, c, hv, h1, h2, fun hl => ?_⟩
 obtain ⟨ad, hA, hb, hc⟩ := h3 hl
 exact ⟨ad, hA, hb, fun j b hj => (hk _ (by rw [block_add]; exact hb)).trans (hc j b hj)⟩
theorem RS.below (h : RS w B v l) (hb : Below B w w') : RS w' B v l := h.keep fun _ hp => hb.cell hp
theorem RS.more (h : RS w B v l) (hB : B ≤ B') : RS w B' v l := by
 obtain ⟨A, c, hv, h1, h2, h3⟩ := h
 refine ⟨A, c, hv, h1, h2, fun hl => ?_⟩
 obtain ⟨ad, hA, hb, hc⟩ := h3 hl
 exact ⟨ad, hA, by omega, hc⟩
theorem RS.nil (w : World) (B : Nat) : RS w B (.slice none 0 0) [] := ⟨none, 0, rfl, by simp, by simp [maxLen], fun h => absurd h (by simp)⟩
theorem RS.at_ (h : RS w B v l) : ∃ A c, v = .slice A l.length c ∧ l.length ≤ c ∧ c ≤ maxLen ∧
  ∀ k (hk : k < l.length), ∃ ad, A = some ad ∧ w.cell? (ad.add k) = some (vR (l[k]'hk)) := by
 obtain ⟨A, c, hv, h1, h2, h3⟩ := h
 refine ⟨A, c, hv, h1, h2, fun k hk => ?_⟩
 obtain ⟨ad, hA, _, hc⟩ := h3 (by omega)
 exact ⟨ad, hA, hc k _ (List.getElem?_eq_getElem hk)⟩
theorem OR.nil (w : World) (base : Nat) : OR w base (.slice none 0 0) [] := World.ownsRow_nil w base _ _
theorem OR.bs (h : OR w base v l) : RS w w.heap.size v l := by
 unfold OR at h
 rcases h.2 with ⟨rfl, hn⟩ | ⟨g, cap, cur, rfl, hbg, hg, hnc, hcm, hcs, htake⟩
 ·have : l = [] := List.eq_nil_of_length_eq_zero hn
  subst this
  exact RS.nil w _
 ·have hlt : g < w.heap.size := by
   rcases Nat.lt_or_ge g w.heap.size with hh | hh
   ·exact hh
   ·rw [Array.getElem?_eq_none hh] at hg; cases hg
  refine ⟨_, cap, rfl, hnc, hcm, fun _ => ⟨_, rfl, hlt, fun j b hj => ?_⟩⟩
  refine h.cells (g := g) rfl j (vR b) ?_
  unfold vRs
  rw [List.getElem?_map, hj]; rfl
end
theorem RS.one (w : World) (b : Int) (t : TypeId) : RS (w.alloc (.cells #[vR b] t)) (w.heap.size + 1) (.slice (some ⟨w.heap.size, 0, none⟩) 1 1) [b] := by
 refine ⟨_, 1, rfl, by simp, by simp [maxLen], fun _ => ⟨_, rfl, by simp, fun j c hj => ?_⟩⟩
 match j, hj with
 | 0, hj =>
  simp at hj
  subst hj
  simp [Addr.add]
theorem OR.alloc {w : World} {base : Nat} {v : Value} {l : List Int} (h : OR w base v l) (o : Obj) : OR (w.alloc o) base v l := World.ownsRow.alloc h o
theorem runeInfo : (Tryz.prog.info? 21).map (fun i => (i.zero, i.size, i.bytes)) = some (some (.int .i32 0), 1, 4) := by kernel_rfl
theorem run_appR (w : World) (ty : TypeId) {base B : Nat} {v u : Value} {l m : List Int} (hown : OR w base v l) (hr : RS w B u m) (hlen : l.length + m.length ≤ 1099511627776) (hbase : base ≤ w.heap.size) :
  ∃ v' w', (Builtin.append_ #[110, 110] ty #[v, u]).run Tryz.prog w = .ok v' w' ∧ OR w' base v' (l ++ m) ∧ w.grownBy w' v.ownBlock ∧ Below base w w' ∧ (v'.ownBlock = v.ownBlock ∨ v'.ownBlock = some w.heap.size) := by
 obtain ⟨i0, hi0, hz0, hz1, hz2⟩ := info_parts runeInfo
 have hlt := World.ownsRow.lt hown
 have hfin : ∀ v' w', w'.ownsRow base 21 1 v' (l.length + m.length) (vRs l ++ vRs m) → OR w' base v' (l ++ m) := by
  intro v' w' h
  unfold OR vRs
  rw [List.length_append, List.map_append]
  exact h
 obtain ⟨A, c, rfl, h1, h2, h3⟩ := hr
 rcases Nat.eq_zero_or_pos m.length with h0 | h0
 ·have hm : m = [] := List.eq_nil_of_length_eq_zero h0
  subst hm
  refine ⟨v, w, ?_, by simpa using hown, World.grownBy.refl w _, Below.refl _ _, .inl rfl⟩
  rcases hown.2 with ⟨rfl, hn⟩ | ⟨g, cap, cur, rfl, _, _, hnc, _⟩
  ·cases A <;> simp [Builtin.append_, run_underlying Tryz.underlying110, sizeOf, typeInfo, hi0, Builtin.lenOf, Builtin.firstCells, loadCells, loadCellsFrom]
  ·cases A <;> simp [Builtin.append_, run_underlying Tryz.underlying110, sizeOf, typeInfo, hi0, Builtin.lenOf, Builtin.firstCells, hnc, storeCells, loadCells, loadCellsFrom]
 ·obtain ⟨ad, rfl, hb, hc⟩ := h3 h0
  obtain ⟨v', w', hrun, h4, h5, _, h6⟩ := run_append_own_at (P := Tryz.prog) w base 110 ty 21 i0 _ 1 4 Tryz.underlying110 hi0 hz0 hz1 hz2 rfl (by omega) v l.length (vRs l) hown ad m.length c (vRs m) (by simp [vRs])
   (fun j u hj => by
    unfold vRs at hj
    rw [List.getElem?_map] at hj
    cases hmj : m[j]? with
    | none => rw [hmj] at hj; cases hj
    | some b =>
     rw [hmj] at hj
     simp only [Option.map_some, Option.some.injEq] at hj
     subst hj
     exact hc j b hmj)
   (vRs_one m) (by simp only [maxLen]; omega) (by omega) hbase
  exact ⟨v', w', hrun, hfin v' w' h4, h5, (Below.refl _ _).grown h5 hbase (fun k hk => (hlt k hk).1), h6⟩
theorem wpl_appR (w : World) {ops : Array Oper} {rest : List Oper} {o : Oper} {a : Act} {Q : Exit → Act → World → Prop} (hgd : o.guard = none) (s x : Operand)
  (ho : o.op = .call { callee := .builtin .append, args := #[s, x], argTypes := #[110, 110] })
  (base B : Nat) (v u : Value) (l m : List Int) (hs : a.eval s = v) (hx : a.eval x = u) (hown : OR w base v l) (hr : RS w B u m) (hlen : l.length + m.length ≤ 1099511627776) (hbase : base ≤ w.heap.size)
  (h : ∀ v' w', OR w' base v' (l ++ m) → w.grownBy w' v.ownBlock → Below base w w' → (v'.ownBlock = v.ownBlock ∨ v'.ownBlock = some w.heap.size) → wpList Tryz.prog ops Q rest (a.put o.dst v') w') :
  wpList Tryz.prog ops Q (o :: rest) a w := by
 refine wpList_plain hgd fun K hK => ?_
 obtain ⟨v', w', hrun, h2, h3, h4, h5⟩ := run_appR w o.type hown hr hlen hbase
 unfold Oper.wp execOp
 simp only [ho, resolve, invoke, builtin, Sem.run_bind, Sem.run_pure, Result.andThen_ok, List.map_toArray, List.map_cons, List.map_nil, hs, hx, hrun]
 exact hK _ _ (h v' w' h2 h3 h4 h5)
theorem BS.cellC {w : World} {B n c : Nat} {A : Option Addr} {l : List UInt8} (h : BS w B (.slice A n c) l) (k : Nat) (hk : k < l.length) : ∃ ad, A = some ad ∧ w.cell? (ad.add k) = some (vB l[k]) := by
 obtain ⟨A', c', hv, _, _, h3⟩ := h.at_
 simp only [Value.slice.injEq] at hv
 obtain ⟨rfl, _, _⟩ := hv
 exact h3 k hk
theorem BS.blockC {w : World} {B n c : Nat} {ad : Addr} {l : List UInt8} (h : BS w B (.slice (some ad) n c) l) (hl : 0 < l.length) : ad.block < B := by
 obtain ⟨A', c', hv, _, _, h3⟩ := h
 simp only [Value.slice.injEq] at hv
 obtain ⟨hA, _, _⟩ := hv
 obtain ⟨ad', hA', hb, _⟩ := h3 hl
 rw [hA'] at hA
 injection hA with hA
 rw [hA]
 exact hb
section
variable {w : World} {base g n cap : Nat} {l : List UInt8}
end
theorem mayR_true {r : Int} (h0 : 0 ≤ r) (h1 : r ≤ 1114111) (h2 : r < 55296 ∨ 57343 < r) : mayR r = true := by simp [mayR, h0, h1, h2]
theorem mayR_false {r : Int} (h : r < 0 ∨ 1114111 < r ∨ (55296 ≤ r ∧ r ≤ 57343)) : mayR r = false := by
 rw [Bool.eq_false_iff]
 intro hh
 simp [mayR] at hh
 omega
theorem mayr_any (r : Int) (h0 : -2147483648 ≤ r) (h1 : r ≤ 2147483647) (w : World) : Calls Tryz.prog 89 #[.int .i32 r] w fun e w' => e = .returned (.bool (mayR r)) ∧ w = w' := by
 by_cases a1 : 0 ≤ r
 ·by_cases a2 : r ≤ 1114111
  ·by_cases a3 : r < 55296
   ·rw [mayR_true a1 a2 (.inl a3)]
    go_enter Tryz.func89, Tryz.ntmps89
    go_wp2
    go_ret
    exact ⟨rfl, rfl⟩
   ·have d3 : decide (r < 55296) = false := by simp; omega
    by_cases a4 : 57343 < r
    ·rw [mayR_true a1 a2 (.inr a4)]
     go_enter Tryz.func89, Tryz.ntmps89
     go_wp2
     go_ret
     exact ⟨rfl, rfl⟩
    ·have d4 : decide (57343 < r) = false := by simp; omega
     rw [mayR_false (.inr (.inr ⟨by omega, by omega⟩))]
     go_enter Tryz.func89, Tryz.ntmps89
     go_wp2
     go_ret
     exact ⟨rfl, rfl⟩
  ·have d2 : decide (r ≤ 1114111) = false := by simp; omega
   rw [mayR_false (.inr (.inl (by omega)))]
   go_enter Tryz.func89, Tryz.ntmps89
   go_wp2
   go_ret
   exact ⟨rfl, rfl⟩
 ·have d1 : decide (0 ≤ r) = false := by simp; omega
  rw [mayR_false (.inl (by omega))]
  go_enter Tryz.func89, Tryz.ntmps89
  go_wp2
  go_ret
  exact ⟨rfl, rfl⟩
theorem and192 : ∀ a : Nat, a < 256 → a &&& 192 = a / 64 * 64 := by decide +kernel
theorem and192_int (b : UInt8) : bits .and .u8 (b.toNat : Int) 192 = ((b.toNat / 64 * 64 : Nat) : Int) := by
 have := u8_and_nat b.toNat 192 b.toNat_lt (by omega)
 rw [and192 _ b.toNat_lt] at this
 exact this
theorem contB_yes (b : UInt8) (h : contB b = true) : ((bits .and .u8 (b.toNat : Int) 192) != 128) = false := by
 rw [and192_int]
 simp [contB] at h
 have : b.toNat / 64 * 64 = 128 := by omega
 rw [this]
 rfl
theorem contB_no (b : UInt8) (h : contB b = false) : ((bits .and .u8 (b.toNat : Int) 192) != 128) = true := by
 rw [and192_int]
 have h2 : ¬ (b.toNat / 64 * 64 = 128) := by
  intro e
  rw [Bool.eq_false_iff] at h
  apply h
  simp [contB]
  omega
 simp
 omega
theorem BS.lits {w : World} {B : Nat} {v : Value} {a : UInt8} {l : List UInt8} (h : BS w B v (a :: l)) : ∃ ad c, v = .slice (some ad) (a :: l).length c ∧ (a :: l).length ≤ c ∧ c ≤ maxLen ∧ w.cell? ad = some (.int .u8 (a.toNat : Int)) ∧ ∀ j b, l[j]? = some b → w.cell? ⟨ad.block, ad.off + (j + 1), none⟩ = some (.int .u8 (b.toNat : Int)) := by
 obtain ⟨A, c, rfl, h1, h2, h3⟩ := h
 obtain ⟨ad, rfl, _, hc⟩ := h3 (by simp)
 refine ⟨ad, c, rfl, h1, h2, ?_, fun j b hj => ?_⟩
 ·have := hc 0 a rfl
  rw [show ad.add 0 = ad from by simp [Addr.add]] at this
  exact this
 ·have := hc (j + 1) b (by simpa using hj)
  rw [show ad.add (j + 1) = ⟨ad.block, ad.off + (j + 1), none⟩ from by simp [Addr.add]] at this
  exact this
theorem lo_other (x : Nat) (h1 : x ≠ 224) (h2 : x ≠ 240) : loB x = 128 := by unfold loB; rw [if_neg h1, if_neg h2]
theorem hi_other (x : Nat) (h1 : x ≠ 237) (h2 : x ≠ 244) : hiB x = 191 := by unfold hiB; rw [if_neg h1, if_neg h2]
theorem beg1_iff (a : UInt8) : beginsL [a] = true ↔ 194 ≤ a.toNat ∧ a.toNat ≤ 244 := by simp [beginsL]
theorem beg2_iff (a b : UInt8) : beginsL [a, b] = true ↔ 224 ≤ a.toNat ∧ a.toNat ≤ 244 ∧ loB a.toNat ≤ b.toNat ∧ b.toNat ≤ hiB a.toNat := by simp [beginsL, secB, and_assoc]
theorem beg3_iff (a b c : UInt8) : beginsL [a, b, c] = true ↔ 240 ≤ a.toNat ∧ a.toNat ≤ 244 ∧ loB a.toNat ≤ b.toNat ∧ b.toNat ≤ hiB a.toNat ∧ contB c = true := by simp [beginsL, secB, and_assoc]
theorem lo_ge (x : Nat) : 128 ≤ loB x := by
 unfold loB
 split
 ·omega
 ·split <;> omega
theorem contB_iff (b : UInt8) : contB b = true ↔ 128 ≤ b.toNat ∧ b.toNat < 192 := by simp [contB]
theorem fin2 {a b : UInt8} {x L H : Nat} (ha : a.toNat = x) (h0 : 224 ≤ x) (h1 : x ≤ 244) (hL : loB x = L) (hH : hiB x = H) (hb : L ≤ b.toNat) : decide ((b.toNat : Int) ≤ (H : Int)) = beginsL [a, b] := by
 rw [Bool.eq_iff_iff, beg2_iff, ha, hL, hH, decide_eq_true_eq]
 omega
theorem fin2n {a b : UInt8} {x L : Nat} (ha : a.toNat = x) (hL : loB x = L) (hb : b.toNat < L) : false = beginsL [a, b] := by
 rw [Bool.eq_iff_iff, beg2_iff, ha, hL]
 simp
 omega
theorem fin3 {a b c : UInt8} {x L H : Nat} (ha : a.toNat = x) (h0 : 240 ≤ x) (h1 : x ≤ 244) (hL : loB x = L) (hH : hiB x = H) (hc : contB c = true) (hb : L ≤ b.toNat) : decide ((b.toNat : Int) ≤ (H : Int)) = beginsL [a, b, c] := by
 rw [Bool.eq_iff_iff, beg3_iff, ha, hL, hH, decide_eq_true_eq]
 simp only [hc, and_true]
 omega
theorem fin3n {a b c : UInt8} {x L : Nat} (ha : a.toNat = x) (hL : loB x = L) (hb : b.toNat < L) : false = beginsL [a, b, c] := by
 rw [Bool.eq_iff_iff, beg3_iff, ha, hL]
 simp
 omega
theorem nocont2 {a b : UInt8} (h : contB b = false) : false = beginsL [a, b] := by
 cases hh : beginsL [a, b]
 ·rfl
 ·rw [beg2_iff] at hh
  have h1 := lo_ge a.toNat
  have h2 := hiB_le a.toNat
  rw [(contB_iff b).2 (by omega)] at h
  cases h
theorem nocont3 {a b c : UInt8} (h : contB b = false) : false = beginsL [a, b, c] := by
 cases hh : beginsL [a, b, c]
 ·rfl
 ·rw [beg3_iff] at hh
  have h1 := lo_ge a.toNat
  have h2 := hiB_le a.toNat
  rw [(contB_iff b).2 (by omega)] at h
  cases h
theorem nocont3c {a b c : UInt8} (h : contB c = false) : false = beginsL [a, b, c] := by
 cases hh : beginsL [a, b, c]
 ·rfl
 ·rw [beg3_iff, h] at hh
  simp at hh
def BegPost (l : List UInt8) (w : World) (e : Ending) (w' : World) : Prop := e = .returned (.bool (beginsL l)) ∧ w = w'
theorem begPost_of {l : List UInt8} {w : World} {b : Bool} (h : b = beginsL l) : BegPost l w (.returned (.bool b)) w := ⟨by rw [h], rfl⟩
def Beg2 (b : UInt8) (i : Value) : Prop := ∃ k : Nat, i = .int .i64 (k : Int) ∧ (k = 1 ∨ (k = 2 ∧ contB b = true))
def Beg3 (b c : UInt8) (i : Value) : Prop := ∃ k : Nat, i = .int .i64 (k : Int) ∧ (k = 1 ∨ (k = 2 ∧ contB b = true) ∨ (k = 3 ∧ contB b = true ∧ contB c = true))
theorem begr2_224 (ad : Addr) (cp : Nat) (a b : UInt8) (x : Nat) (w : World) (ca : w.cell? ad = some (.int .u8 (x : Int))) (cb : w.cell? ⟨ad.block, ad.off + 1, none⟩ = some (.int .u8 (b.toNat : Int))) (HX : Hid (a.toNat = x)) (hx : x = 224) :
  Calls Tryz.prog 87 #[.slice (some ad) 2 cp] w (BegPost [a, b] w) := by
 subst hx
 have HL : Hid (loB 224 = 160) := rfl
 have HH : Hid (hiB 224 = 191) := rfl
 have y1 := b.toNat_lt
 go_enter Tryz.func87, Tryz.ntmps87
 go_wp2
 go_loop [4] (fun i => Beg2 b i) (fun i => 2 - (intOf i).toNat)
 case atStart => exact ⟨1, rfl, .inl rfl⟩
 case round =>
  obtain ⟨k, rfl, hk⟩ := hrel
  rcases hk with rfl | ⟨rfl, hcb⟩
  ·cases hcb : contB b
   ·have e1 := contB_no b hcb
    have HC := Lh hcb
    clear hcb
    go_wp2
    go_ret
    exact begPost_of (nocont2 HC.out)
   ·have e1 := contB_yes b hcb
    have HC := Lh hcb
    clear hcb
    go_wp2
    go_round
    case rel => exact ⟨2, rfl, .inr ⟨rfl, HC.out⟩⟩
    case measure => simp [intOf]
  ·have HC := Lh hcb
   clear hcb
   by_cases hb : 160 ≤ b.toNat
   ·have hb' : (160 : Int) ≤ (b.toNat : Int) := by omega
    go_wp2
    go_ret
    exact begPost_of (fin2 HX.out (by omega) (by omega) HL.out HH.out hb)
   ·have hb' : decide ((160 : Int) ≤ (b.toNat : Int)) = false := by simp; omega
    go_wp2
    go_ret
    exact begPost_of (fin2n HX.out HL.out (by omega))
theorem begr2_237 (ad : Addr) (cp : Nat) (a b : UInt8) (x : Nat) (w : World) (ca : w.cell? ad = some (.int .u8 (x : Int))) (cb : w.cell? ⟨ad.block, ad.off + 1, none⟩ = some (.int .u8 (b.toNat : Int))) (HX : Hid (a.toNat = x)) (hx : x = 237) :
  Calls Tryz.prog 87 #[.slice (some ad) 2 cp] w (BegPost [a, b] w) := by
 subst hx
 have HL : Hid (loB 237 = 128) := rfl
 have HH : Hid (hiB 237 = 159) := rfl
 have y1 := b.toNat_lt
 go_enter Tryz.func87, Tryz.ntmps87
 go_wp2
 go_loop [4] (fun i => Beg2 b i) (fun i => 2 - (intOf i).toNat)
 case atStart => exact ⟨1, rfl, .inl rfl⟩
 case round =>
  obtain ⟨k, rfl, hk⟩ := hrel
  rcases hk with rfl | ⟨rfl, hcb⟩
  ·cases hcb : contB b
   ·have e1 := contB_no b hcb
    have HC := Lh hcb
    clear hcb
    go_wp2
    go_ret
    exact begPost_of (nocont2 HC.out)
   ·have e1 := contB_yes b hcb
    have HC := Lh hcb
    clear hcb
    go_wp2
    go_round
    case rel => exact ⟨2, rfl, .inr ⟨rfl, HC.out⟩⟩
    case measure => simp [intOf]
  ·have HC := Lh hcb
   clear hcb
   by_cases hb : 128 ≤ b.toNat
   ·have hb' : (128 : Int) ≤ (b.toNat : Int) := by omega
    go_wp2
    go_ret
    exact begPost_of (fin2 HX.out (by omega) (by omega) HL.out HH.out hb)
   ·have hb' : decide ((128 : Int) ≤ (b.toNat : Int)) = false := by simp; omega
    go_wp2
    go_ret
    exact begPost_of (fin2n HX.out HL.out (by omega))
theorem begr2_240 (ad : Addr) (cp : Nat) (a b : UInt8) (x : Nat) (w : World) (ca : w.cell? ad = some (.int .u8 (x : Int))) (cb : w.cell? ⟨ad.block, ad.off + 1, none⟩ = some (.int .u8 (b.toNat : Int))) (HX : Hid (a.toNat = x)) (hx : x = 240) :
  Calls Tryz.prog 87 #[.slice (some ad) 2 cp] w (BegPost [a, b] w) := by
 subst hx
 have HL : Hid (loB 240 = 144) := rfl
 have HH : Hid (hiB 240 = 191) := rfl
 have y1 := b.toNat_lt
 go_enter Tryz.func87, Tryz.ntmps87
 go_wp2
 go_loop [4] (fun i => Beg2 b i) (fun i => 2 - (intOf i).toNat)
 case atStart => exact ⟨1, rfl, .inl rfl⟩
 case round =>
  obtain ⟨k, rfl, hk⟩ := hrel
  rcases hk with rfl | ⟨rfl, hcb⟩
  ·cases hcb : contB b
   ·have e1 := contB_no b hcb
    have HC := Lh hcb
    clear hcb
    go_wp2
    go_ret
    exact begPost_of (nocont2 HC.out)
   ·have e1 := contB_yes b hcb
    have HC := Lh hcb
    clear hcb
    go_wp2
    go_round
    case rel => exact ⟨2, rfl, .inr ⟨rfl, HC.out⟩⟩
    case measure => simp [intOf]
  ·have HC := Lh hcb
   clear hcb
   by_cases hb : 144 ≤ b.toNat
   ·have hb' : (144 : Int) ≤ (b.toNat : Int) := by omega
    go_wp2
    go_ret
    exact begPost_of (fin2 HX.out (by omega) (by omega) HL.out HH.out hb)
   ·have hb' : decide ((144 : Int) ≤ (b.toNat : Int)) = false := by simp; omega
    go_wp2
    go_ret
    exact begPost_of (fin2n HX.out HL.out (by omega))
theorem begr2_244 (ad : Addr) (cp : Nat) (a b : UInt8) (x : Nat) (w : World) (ca : w.cell? ad = some (.int .u8 (x : Int))) (cb : w.cell? ⟨ad.block, ad.off + 1, none⟩ = some (.int .u8 (b.toNat : Int))) (HX : Hid (a.toNat = x)) (hx : x = 244) :
  Calls Tryz.prog 87 #[.slice (some ad) 2 cp] w (BegPost [a, b] w) := by
 subst hx
 have HL : Hid (loB 244 = 128) := rfl
 have HH : Hid (hiB 244 = 143) := rfl
 have y1 := b.toNat_lt
 go_enter Tryz.func87, Tryz.ntmps87
 go_wp2
 go_loop [4] (fun i => Beg2 b i) (fun i => 2 - (intOf i).toNat)
 case atStart => exact ⟨1, rfl, .inl rfl⟩
 case round =>
  obtain ⟨k, rfl, hk⟩ := hrel
  rcases hk with rfl | ⟨rfl, hcb⟩
  ·cases hcb : contB b
   ·have e1 := contB_no b hcb
    have HC := Lh hcb
    clear hcb
    go_wp2
    go_ret
    exact begPost_of (nocont2 HC.out)
   ·have e1 := contB_yes b hcb
    have HC := Lh hcb
    clear hcb
    go_wp2
    go_round
    case rel => exact ⟨2, rfl, .inr ⟨rfl, HC.out⟩⟩
    case measure => simp [intOf]
  ·have HC := Lh hcb
   clear hcb
   by_cases hb : 128 ≤ b.toNat
   ·have hb' : (128 : Int) ≤ (b.toNat : Int) := by omega
    go_wp2
    go_ret
    exact begPost_of (fin2 HX.out (by omega) (by omega) HL.out HH.out hb)
   ·have hb' : decide ((128 : Int) ≤ (b.toNat : Int)) = false := by simp; omega
    go_wp2
    go_ret
    exact begPost_of (fin2n HX.out HL.out (by omega))
theorem begr2_o3 (ad : Addr) (cp : Nat) (a b : UInt8) (x : Nat) (w : World) (ca : w.cell? ad = some (.int .u8 (x : Int))) (cb : w.cell? ⟨ad.block, ad.off + 1, none⟩ = some (.int .u8 (b.toNat : Int))) (HX : Hid (a.toNat = x)) (hx0 : 224 < x) (hx1 : x < 240) (hx2 : x ≠ 237) :
  Calls Tryz.prog 87 #[.slice (some ad) 2 cp] w (BegPost [a, b] w) := by
 have HL : Hid (loB x = 128) := lo_other x (by omega) (by omega)
 have HH : Hid (hiB x = 191) := hi_other x (by omega) (by omega)
 have d3 : decide ((x : Int) < 194) = false := by simp; omega
 have d4 : decide (244 < (x : Int)) = false := by simp; omega
 have r1 : 224 ≤ (x : Int) := by omega
 have r2 : decide (240 ≤ (x : Int)) = false := by simp; omega
 have e224 : ((x : Int) == 224) = false := bF (by omega)
 have e237 : ((x : Int) == 237) = false := bF (by omega)
 have e240 : ((x : Int) == 240) = false := bF (by omega)
 have e244 : ((x : Int) == 244) = false := bF (by omega)
 clear hx2
 have y1 := b.toNat_lt
 go_enter Tryz.func87, Tryz.ntmps87
 go_wp2
 go_loop [4] (fun i => Beg2 b i) (fun i => 2 - (intOf i).toNat)
 case atStart => exact ⟨1, rfl, .inl rfl⟩
 case round =>
  obtain ⟨k, rfl, hk⟩ := hrel
  rcases hk with rfl | ⟨rfl, hcb⟩
  ·cases hcb : contB b
   ·have e1 := contB_no b hcb
    have HC := Lh hcb
    clear hcb
    go_wp2
    go_ret
    exact begPost_of (nocont2 HC.out)
   ·have e1 := contB_yes b hcb
    have HC := Lh hcb
    clear hcb
    go_wp2
    go_round
    case rel => exact ⟨2, rfl, .inr ⟨rfl, HC.out⟩⟩
    case measure => simp [intOf]
  ·have HC := Lh hcb
   clear hcb
   by_cases hb : 128 ≤ b.toNat
   ·have hb' : (128 : Int) ≤ (b.toNat : Int) := by omega
    go_wp2
    go_ret
    exact begPost_of (fin2 HX.out (by omega) (by omega) HL.out HH.out hb)
   ·have hb' : decide ((128 : Int) ≤ (b.toNat : Int)) = false := by simp; omega
    go_wp2
    go_ret
    exact begPost_of (fin2n HX.out HL.out (by omega))
theorem begr2_o4 (ad : Addr) (cp : Nat) (a b : UInt8) (x : Nat) (w : World) (ca : w.cell? ad = some (.int .u8 (x : Int))) (cb : w.cell? ⟨ad.block, ad.off + 1, none⟩ = some (.int .u8 (b.toNat : Int))) (HX : Hid (a.toNat = x)) (hx0 : 240 < x) (hx1 : x < 244) :
  Calls Tryz.prog 87 #[.slice (some ad) 2 cp] w (BegPost [a, b] w) := by
 have HL : Hid (loB x = 128) := lo_other x (by omega) (by omega)
 have HH : Hid (hiB x = 191) := hi_other x (by omega) (by omega)
 have d3 : decide ((x : Int) < 194) = false := by simp; omega
 have d4 : decide (244 < (x : Int)) = false := by simp; omega
 have r1 : 224 ≤ (x : Int) := by omega
 have r2 : 240 ≤ (x : Int) := by omega
 have e224 : ((x : Int) == 224) = false := bF (by omega)
 have e237 : ((x : Int) == 237) = false := bF (by omega)
 have e240 : ((x : Int) == 240) = false := bF (by omega)
 have e244 : ((x : Int) == 244) = false := bF (by omega)
 have y1 := b.toNat_lt
 go_enter Tryz.func87, Tryz.ntmps87
 go_wp2
 go_loop [4] (fun i => Beg2 b i) (fun i => 2 - (intOf i).toNat)
 case atStart => exact ⟨1, rfl, .inl rfl⟩
 case round =>
  obtain ⟨k, rfl, hk⟩ := hrel
  rcases hk with rfl | ⟨rfl, hcb⟩
  ·cases hcb : contB b
   ·have e1 := contB_no b hcb
    have HC := Lh hcb
    clear hcb
    go_wp2
    go_ret
    exact begPost_of (nocont2 HC.out)
   ·have e1 := contB_yes b hcb
    have HC := Lh hcb
    clear hcb
    go_wp2
    go_round
    case rel => exact ⟨2, rfl, .inr ⟨rfl, HC.out⟩⟩
    case measure => simp [intOf]
  ·have HC := Lh hcb
   clear hcb
   by_cases hb : 128 ≤ b.toNat
   ·have hb' : (128 : Int) ≤ (b.toNat : Int) := by omega
    go_wp2
    go_ret
    exact begPost_of (fin2 HX.out (by omega) (by omega) HL.out HH.out hb)
   ·have hb' : decide ((128 : Int) ≤ (b.toNat : Int)) = false := by simp; omega
    go_wp2
    go_ret
    exact begPost_of (fin2n HX.out HL.out (by omega))
theorem begr3_240 (ad : Addr) (cp : Nat) (a b c : UInt8) (x : Nat) (w : World) (ca : w.cell? ad = some (.int .u8 (x : Int))) (cb : w.cell? ⟨ad.block, ad.off + 1, none⟩ = some (.int .u8 (b.toNat : Int))) (cc : w.cell? ⟨ad.block, ad.off + 2, none⟩ = some (.int .u8 (c.toNat : Int))) (HX : Hid (a.toNat = x)) (hx : x = 240) :
  Calls Tryz.prog 87 #[.slice (some ad) 3 cp] w (BegPost [a, b, c] w) := by
 subst hx
 have HL : Hid (loB 240 = 144) := rfl
 have HH : Hid (hiB 240 = 191) := rfl
 have y1 := b.toNat_lt
 go_enter Tryz.func87, Tryz.ntmps87
 go_wp2
 go_loop [4] (fun i => Beg3 b c i) (fun i => 3 - (intOf i).toNat)
 case atStart => exact ⟨1, rfl, .inl rfl⟩
 case round =>
  obtain ⟨k, rfl, hk⟩ := hrel
  rcases hk with rfl | ⟨rfl, hcb⟩ | ⟨rfl, hcb, hcc⟩
  ·cases hcb : contB b
   ·have e1 := contB_no b hcb
    have HC := Lh hcb
    clear hcb
    go_wp2
    go_ret
    exact begPost_of (nocont3 HC.out)
   ·have e1 := contB_yes b hcb
    have HC := Lh hcb
    clear hcb
    go_wp2
    go_round
    case rel => exact ⟨2, rfl, .inr (.inl ⟨rfl, HC.out⟩)⟩
    case measure => simp [intOf]
  ·have HC := Lh hcb
   clear hcb
   cases hcc : contB c
   ·have e1 := contB_no c hcc
    have HD := Lh hcc
    clear hcc
    go_wp2
    go_ret
    exact begPost_of (nocont3c HD.out)
   ·have e1 := contB_yes c hcc
    have HD := Lh hcc
    clear hcc
    go_wp2
    go_round
    case rel => exact ⟨3, rfl, .inr (.inr ⟨rfl, HC.out, HD.out⟩)⟩
    case measure => simp [intOf]
  ·have HC := Lh hcb
   have HD := Lh hcc
   clear hcb hcc
   by_cases hb : 144 ≤ b.toNat
   ·have hb' : (144 : Int) ≤ (b.toNat : Int) := by omega
    go_wp2
    go_ret
    exact begPost_of (fin3 HX.out (by omega) (by omega) HL.out HH.out HD.out hb)
   ·have hb' : decide ((144 : Int) ≤ (b.toNat : Int)) = false := by simp; omega
    go_wp2
    go_ret
    exact begPost_of (fin3n HX.out HL.out (by omega))
theorem begr3_244 (ad : Addr) (cp : Nat) (a b c : UInt8) (x : Nat) (w : World) (ca : w.cell? ad = some (.int .u8 (x : Int))) (cb : w.cell? ⟨ad.block, ad.off + 1, none⟩ = some (.int .u8 (b.toNat : Int))) (cc : w.cell? ⟨ad.block, ad.off + 2, none⟩ = some (.int .u8 (c.toNat : Int))) (HX : Hid (a.toNat = x)) (hx : x = 244) :
  Calls Tryz.prog 87 #[.slice (some ad) 3 cp] w (BegPost [a, b, c] w) := by
 subst hx
 have HL : Hid (loB 244 = 128) := rfl
 have HH : Hid (hiB 244 = 143) := rfl
 have y1 := b.toNat_lt
 go_enter Tryz.func87, Tryz.ntmps87
 go_wp2
 go_loop [4] (fun i => Beg3 b c i) (fun i => 3 - (intOf i).toNat)
 case atStart => exact ⟨1, rfl, .inl rfl⟩
 case round =>
  obtain ⟨k, rfl, hk⟩ := hrel
  rcases hk with rfl | ⟨rfl, hcb⟩ | ⟨rfl, hcb, hcc⟩
  ·cases hcb : contB b
   ·have e1 := contB_no b hcb
    have HC := Lh hcb
    clear hcb
    go_wp2
    go_ret
    exact begPost_of (nocont3 HC.out)
   ·have e1 := contB_yes b hcb
    have HC := Lh hcb
    clear hcb
    go_wp2
    go_round
    case rel => exact ⟨2, rfl, .inr (.inl ⟨rfl, HC.out⟩)⟩
    case measure => simp [intOf]
  ·have HC := Lh hcb
   clear hcb
   cases hcc : contB c
   ·have e1 := contB_no c hcc
    have HD := Lh hcc
    clear hcc
    go_wp2
    go_ret
    exact begPost_of (nocont3c HD.out)
   ·have e1 := contB_yes c hcc
    have HD := Lh hcc
    clear hcc
    go_wp2
    go_round
    case rel => exact ⟨3, rfl, .inr (.inr ⟨rfl, HC.out, HD.out⟩)⟩
    case measure => simp [intOf]
  ·have HC := Lh hcb
   have HD := Lh hcc
   clear hcb hcc
   by_cases hb : 128 ≤ b.toNat
   ·have hb' : (128 : Int) ≤ (b.toNat : Int) := by omega
    go_wp2
    go_ret
    exact begPost_of (fin3 HX.out (by omega) (by omega) HL.out HH.out HD.out hb)
   ·have hb' : decide ((128 : Int) ≤ (b.toNat : Int)) = false := by simp; omega
    go_wp2
    go_ret
    exact begPost_of (fin3n HX.out HL.out (by omega))
theorem begr3_o4 (ad : Addr) (cp : Nat) (a b c : UInt8) (x : Nat) (w : World) (ca : w.cell? ad = some (.int .u8 (x : Int))) (cb : w.cell? ⟨ad.block, ad.off + 1, none⟩ = some (.int .u8 (b.toNat : Int))) (cc : w.cell? ⟨ad.block, ad.off + 2, none⟩ = some (.int .u8 (c.toNat : Int))) (HX : Hid (a.toNat = x)) (hx0 : 240 < x) (hx1 : x < 244) :
  Calls Tryz.prog 87 #[.slice (some ad) 3 cp] w (BegPost [a, b, c] w) := by
 have HL : Hid (loB x = 128) := lo_other x (by omega) (by omega)
 have HH : Hid (hiB x = 191) := hi_other x (by omega) (by omega)
 have d3 : decide ((x : Int) < 194) = false := by simp; omega
 have d4 : decide (244 < (x : Int)) = false := by simp; omega
 have r1 : 224 ≤ (x : Int) := by omega
 have r2 : 240 ≤ (x : Int) := by omega
 have e224 : ((x : Int) == 224) = false := bF (by omega)
 have e237 : ((x : Int) == 237) = false := bF (by omega)
 have e240 : ((x : Int) == 240) = false := bF (by omega)
 have e244 : ((x : Int) == 244) = false := bF (by omega)
 have y1 := b.toNat_lt
 go_enter Tryz.func87, Tryz.ntmps87
 go_wp2
 go_loop [4] (fun i => Beg3 b c i) (fun i => 3 - (intOf i).toNat)
 case atStart => exact ⟨1, rfl, .inl rfl⟩
 case round =>
  obtain ⟨k, rfl, hk⟩ := hrel
  rcases hk with rfl | ⟨rfl, hcb⟩ | ⟨rfl, hcb, hcc⟩
  ·cases hcb : contB b
   ·have e1 := contB_no b hcb
    have HC := Lh hcb
    clear hcb
    go_wp2
    go_ret
    exact begPost_of (nocont3 HC.out)
   ·have e1 := contB_yes b hcb
    have HC := Lh hcb
    clear hcb
    go_wp2
    go_round
    case rel => exact ⟨2, rfl, .inr (.inl ⟨rfl, HC.out⟩)⟩
    case measure => simp [intOf]
  ·have HC := Lh hcb
   clear hcb
   cases hcc : contB c
   ·have e1 := contB_no c hcc
    have HD := Lh hcc
    clear hcc
    go_wp2
    go_ret
    exact begPost_of (nocont3c HD.out)
   ·have e1 := contB_yes c hcc
    have HD := Lh hcc
    clear hcc
    go_wp2
    go_round
    case rel => exact ⟨3, rfl, .inr (.inr ⟨rfl, HC.out, HD.out⟩)⟩
    case measure => simp [intOf]
  ·have HC := Lh hcb
   have HD := Lh hcc
   clear hcb hcc
   by_cases hb : 128 ≤ b.toNat
   ·have hb' : (128 : Int) ≤ (b.toNat : Int) := by omega
    go_wp2
    go_ret
    exact begPost_of (fin3 HX.out (by omega) (by omega) HL.out HH.out HD.out hb)
   ·have hb' : decide ((128 : Int) ≤ (b.toNat : Int)) = false := by simp; omega
    go_wp2
    go_ret
    exact begPost_of (fin3n HX.out HL.out (by omega))
theorem begr1_2 (ad : Addr) (cp : Nat) (a : UInt8) (x : Nat) (w : World) (ca : w.cell? ad = some (.int .u8 (x : Int))) (HX : Hid (a.toNat = x)) (hx0 : 194 ≤ x) (hx1 : x < 224) :
  Calls Tryz.prog 87 #[.slice (some ad) 1 cp] w (BegPost [a] w) := by
 have d3 : decide ((x : Int) < 194) = false := by simp; omega
 have d4 : decide (244 < (x : Int)) = false := by simp; omega
 have r1 : decide (224 ≤ (x : Int)) = false := by simp; omega
 have r2 : decide (240 ≤ (x : Int)) = false := by simp; omega
 go_enter Tryz.func87, Tryz.ntmps87
 go_wp2
 go_loop [4] (fun i => i = .int .i64 1) (fun i => 1 - (intOf i).toNat)
 case atStart => rfl
 case round =>
  obtain rfl := hrel
  go_wp2
  go_ret
  exact begPost_of (((beg1_iff a).2 (by rw [HX.out]; omega)).symm)
theorem begr1_3 (ad : Addr) (cp : Nat) (a : UInt8) (x : Nat) (w : World) (ca : w.cell? ad = some (.int .u8 (x : Int))) (HX : Hid (a.toNat = x)) (hx0 : 224 ≤ x) (hx1 : x < 240) :
  Calls Tryz.prog 87 #[.slice (some ad) 1 cp] w (BegPost [a] w) := by
 have d3 : decide ((x : Int) < 194) = false := by simp; omega
 have d4 : decide (244 < (x : Int)) = false := by simp; omega
 have r1 : 224 ≤ (x : Int) := by omega
 have r2 : decide (240 ≤ (x : Int)) = false := by simp; omega
 go_enter Tryz.func87, Tryz.ntmps87
 go_wp2
 go_loop [4] (fun i => i = .int .i64 1) (fun i => 1 - (intOf i).toNat)
 case atStart => rfl
 case round =>
  obtain rfl := hrel
  go_wp2
  go_ret
  exact begPost_of (((beg1_iff a).2 (by rw [HX.out]; omega)).symm)
theorem begr1_4 (ad : Addr) (cp : Nat) (a : UInt8) (x : Nat) (w : World) (ca : w.cell? ad = some (.int .u8 (x : Int))) (HX : Hid (a.toNat = x)) (hx0 : 240 ≤ x) (hx1 : x ≤ 244) :
  Calls Tryz.prog 87 #[.slice (some ad) 1 cp] w (BegPost [a] w) := by
 have d3 : decide ((x : Int) < 194) = false := by simp; omega
 have d4 : decide (244 < (x : Int)) = false := by simp; omega
 have r1 : 224 ≤ (x : Int) := by omega
 have r2 : 240 ≤ (x : Int) := by omega
 go_enter Tryz.func87, Tryz.ntmps87
 go_wp2
 go_loop [4] (fun i => i = .int .i64 1) (fun i => 1 - (intOf i).toNat)
 case atStart => rfl
 case round =>
  obtain rfl := hrel
  go_wp2
  go_ret
  exact begPost_of (((beg1_iff a).2 (by rw [HX.out]; omega)).symm)
theorem begr_low (ad : Addr) (cp n : Nat) (l : List UInt8) (x : Nat) (w : World) (ca : w.cell? ad = some (.int .u8 (x : Int))) (hf : beginsL l = false) (hn : 1 ≤ n) (hn3 : n ≤ 3) (hx : x < 194) :
  Calls Tryz.prog 87 #[.slice (some ad) n cp] w (BegPost l w) := by
 have HF := Lh hf
 clear hf
 have l1 : decide ((n : Int) < 1) = false := by simp; omega
 have l2 : decide (3 < (n : Int)) = false := by simp; omega
 have l3 : 0 < n := by omega
 have d3 : (x : Int) < 194 := by omega
 go_enter Tryz.func87, Tryz.ntmps87
 go_wp2
 go_ret
 exact begPost_of HF.out.symm
theorem begr_high (ad : Addr) (cp n : Nat) (l : List UInt8) (x : Nat) (w : World) (ca : w.cell? ad = some (.int .u8 (x : Int))) (hf : beginsL l = false) (hn : 1 ≤ n) (hn3 : n ≤ 3) (hx : 244 < x) :
  Calls Tryz.prog 87 #[.slice (some ad) n cp] w (BegPost l w) := by
 have HF := Lh hf
 clear hf
 have l1 : decide ((n : Int) < 1) = false := by simp; omega
 have l2 : decide (3 < (n : Int)) = false := by simp; omega
 have l3 : 0 < n := by omega
 have d3 : decide ((x : Int) < 194) = false := by simp; omega
 have d4 : 244 < (x : Int) := by omega
 go_enter Tryz.func87, Tryz.ntmps87
 go_wp2
 go_ret
 exact begPost_of HF.out.symm
theorem begr_2 (ad : Addr) (cp n : Nat) (l : List UInt8) (x : Nat) (w : World) (ca : w.cell? ad = some (.int .u8 (x : Int))) (hf : beginsL l = false) (hn : 1 ≤ n) (hn3 : n ≤ 3) (hx0 : 194 ≤ x) (hx1 : x < 224) (hn2 : 2 ≤ n) :
  Calls Tryz.prog 87 #[.slice (some ad) n cp] w (BegPost l w) := by
 have HF := Lh hf
 clear hf
 have l1 : decide ((n : Int) < 1) = false := by simp; omega
 have l2 : decide (3 < (n : Int)) = false := by simp; omega
 have l3 : 0 < n := by omega
 have d3 : decide ((x : Int) < 194) = false := by simp; omega
 have d4 : decide (244 < (x : Int)) = false := by simp; omega
 have r1 : decide (224 ≤ (x : Int)) = false := by simp; omega
 have r2 : decide (240 ≤ (x : Int)) = false := by simp; omega
 have l4 : (2 : Int) ≤ (n : Int) := by omega
 go_enter Tryz.func87, Tryz.ntmps87
 go_wp2
 go_ret
 exact begPost_of HF.out.symm
theorem begr_3 (ad : Addr) (cp n : Nat) (l : List UInt8) (x : Nat) (w : World) (ca : w.cell? ad = some (.int .u8 (x : Int))) (hf : beginsL l = false) (hn : 1 ≤ n) (hn3 : n ≤ 3) (hx0 : 224 ≤ x) (hx1 : x < 240) (hn2 : 3 ≤ n) :
  Calls Tryz.prog 87 #[.slice (some ad) n cp] w (BegPost l w) := by
 have HF := Lh hf
 clear hf
 have l1 : decide ((n : Int) < 1) = false := by simp; omega
 have l2 : decide (3 < (n : Int)) = false := by simp; omega
 have l3 : 0 < n := by omega
 have d3 : decide ((x : Int) < 194) = false := by simp; omega
 have d4 : decide (244 < (x : Int)) = false := by simp; omega
 have r1 : 224 ≤ (x : Int) := by omega
 have r2 : decide (240 ≤ (x : Int)) = false := by simp; omega
 have l4 : (3 : Int) ≤ (n : Int) := by omega
 go_enter Tryz.func87, Tryz.ntmps87
 go_wp2
 go_ret
 exact begPost_of HF.out.symm
theorem begr_nil (A : Option Addr) (cp : Nat) (w : World) : Calls Tryz.prog 87 #[.slice A 0 cp] w (BegPost [] w) := by
 go_enter Tryz.func87, Tryz.ntmps87
 go_wp2
 go_ret
 exact begPost_of rfl
theorem begr_long (A : Option Addr) (cp n : Nat) (l : List UInt8) (w : World) (hf : beginsL l = false) (hn : 4 ≤ n) : Calls Tryz.prog 87 #[.slice A n cp] w (BegPost l w) := by
 have HF := Lh hf
 clear hf
 have l1 : decide ((n : Int) < 1) = false := by simp; omega
 have l2 : 3 < (n : Int) := by omega
 go_enter Tryz.func87, Tryz.ntmps87
 go_wp2
 go_ret
 exact begPost_of HF.out.symm
theorem beginsr_any (v : Value) (l : List UInt8) (B : Nat) (w : World) (hv : BS w B v l) : Calls Tryz.prog 87 #[v] w fun e w' => e = .returned (.bool (beginsL l)) ∧ w = w' := by
 show Calls Tryz.prog 87 #[v] w (BegPost l w)
 match l, hv with
 | [], hv =>
  obtain ⟨A, c, rfl, _⟩ := hv
  exact begr_nil A c w
 | a :: l, hv =>
  obtain ⟨ad, cp, rfl, _, _, ca, hcs⟩ := hv.lits
  obtain ⟨x, hx⟩ : ∃ x, a.toNat = x := ⟨_, rfl⟩
  have hx1 : x < 256 := by rw [← hx]; exact a.toNat_lt
  rw [hx] at ca
  have HX : Hid (a.toNat = x) := hx
  match l, hcs with
  | [], hcs =>
   by_cases h0 : x < 194
   ·exact begr_low ad cp 1 [a] x w ca (by rw [← Bool.not_eq_true, beg1_iff]; omega) (by omega) (by omega) h0
   by_cases h1 : x < 224
   ·exact begr1_2 ad cp a x w ca HX (by omega) h1
   by_cases h2 : x < 240
   ·exact begr1_3 ad cp a x w ca HX (by omega) h2
   by_cases h3 : x ≤ 244
   ·exact begr1_4 ad cp a x w ca HX (by omega) h3
   ·exact begr_high ad cp 1 [a] x w ca (by rw [← Bool.not_eq_true, beg1_iff]; omega) (by omega) (by omega) (by omega)
  | [b], hcs =>
   have cb := hcs 0 b rfl
   by_cases h0 : x < 194
   ·exact begr_low ad cp 2 [a, b] x w ca (by rw [← Bool.not_eq_true, beg2_iff]; omega) (by omega) (by omega) h0
   by_cases h1 : x < 224
   ·exact begr_2 ad cp 2 [a, b] x w ca (by rw [← Bool.not_eq_true, beg2_iff]; omega) (by omega) (by omega) (by omega) h1 (by omega)
   by_cases h2 : x = 224
   ·exact begr2_224 ad cp a b x w ca cb HX h2
   by_cases h3 : x = 237
   ·exact begr2_237 ad cp a b x w ca cb HX h3
   by_cases h4 : x = 240
   ·exact begr2_240 ad cp a b x w ca cb HX h4
   by_cases h5 : x = 244
   ·exact begr2_244 ad cp a b x w ca cb HX h5
   by_cases h6 : x < 240
   ·exact begr2_o3 ad cp a b x w ca cb HX (by omega) h6 h3
   by_cases h7 : x < 244
   ·exact begr2_o4 ad cp a b x w ca cb HX (by omega) h7
   ·exact begr_high ad cp 2 [a, b] x w ca (by rw [← Bool.not_eq_true, beg2_iff]; omega) (by omega) (by omega) (by omega)
  | [b, c], hcs =>
   have cb := hcs 0 b rfl
   have cc := hcs 1 c rfl
   by_cases h0 : x < 194
   ·exact begr_low ad cp 3 [a, b, c] x w ca (by rw [← Bool.not_eq_true, beg3_iff]; omega) (by omega) (by omega) h0
   by_cases h1 : x < 224
   ·exact begr_2 ad cp 3 [a, b, c] x w ca (by rw [← Bool.not_eq_true, beg3_iff]; omega) (by omega) (by omega) (by omega) h1 (by omega)
   by_cases h6 : x < 240
   ·exact begr_3 ad cp 3 [a, b, c] x w ca (by rw [← Bool.not_eq_true, beg3_iff]; omega) (by omega) (by omega) (by omega) h6 (by omega)
   by_cases h4 : x = 240
   ·exact begr3_240 ad cp a b c x w ca cb cc HX h4
   by_cases h5 : x = 244
   ·exact begr3_244 ad cp a b c x w ca cb cc HX h5
   by_cases h7 : x < 244
   ·exact begr3_o4 ad cp a b c x w ca cb cc HX (by omega) h7
   ·exact begr_high ad cp 3 [a, b, c] x w ca (by rw [← Bool.not_eq_true, beg3_iff]; omega) (by omega) (by omega) (by omega)
  | b :: c :: d :: m, hcs => exact begr_long (some ad) cp _ _ w (by simp [beginsL]) (by simp)
def inB (r a b : Int) : Bool := decide (a ≤ r) && decide (r ≤ b)
def wideT : List Int := [4352, 4447, 11904, 12350, 12353, 13311, 13312, 19903, 19968, 40959, 40960, 42191, 44032, 55203, 63744, 64255, 65072, 65135, 65280, 65376, 65504, 65510, 127744, 128591, 129280, 129535, 131072, 196605, 196608, 262141]
def wideB (r : Int) : Bool := (List.range 15).any fun k => inB r (wideT.getD (2 * k) 0) (wideT.getD (2 * k + 1) 0)
def zeroB (r : Int) : Bool := !mayR r || decide (r < 32) || inB r 127 159 || inB r 768 879 || inB r 8203 8207 || inB r 65024 65039
def widthL (r : Int) : Int := if zeroB r = true then 0 else if wideB r = true then 2 else 1
theorem inr_any (r a b : Int) (w : World) : Calls Tryz.prog 124 #[.int .i32 r, .int .i32 a, .int .i32 b] w fun e w' => e = .returned (.bool (inB r a b)) ∧ w = w' := by
 unfold inB
 by_cases h1 : a ≤ r
 ·by_cases h2 : r ≤ b
  ·go_enter Tryz.func124, Tryz.ntmps124
   go_wp2
   go_ret
   exact ⟨by simp [h1, h2], rfl⟩
  ·go_enter Tryz.func124, Tryz.ntmps124
   go_wp2
   go_ret
   exact ⟨by simp [h1, h2], rfl⟩
 ·go_enter Tryz.func124, Tryz.ntmps124
  go_wp2
  go_ret
  exact ⟨by simp [show decide (a ≤ r) = false by simpa using h1], rfl⟩
theorem widthr_zero (r : Int) (h0 : -2147483648 ≤ r) (h1 : r ≤ 2147483647) (w : World) (hz : zeroB r = true) : Calls Tryz.prog 97 #[.int .i32 r] w fun e w' => e = .returned (.int .i64 0) ∧ Below w.heap.size w w' := by
 unfold zeroB at hz
 cases a1 : mayR r with
 | false =>
  clear hz
  go_enter Tryz.func97, Tryz.ntmps97
  go_wp2_with (first | ((with_reducible refine (mayr_any _ h0 h1 _).mono ?_); rintro e w' ⟨rfl, rfl⟩) | ((with_reducible refine (inr_any _ _ _ _).mono ?_); rintro e w' ⟨rfl, rfl⟩))
  go_ret
  exact ⟨rfl, Below.refl _ _⟩
 | true =>
  by_cases a2 : r < 32
  ·clear hz
   go_enter Tryz.func97, Tryz.ntmps97
   go_wp2_with (first | ((with_reducible refine (mayr_any _ h0 h1 _).mono ?_); rintro e w' ⟨rfl, rfl⟩) | ((with_reducible refine (inr_any _ _ _ _).mono ?_); rintro e w' ⟨rfl, rfl⟩))
   go_ret
   exact ⟨rfl, Below.refl _ _⟩
  ·cases a3 : inB r 127 159 with
   | true =>
    clear hz
    go_enter Tryz.func97, Tryz.ntmps97
    go_wp2_with (first | ((with_reducible refine (mayr_any _ h0 h1 _).mono ?_); rintro e w' ⟨rfl, rfl⟩) | ((with_reducible refine (inr_any _ _ _ _).mono ?_); rintro e w' ⟨rfl, rfl⟩))
    go_ret
    exact ⟨rfl, Below.refl _ _⟩
   | false =>
    cases a4 : inB r 768 879 with
    | true =>
     clear hz
     go_enter Tryz.func97, Tryz.ntmps97
     go_wp2_with (first | ((with_reducible refine (mayr_any _ h0 h1 _).mono ?_); rintro e w' ⟨rfl, rfl⟩) | ((with_reducible refine (inr_any _ _ _ _).mono ?_); rintro e w' ⟨rfl, rfl⟩))
     go_ret
     exact ⟨rfl, Below.refl _ _⟩
    | false =>
     cases a5 : inB r 8203 8207 with
     | true =>
      clear hz
      go_enter Tryz.func97, Tryz.ntmps97
      go_wp2_with (first | ((with_reducible refine (mayr_any _ h0 h1 _).mono ?_); rintro e w' ⟨rfl, rfl⟩) | ((with_reducible refine (inr_any _ _ _ _).mono ?_); rintro e w' ⟨rfl, rfl⟩))
      go_ret
      exact ⟨rfl, Below.refl _ _⟩
     | false =>
      have a6 : inB r 65024 65039 = true := by simpa [a1, a2, a3, a4, a5] using hz
      clear hz
      go_enter Tryz.func97, Tryz.ntmps97
      go_wp2_with (first | ((with_reducible refine (mayr_any _ h0 h1 _).mono ?_); rintro e w' ⟨rfl, rfl⟩) | ((with_reducible refine (inr_any _ _ _ _).mono ?_); rintro e w' ⟨rfl, rfl⟩))
      go_ret
      exact ⟨rfl, Below.refl _ _⟩
theorem wide_cell (w : World) (j : Nat) (h : j < 30) : (w.alloc (.cells #[.int .i32 4352, .int .i32 4447, .int .i32 11904, .int .i32 12350, .int .i32 12353, .int .i32 13311, .int .i32 13312, .int .i32 19903, .int .i32 19968, .int .i32 40959, .int .i32 40960, .int .i32 42191, .int .i32 44032, .int .i32 55203, .int .i32 63744, .int .i32 64255, .int .i32 65072, .int .i32 65135, .int .i32 65280, .int .i32 65376, .int .i32 65504, .int .i32 65510, .int .i32 127744, .int .i32 128591, .int .i32 129280, .int .i32 129535, .int .i32 131072, .int .i32 196605, .int .i32 196608, .int .i32 262141] 21)).cell? ⟨w.heap.size, j, none⟩ = some (.int .i32 (wideT.getD j 0)) := by
 have h' := World.news_of_block (heap_alloc_new w (.cells #[.int .i32 4352, .int .i32 4447, .int .i32 11904, .int .i32 12350, .int .i32 12353, .int .i32 13311, .int .i32 13312, .int .i32 19903, .int .i32 19968, .int .i32 40959, .int .i32 40960, .int .i32 42191, .int .i32 44032, .int .i32 55203, .int .i32 63744, .int .i32 64255, .int .i32 65072, .int .i32 65135, .int .i32 65280, .int .i32 65376, .int .i32 65504, .int .i32 65510, .int .i32 127744, .int .i32 128591, .int .i32 129280, .int .i32 129535, .int .i32 131072, .int .i32 196605, .int .i32 196608, .int .i32 262141] 21)) j (.int .i32 (wideT.getD j 0))
 rw [show (⟨w.heap.size, 0, none⟩ : Addr).add j = ⟨w.heap.size, j, none⟩ by unfold Addr.add; split <;> simp_all] at h'
 refine h' ?_
 have e : (#[.int .i32 4352, .int .i32 4447, .int .i32 11904, .int .i32 12350, .int .i32 12353, .int .i32 13311, .int .i32 13312, .int .i32 19903, .int .i32 19968, .int .i32 40959, .int .i32 40960, .int .i32 42191, .int .i32 44032, .int .i32 55203, .int .i32 63744, .int .i32 64255, .int .i32 65072, .int .i32 65135, .int .i32 65280, .int .i32 65376, .int .i32 65504, .int .i32 65510, .int .i32 127744, .int .i32 128591, .int .i32 129280, .int .i32 129535, .int .i32 131072, .int .i32 196605, .int .i32 196608, .int .i32 262141] : Array Value) = (wideT.map (Value.int .i32)).toArray := rfl
 rw [e]
 have hl : wideT.length = 30 := rfl
 simp [List.getElem?_eq_getElem (show j < wideT.length by omega), List.getD]
def WidePost (r : Int) (w : World) (e : Ending) (w' : World) : Prop := e = .returned (.int .i64 (if wideB r = true then 2 else 1)) ∧ Below w.heap.size w w'
def WideRel (r : Int) (W : World) (i : Value) (wr : World) : Prop := ∃ k : Nat, k ≤ 15 ∧ i = .int .i64 ((2 * k : Nat) : Int) ∧ (∀ j, j < k → inB r (wideT.getD (2 * j) 0) (wideT.getD (2 * j + 1) 0) = false) ∧ Below W.heap.size W wr
theorem below_drewW {B : Nat} {w w' : World} (h : Below B w w') (n : Nat) : Below B w (w'.drewN n) := ⟨h.os, h.tape, h.output, h.size, h.block⟩
theorem widthr_some (r : Int) (h0 : -2147483648 ≤ r) (h1 : r ≤ 2147483647) (w : World) (hz : zeroB r = false) : Calls Tryz.prog 97 #[.int .i32 r] w (WidePost r w) := by
 unfold zeroB at hz
 simp only [Bool.or_eq_false_iff, Bool.not_eq_false', decide_eq_false_iff_not] at hz
 obtain ⟨⟨⟨⟨⟨a1, a2⟩, a3⟩, a4⟩, a5⟩, a6⟩ := hz
 obtain ⟨W, hW⟩ : ∃ W, W = w.alloc (.cells #[.int .i32 4352, .int .i32 4447, .int .i32 11904, .int .i32 12350, .int .i32 12353, .int .i32 13311, .int .i32 13312, .int .i32 19903, .int .i32 19968, .int .i32 40959, .int .i32 40960, .int .i32 42191, .int .i32 44032, .int .i32 55203, .int .i32 63744, .int .i32 64255, .int .i32 65072, .int .i32 65135, .int .i32 65280, .int .i32 65376, .int .i32 65504, .int .i32 65510, .int .i32 127744, .int .i32 128591, .int .i32 129280, .int .i32 129535, .int .i32 131072, .int .i32 196605, .int .i32 196608, .int .i32 262141] 21) := ⟨_, rfl⟩
 have hcell : ∀ j, j < 30 → W.cell? ⟨w.heap.size, j, none⟩ = some (.int .i32 (wideT.getD j 0)) := fun j hj => by rw [hW]; exact wide_cell w j hj
 have hWz : w.heap.size < W.heap.size := by rw [hW]; simp
 have hWb : Below w.heap.size w W := by rw [hW]; exact (Below.refl _ _).alloc (Nat.le_refl _) _
 have HC := Lh hcell
 have HWB := Lh hWb
 have HW := Lh hW
 clear hcell hWb hW
 go_enter Tryz.func97, Tryz.ntmps97
 go_wp2_with (first | ((with_reducible refine (mayr_any _ h0 h1 _).mono ?_); rintro e w' ⟨rfl, rfl⟩) | ((with_reducible refine (inr_any _ _ _ _).mono ?_); rintro e w' ⟨rfl, rfl⟩))
 rw [← HW.out]
 go_loopw [4] (fun i wr => WideRel r W i wr) (fun i _ => 30 - (intOf i).toNat)
 case atStart => exact ⟨0, by omega, rfl, fun j hj => absurd hj (by omega), Below.refl _ _⟩
 case round =>
  obtain ⟨k, hk, rfl, hf, hb⟩ := hrel
  have HF := Lh hf
  have HB := Lh hb
  clear hf
  by_cases hlt : k < 15
  ·obtain ⟨j, hj⟩ : ∃ j, j = 2 * k := ⟨_, rfl⟩
   have c0 : wr.cell? ⟨w.heap.size, j, none⟩ = some (.int .i32 (wideT.getD (2 * k) 0)) := by rw [hj]; exact (hb.cell (p := ⟨w.heap.size, 2 * k, none⟩) hWz).trans (HC.out _ (by omega))
   have c1 : wr.cell? ⟨w.heap.size, j + 1, none⟩ = some (.int .i32 (wideT.getD (2 * k + 1) 0)) := by rw [hj]; exact (hb.cell (p := ⟨w.heap.size, 2 * k + 1, none⟩) hWz).trans (HC.out _ (by omega))
   rw [← hj]
   have hj30 : j < 30 := by omega
   have hj31 : j + 1 < 30 := by omega
   generalize hg0 : wideT.getD (2 * k) 0 = lo at c0
   generalize hg1 : wideT.getD (2 * k + 1) 0 = hi at c1
   have HJ := Lh hj
   have HG0 := Lh hg0
   have HG1 := Lh hg1
   clear hb hj hg0 hg1
   have hsum : IntKind.i64.wrap ((j : Int) + 1) = (j : Int) + 1 := IntWalk.i64_in _ (by omega)
   have hs0 : 0 ≤ (j : Int) + 1 := by omega
   have hs1 : ((j : Int) + 1).toNat = j + 1 := by omega
   go_wp2
   go_quiet ((go_at_call 124; exact Calls.quiet_of_same ((inr_any _ _ _ _).mono (fun e w' h => ⟨h.1, h.2.symm⟩))))
   clear hsum hs0 hs1
   go_wp2
   ·rename_i hin
    go_ret
    refine ⟨?_, HWB.out.trans ((below_drewW HB.out nq).mono (by omega))⟩
    have hw : wideB r = true := by
     unfold wideB
     rw [List.any_eq_true]
     refine ⟨k, List.mem_range.2 hlt, ?_⟩
     rw [HG0.out, HG1.out]
     exact hin
    rw [if_pos hw]
    rfl
   ·rename_i hin
    go_roundw
    case rel =>
     refine ⟨k + 1, by omega, by rw [HJ.out]; go_num, fun i hi => ?_, below_drewW HB.out nq⟩
     by_cases e : i = k
     ·rw [e, HG0.out, HG1.out]; exact hin
     ·exact HF.out i (by omega)
    case measure => simp [intOf]; omega
  ·obtain rfl : k = 15 := by omega
   go_wp2
   go_ret
   refine ⟨?_, HWB.out.trans (HB.out.mono (by omega))⟩
   have hw : wideB r = false := by
    unfold wideB
    rw [List.any_eq_false]
    intro i hi
    rw [HF.out i (List.mem_range.1 hi)]
    simp
   rw [hw]
   rfl
theorem widthr_any (r : Int) (h0 : -2147483648 ≤ r) (h1 : r ≤ 2147483647) (w : World) : Calls Tryz.prog 97 #[.int .i32 r] w fun e w' => e = .returned (.int .i64 (widthL r)) ∧ Below w.heap.size w w' := by
 cases hz : zeroB r with
 | true => unfold widthL; rw [hz]; exact widthr_zero r h0 h1 w hz
 | false => unfold widthL; rw [hz]; exact widthr_some r h0 h1 w hz
end Go.Proofs.YthepofkdgbcifaaGreat
