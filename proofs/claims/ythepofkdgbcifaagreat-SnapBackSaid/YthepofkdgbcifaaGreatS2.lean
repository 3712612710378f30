/- What is proved here: parts of layer 10's proofs. -/
import Derived.Test.YthepofkdgbcifaaGreatS1
import Derived.Deep.DeepCutAuto
import Derived.Deep.CutRange
namespace Go.Proofs.YthepofkdgbcifaaGreat
open Go.RowKit
set_option linter.unusedVariables false
set_option linter.unusedSimpArgs false
set_option maxHeartbeats 2000000
set_option maxRecDepth 100000
structure Sc where
 rows : Int
 cols : Int
 cells : List Cl
 y : Int
 x : Int
 wrap : Bool
 attr : Nat
 top : Int
 bottom : Int
 tabs : List Bool
 sy : Int
 sx : Int
 sattr : Nat
 auto : Bool
 shown : Bool
 alt : Bool
 other : List Cl
 oy : Int
 ox : Int
 p : Pr
def newTabs (cols : Nat) : List Bool := (List.range cols).map fun x => decide (x % 8 = 0)
def newS (rows cols : Int) : Sc := ⟨rows, cols, blankL rows cols, 0, 0, false, 0, 0, rows - 1, newTabs cols.toNat, 0, 0, 0, true, true, false, [], 0, 0, prM 0⟩
def downS (s : Sc) : Sc :=
 if s.y = s.bottom then { s with wrap := false, cells := upL s.cells s.cols s.top s.bottom 1 }
 else if s.y < s.rows - 1 then { s with wrap := false, y := s.y + 1 } else { s with wrap := false }
def crS (s : Sc) : Sc := { downS s with x := 0 }
def atS (s : Sc) : Nat := (s.y * s.cols + s.x).toNat
def cells1 (s : Sc) (r : Int) : List Cl := s.cells.set (atS s) ⟨r, s.attr, 0⟩
def cells2 (s : Sc) (r : Int) : List Cl := (s.cells.set (atS s) ⟨r, s.attr, 1⟩).set (atS s + 1) ⟨0, s.attr, 2⟩
def putS (s : Sc) (r : Int) (w : Int) : Sc :=
 if s.cols ≤ s.x + w then { s with cells := mendL (if w = 2 then cells2 s r else cells1 s r) s.cols s.y, x := s.cols - 1, wrap := s.auto }
 else { s with cells := mendL (if w = 2 then cells2 s r else cells1 s r) s.cols s.y, x := s.x + w }
def wrapS (s : Sc) : Sc := if s.wrap = true then crS s else s
def printS (s : Sc) (r : Int) : Sc :=
 if widthL r = 0 then s
 else if widthL r = 2 ∧ (wrapS s).x = (wrapS s).cols - 1 then
  (if (wrapS s).auto = false ∨ (wrapS s).cols = 1 then wrapS s else putS (crS (wrapS s)) r 2)
 else putS (wrapS s) r (widthL r)
def nextTab (tabs : List Bool) : Nat → Nat → Nat
 | 0, x => x
 | n + 1, x => if tabs.getD x true = true then x else nextTab tabs n (x + 1)
def tabX (s : Sc) : Int := min (nextTab s.tabs (s.cols - (s.x + 1)).toNat (s.x + 1).toNat : Int) (s.cols - 1)
def controlS (s : Sc) (b : Nat) : Sc :=
 if b = 8 then { s with x := max (s.x - 1) 0, wrap := false }
 else if b = 9 then { s with wrap := false, x := tabX s }
 else if b = 10 ∨ b = 11 ∨ b = 12 then downS s
 else if b = 13 then { s with x := 0, wrap := false }
 else s
def escapeS (s : Sc) (b : Nat) : Sc :=
 if b = 55 then { s with sy := s.y, sx := s.x, sattr := s.attr }
 else if b = 56 then { s with y := s.sy, x := s.sx, attr := s.sattr, wrap := false }
 else if b = 68 then downS s
 else if b = 69 then crS s
 else if b = 77 then
  (if s.y = s.top then { s with wrap := false, cells := downL s.cells s.cols s.top s.bottom 1 }
   else if 0 < s.y then { s with wrap := false, y := s.y - 1 } else { s with wrap := false })
 else if b = 72 then { s with tabs := s.tabs.set s.x.toNat true }
 else if b = 99 then newS s.rows s.cols
 else s
def modeS (s : Sc) (k : Int) (on : Bool) : Sc :=
 if k = 7 then { s with auto := on }
 else if k = 25 then { s with shown := on }
 else if k = 1049 ∧ on = true ∧ s.alt = false then { s with other := s.cells, oy := s.y, ox := s.x, alt := true, wrap := false, cells := blankL s.rows s.cols }
 else if k = 1049 ∧ on = false ∧ s.alt = true then { s with cells := s.other, y := s.oy, x := s.ox, alt := false, wrap := false, other := [], oy := 0, ox := 0 }
 else s
def paramL (l : List Int) (i : Nat) (usual : Int) : Int := if l.getD i 0 = 0 then usual else l.getD i 0
def toS (s : Sc) (y x : Int) : Sc := { s with y := min (max y 0) (s.rows - 1), x := min (max x 0) (s.cols - 1), wrap := false }
def lookN (a : Nat) (k : Int) : Nat :=
 if k = 0 then 0
 else if k = 1 then (if a % 2 = 0 then a + 1 else a)
 else if k = 4 then (if a / 2 % 2 = 0 then a + 2 else a)
 else if k = 7 then (if a / 4 % 2 = 0 then a + 4 else a)
 else if k = 22 then a - a % 2
 else if k = 24 then a - a / 2 % 2 * 2
 else if k = 27 then a - a / 4 % 2 * 4
 else if 30 ≤ k ∧ k ≤ 37 then a - a / 16 % 16 * 16 + (k - 29).toNat * 16
 else if k = 39 then a - a / 16 % 16 * 16
 else if 40 ≤ k ∧ k ≤ 47 then a - a / 256 % 16 * 256 + (k - 39).toNat * 256
 else if k = 49 then a - a / 256 % 16 * 256
 else a
def eraseS (s : Sc) (row : Bool) (k : Int) : Sc :=
 if 2 < k then { s with wrap := false }
 else { s with wrap := false, cells := mendL (fillL s.cells (fun _ => blankC)
   (if k = 0 then s.y * s.cols + s.x else if row = true then s.y * s.cols else 0).toNat
   (if k = 1 then s.y * s.cols + s.x + 1 else if row = true then (s.y + 1) * s.cols else s.cells.length).toNat) s.cols s.y }
def seqS (s : Sc) (b : Nat) (l : List Int) : Sc :=
 let n := paramL l 0 1
 let m := paramL l 1 1
 let k := paramL l 0 0
 if b = 65 then toS s (s.y - n) s.x
 else if b = 66 then toS s (s.y + n) s.x
 else if b = 67 then toS s s.y (s.x + n)
 else if b = 68 then toS s s.y (s.x - n)
 else if b = 71 ∨ b = 96 then toS s s.y (n - 1)
 else if b = 100 then toS s (n - 1) s.x
 else if b = 72 ∨ b = 102 then toS s (n - 1) (m - 1)
 else if b = 74 then eraseS s false k
 else if b = 75 then eraseS s true k
 else if b = 76 then (if s.top ≤ s.y ∧ s.y ≤ s.bottom then { s with wrap := false, x := 0, cells := downL s.cells s.cols s.y s.bottom n } else { s with wrap := false })
 else if b = 77 then (if s.top ≤ s.y ∧ s.y ≤ s.bottom then { s with wrap := false, x := 0, cells := upL s.cells s.cols s.y s.bottom n } else { s with wrap := false })
 else if b = 64 then { s with cells := insertL s.cells s.cols s.y s.x n, wrap := false }
 else if b = 80 then { s with cells := deleteL s.cells s.cols s.y s.x n, wrap := false }
 else if b = 88 then { s with cells := eraseL s.cells s.cols s.y s.x (s.x + n), wrap := false }
 else if b = 83 then { s with cells := upL s.cells s.cols s.top s.bottom n, wrap := false }
 else if b = 84 then { s with cells := downL s.cells s.cols s.top s.bottom n, wrap := false }
 else if b = 114 then
  (if n - 1 < min (paramL l 1 s.rows) s.rows - 1 then { toS s 0 0 with top := n - 1, bottom := min (paramL l 1 s.rows) s.rows - 1 } else s)
 else if b = 103 then (if k = 0 then { s with tabs := s.tabs.set s.x.toNat false } else if k = 3 then { s with tabs := List.replicate s.cols.toNat false } else s)
 else if b = 109 then { s with attr := if l.length = 0 then 0 else l.foldl lookN s.attr }
 else s
def doS (s : Sc) (a : Ac) : Sc :=
 if a.kind = 0 then printS s a.r
 else if a.kind = 1 then controlS s a.b
 else if a.kind = 2 then (if a.inter.length = 0 then escapeS s a.b else s)
 else if a.kind = 3 then
  (if 0 < a.inter.length then s
   else if a.priv = 63 ∧ (a.b = 104 ∨ a.b = 108) then a.params.foldl (fun s k => modeS s k (decide (a.b = 104))) s
   else if a.priv = 0 then seqS s a.b a.params else s)
 else s
def stepS (s : Sc) (b : UInt8) : Sc := { (vtL s.p b).2.foldl doS s with p := (vtL s.p b).1 }
def feedS (s : Sc) (l : List UInt8) : Sc := l.foldl stepS s
def attrB (a : Nat) : Bool := decide (a < 4096) && decide (a / 8 % 2 = 0) && decide (a / 16 % 16 ≤ 8) && decide (a / 256 % 16 ≤ 8)
def cellB (c : Cl) : Bool := mayR c.r && attrB c.a && decide (c.h ≤ 2) && (decide (c.r = 0) == decide (c.h = 2))
structure ScIn (s : Sc) (r c : Nat) : Prop where
 rows : s.rows = r
 cols : s.cols = c
 g : GOk s.cells.length r c
 cells : ∀ x ∈ s.cells, cellB x = true
 y0 : 0 ≤ s.y
 y1 : s.y < r
 x0 : 0 ≤ s.x
 x1 : s.x < c
 wrap : s.wrap = true → s.x = c - 1
 attr : attrB s.attr = true
 t0 : 0 ≤ s.top
 t1 : s.top ≤ s.bottom
 b1 : s.bottom < r
 tb : s.top < s.bottom ∨ r = 1
 tabs : s.tabs.length = c
 sy0 : 0 ≤ s.sy
 sy1 : s.sy < r
 sx0 : 0 ≤ s.sx
 sx1 : s.sx < c
 sattr : attrB s.sattr = true
 other : s.alt = true → (GOk s.other.length r c ∧ ∀ x ∈ s.other, cellB x = true)
 noAlt : s.alt = false → (s.other = [] ∧ s.oy = 0 ∧ s.ox = 0)
 oy0 : 0 ≤ s.oy
 oy1 : s.oy < r
 ox0 : 0 ≤ s.ox
 ox1 : s.ox < c
 p : PrOk s.p
theorem dIn {s : Sc} {r c : Nat} (hi : ScIn s r c) : 0 ≤ s.y ∧ s.y < r ∧ 0 ≤ s.x ∧ s.x < c ∧ s.cols = c ∧ s.rows = r ∧ c ≤ 1000 ∧ r ≤ 1000 ∧ s.cells.length ≤ 1000000 := ⟨hi.y0, hi.y1, hi.x0, hi.x1, hi.cols, hi.rows, hi.g.c2, hi.g.r2, by rw [hi.g.n]; exact rc_le hi.g.r2 hi.g.c2⟩
def sameN (c : Cl) : List Cl → Nat
  | [] => 0
  | x :: r => if x = c then sameN c r + 1 else 0
theorem sameN_le (c : Cl) (l : List Cl) : sameN c l ≤ l.length := by
  induction l with
  | nil => exact Nat.le_refl _
  | cons x r ih => unfold sameN; split <;> simp <;> omega
theorem sameN_take (c : Cl) (l : List Cl) : l.take (sameN c l) = List.replicate (sameN c l) c := by
  induction l with
  | nil => rfl
  | cons x r ih =>
    unfold sameN
    split
    · rename_i h
      rw [List.take_succ_cons, ih, List.replicate_succ, h]
    · rfl
theorem sameN_next (c : Cl) (l : List Cl) : (l.drop (sameN c l)).head? ≠ some c := by
  induction l with
  | nil => simp [sameN]
  | cons x r ih =>
    unfold sameN
    split
    · rw [List.drop_succ_cons]; exact ih
    · rename_i h
      simp only [List.drop_zero, List.head?_cons, ne_eq, Option.some.injEq]
      exact h
theorem sameN_at (c : Cl) (l : List Cl) (k : Nat) (h : k < sameN c l) : l[k]? = some c := by
  have hl := sameN_le c l
  have e := sameN_take c l
  have : (l.take (sameN c l))[k]? = (List.replicate (sameN c l) c)[k]? := by rw [e]
  rw [List.getElem?_take, if_pos h, List.getElem?_replicate, if_pos h] at this
  exact this
theorem sameN_stop (c : Cl) (l : List Cl) (h : sameN c l < l.length) : l[sameN c l]? ≠ some c := by
  have := sameN_next c l
  rw [List.head?_drop] at this
  exact this
def runB (n : Nat) (c : Cl) : List UInt8 := lebP n ++ (lebP c.r.toNat ++ lebP (4 * c.a + c.h))
def bytF : Nat → List Cl → List UInt8
  | 0, _ => []
  | _ + 1, [] => []
  | f + 1, c :: r => runB (sameN c r + 1) c ++ bytF f (r.drop (sameN c r))
def bytL (l : List Cl) : List UInt8 := bytF l.length l
theorem bytF_nil (f : Nat) : bytF f [] = [] := by cases f <;> rfl
theorem bytF_fuel (f g : Nat) (l : List Cl) (hf : l.length ≤ f) (hg : l.length ≤ g) : bytF f l = bytF g l := by
  induction f generalizing g l with
  | zero =>
    have : l = [] := List.eq_nil_of_length_eq_zero (by omega)
    subst this
    rw [bytF_nil, bytF_nil]
  | succ f ih =>
    cases l with
    | nil => rw [bytF_nil, bytF_nil]
    | cons c r =>
      cases g with
      | zero => simp at hg
      | succ g =>
        simp only [List.length_cons] at hf hg
        unfold bytF
        rw [ih g _ (by simp; omega) (by simp; omega)]
theorem bytL_cons (c : Cl) (r : List Cl) : bytL (c :: r) = runB (sameN c r + 1) c ++ bytL (r.drop (sameN c r)) := by
  unfold bytL
  show runB (sameN c r + 1) c ++ bytF r.length (r.drop (sameN c r)) = _
  rw [bytF_fuel r.length (r.drop (sameN c r)).length _ (by simp) (Nat.le_refl _)]
def putCL (l : List Cl) : List UInt8 × Nat := if l.all cellB = true then (bytL l, 0) else ([], 27)
theorem putCL_yes {l : List Cl} (h : ∀ x ∈ l, cellB x = true) : putCL l = (bytL l, 0) := by
  unfold putCL
  rw [if_pos (List.all_eq_true.2 h)]
theorem putCL_no {l : List Cl} {x : Cl} (h : x ∈ l) (hx : cellB x = false) : putCL l = ([], 27) := by
  unfold putCL
  rw [if_neg]
  intro e
  have := List.all_eq_true.1 e x h
  rw [hx] at this
  cases this
theorem runB_len (n : Nat) (c : Cl) : 3 ≤ (runB n c).length ∧ (runB n c).length ≤ 30 := by
  unfold runB
  have h1 := lebP_length n
  have h2 := lebP_length c.r.toNat
  have h3 := lebP_length (4 * c.a + c.h)
  simp only [List.length_append]
  omega
theorem bytF_len (f : Nat) (l : List Cl) : (bytF f l).length ≤ 30 * l.length := by
  induction f generalizing l with
  | zero => simp [bytF]
  | succ f ih =>
    cases l with
    | nil => simp [bytF]
    | cons c r =>
      unfold bytF
      have h1 := runB_len (sameN c r + 1) c
      have h2 := ih (r.drop (sameN c r))
      rw [List.length_drop] at h2
      rw [List.length_append, List.length_cons]
      omega
theorem bytL_len (l : List Cl) : (bytL l).length ≤ 30 * l.length := bytF_len _ l
/-! ### reading -/
def run3 (b : List UInt8) : (Nat × Nat × Nat) × Nat × Nat :=
  if (readL b).2.2 ≠ 0 then ((0, 0, 0), 0, (readL b).2.2)
  else if (readL (b.drop (readL b).2.1)).2.2 ≠ 0 then ((0, 0, 0), 0, (readL (b.drop (readL b).2.1)).2.2)
  else if (readL (b.drop ((readL b).2.1 + (readL (b.drop (readL b).2.1)).2.1))).2.2 ≠ 0 then ((0, 0, 0), 0, (readL (b.drop ((readL b).2.1 + (readL (b.drop (readL b).2.1)).2.1))).2.2)
  else (((readL b).1, (readL (b.drop (readL b).2.1)).1, (readL (b.drop ((readL b).2.1 + (readL (b.drop (readL b).2.1)).2.1))).1), (readL b).2.1 + (readL (b.drop (readL b).2.1)).2.1 + (readL (b.drop ((readL b).2.1 + (readL (b.drop (readL b).2.1)).2.1))).2.1, 0)
theorem run3_e1 {b : List UInt8} {v k e : Nat} (h1 : readL b = (v, k, e)) (he : e ≠ 0) : run3 b = ((0, 0, 0), 0, e) := by
  unfold run3; rw [h1]; exact if_pos he
theorem run3_e2 {b : List UInt8} {v k v2 k2 e : Nat} (h1 : readL b = (v, k, 0)) (h2 : readL (b.drop k) = (v2, k2, e)) (he : e ≠ 0) : run3 b = ((0, 0, 0), 0, e) := by
  unfold run3; rw [h1]; simp only [ne_eq, not_true_eq_false, if_false]; rw [h2]; exact if_pos he
theorem run3_e3 {b : List UInt8} {v k v2 k2 v3 k3 e : Nat} (h1 : readL b = (v, k, 0)) (h2 : readL (b.drop k) = (v2, k2, 0)) (h3 : readL (b.drop (k + k2)) = (v3, k3, e)) (he : e ≠ 0) : run3 b = ((0, 0, 0), 0, e) := by
  unfold run3; rw [h1]; simp only [ne_eq, not_true_eq_false, if_false]; rw [h2]; simp only [not_true_eq_false, if_false]; rw [h3]; exact if_pos he
theorem run3_ok {b : List UInt8} {v k v2 k2 v3 k3 : Nat} (h1 : readL b = (v, k, 0)) (h2 : readL (b.drop k) = (v2, k2, 0)) (h3 : readL (b.drop (k + k2)) = (v3, k3, 0)) : run3 b = ((v, v2, v3), k + k2 + k3, 0) := by
  unfold run3; rw [h1]; simp only [ne_eq, not_true_eq_false, if_false]; rw [h2]; simp only [not_true_eq_false, if_false]; rw [h3]; simp only [not_true_eq_false, if_false]
def cellOf (v2 v3 : Nat) : Cl := ⟨(v2 : Int), v3 / 4, v3 % 4⟩
def readF (n : Nat) : Nat → List UInt8 → List Cl → Nat → List Cl × Nat × Nat
  | 0, _, out, at_ => (out, at_, 0)
  | f + 1, b, out, at_ =>
    if out.length < n then
      if (run3 b).2.2 ≠ 0 then ([], 0, (run3 b).2.2)
      else if (run3 b).1.1 = 0 ∨ n - out.length < (run3 b).1.1 ∨ 1114111 < (run3 b).1.2.1 ∨ 16384 ≤ (run3 b).1.2.2 then ([], 0, 21)
      else if cellB (cellOf (run3 b).1.2.1 (run3 b).1.2.2) = false ∨ out.getLast? = some (cellOf (run3 b).1.2.1 (run3 b).1.2.2) then ([], 0, 21)
      else readF n f (b.drop (run3 b).2.1) (out ++ List.replicate (run3 b).1.1 (cellOf (run3 b).1.2.1 (run3 b).1.2.2)) (at_ + (run3 b).2.1)
    else (out, at_, 0)
def readCL (b : List UInt8) (n : Int) : List Cl × Nat × Nat := readF n.toNat n.toNat b [] 0
theorem readF_end (n f : Nat) (b : List UInt8) (out : List Cl) (at_ : Nat) (h : ¬ out.length < n) : readF n f b out at_ = (out, at_, 0) := by
  cases f with
  | zero => rfl
  | succ f => unfold readF; rw [if_neg h]
theorem readF_err {n f : Nat} {b : List UInt8} {out : List Cl} {at_ e : Nat} {x : Nat × Nat × Nat} {k : Nat} (hf : n - out.length ≤ f) (h : out.length < n) (hr : run3 b = (x, k, e)) (he : e ≠ 0) : readF n f b out at_ = ([], 0, e) := by
  cases f with
  | zero => omega
  | succ f => unfold readF; rw [if_pos h, hr]; exact if_pos he
theorem readF_bad {n f : Nat} {b : List UInt8} {out : List Cl} {at_ v1 v2 v3 k : Nat} (hf : n - out.length ≤ f) (h : out.length < n) (hr : run3 b = ((v1, v2, v3), k, 0)) (hb : (v1 = 0 ∨ n - out.length < v1 ∨ 1114111 < v2 ∨ 16384 ≤ v3) ∨ cellB (cellOf v2 v3) = false ∨ out.getLast? = some (cellOf v2 v3)) : readF n f b out at_ = ([], 0, 21) := by
  cases f with
  | zero => omega
  | succ f =>
    unfold readF
    rw [if_pos h, hr]
    simp only [ne_eq, not_true_eq_false, if_false]
    by_cases h1 : v1 = 0 ∨ n - out.length < v1 ∨ 1114111 < v2 ∨ 16384 ≤ v3
    · rw [if_pos h1]
    · rw [if_neg h1]
      rcases hb with hb | hb
      · exact absurd hb h1
      · rw [if_pos hb]
theorem readF_fuel (n f g : Nat) (b : List UInt8) (out : List Cl) (at_ : Nat) (hf : n - out.length ≤ f) (hg : n - out.length ≤ g) : readF n f b out at_ = readF n g b out at_ := by
  induction f generalizing g b out at_ with
  | zero => rw [readF_end _ _ _ _ _ (by omega), readF_end _ _ _ _ _ (by omega)]
  | succ f ih =>
    by_cases h : out.length < n
    · cases g with
      | zero => omega
      | succ g =>
        unfold readF
        rw [if_pos h, if_pos h]
        by_cases h1 : (run3 b).2.2 ≠ 0
        · rw [if_pos h1, if_pos h1]
        · rw [if_neg h1, if_neg h1]
          by_cases h2 : (run3 b).1.1 = 0 ∨ n - out.length < (run3 b).1.1 ∨ 1114111 < (run3 b).1.2.1 ∨ 16384 ≤ (run3 b).1.2.2
          · rw [if_pos h2, if_pos h2]
          · rw [if_neg h2, if_neg h2]
            rw [ih g _ _ _ (by rw [List.length_append, List.length_replicate]; omega) (by rw [List.length_append, List.length_replicate]; omega)]
    · rw [readF_end _ _ _ _ _ h, readF_end _ _ _ _ _ h]
theorem readF_go {n f : Nat} {b : List UInt8} {out : List Cl} {at_ v1 v2 v3 k : Nat} (hf : n - out.length ≤ f) (h : out.length < n) (hr : run3 b = ((v1, v2, v3), k, 0)) (hb : ¬ (v1 = 0 ∨ n - out.length < v1 ∨ 1114111 < v2 ∨ 16384 ≤ v3)) (hc : ¬ (cellB (cellOf v2 v3) = false ∨ out.getLast? = some (cellOf v2 v3))) :
    readF n f b out at_ = readF n f (b.drop k) (out ++ List.replicate v1 (cellOf v2 v3)) (at_ + k) := by
  cases f with
  | zero => omega
  | succ f =>
    rw [readF_fuel n (f + 1) f (b.drop k) _ _ (by rw [List.length_append, List.length_replicate]; omega) (by rw [List.length_append, List.length_replicate]; omega)]
    conv => lhs; unfold readF
    rw [if_pos h, hr]
    simp only [ne_eq, not_true_eq_false, if_false]
    rw [if_neg hb, if_neg hc]
/-! ### there and back -/
theorem cellB_bd {c : Cl} (h : cellB c = true) : 0 ≤ c.r ∧ c.r ≤ 1114111 ∧ c.a < 4096 ∧ c.h ≤ 2 := by
  unfold cellB attrB mayR at h
  simp only [Bool.and_eq_true, decide_eq_true_eq] at h
  omega
theorem cellOf_back {c : Cl} (h : cellB c = true) : cellOf c.r.toNat (4 * c.a + c.h) = c := by
  obtain ⟨h1, h2, h3, h4⟩ := cellB_bd h
  unfold cellOf
  rw [show (4 * c.a + c.h) / 4 = c.a by omega, show (4 * c.a + c.h) % 4 = c.h by omega, show ((c.r.toNat : Nat) : Int) = c.r by omega]
theorem run3_runB (n : Nat) (c : Cl) (more : List UInt8) (hc : cellB c = true) (hn : n ≤ 1099511627776) : run3 (runB n c ++ more) = ((n, c.r.toNat, 4 * c.a + c.h), (runB n c).length, 0) := by
  obtain ⟨h1, h2, h3, h4⟩ := cellB_bd hc
  have e1 : runB n c ++ more = lebP n ++ (lebP c.r.toNat ++ (lebP (4 * c.a + c.h) ++ more)) := by unfold runB; simp
  have r1 := readL_lebP n (lebP c.r.toNat ++ (lebP (4 * c.a + c.h) ++ more)) (by omega)
  have r2 := readL_lebP c.r.toNat (lebP (4 * c.a + c.h) ++ more) (by omega)
  have r3 := readL_lebP (4 * c.a + c.h) more (by omega)
  rw [e1]
  have e2 : (runB n c).length = (lebP n).length + (lebP c.r.toNat).length + (lebP (4 * c.a + c.h)).length := by unfold runB; simp; omega
  rw [e2]
  refine run3_ok r1 (by rw [List.drop_left]; exact r2) ?_
  rw [← List.drop_drop, List.drop_left, List.drop_left]
  exact r3
theorem readF_bytF (m : Nat) (l : List Cl) (hm : l.length ≤ m) (n f : Nat) (more : List UInt8) (out : List Cl) (at_ : Nat) (hl : ∀ x ∈ l, cellB x = true) (hn : n = out.length + l.length) (hn2 : n ≤ 1099511627776) (hf : l.length ≤ f) (hlast : out.getLast? = none ∨ out.getLast? ≠ l.head?) :
    readF n f (bytL l ++ more) out at_ = (out ++ l, at_ + (bytL l).length, 0) := by
  induction m generalizing l out at_ with
  | zero =>
    have : l = [] := List.eq_nil_of_length_eq_zero (by omega)
    subst this
    simp only [List.length_nil] at hn
    rw [readF_end _ _ _ _ _ (by omega)]
    simp [bytL, bytF]
  | succ m ih =>
    cases l with
    | nil =>
      simp only [List.length_nil] at hn
      rw [readF_end _ _ _ _ _ (by omega)]
      simp [bytL, bytF]
    | cons c r =>
      have hcb := hl c (by simp)
      obtain ⟨b1, b2, b3, b4⟩ := cellB_bd hcb
      have hsl := sameN_le c r
      simp only [List.length_cons] at hn hm hf
      rw [bytL_cons, List.append_assoc]
      have h3 := run3_runB (sameN c r + 1) c (bytL (r.drop (sameN c r)) ++ more) hcb (by omega)
      have hgl : out.getLast? ≠ some c := by
        rcases hlast with e | e
        · rw [e]; simp
        · simpa using e
      rw [readF_go (by omega) (by omega) h3 (by omega) (by rw [cellOf_back hcb]; rintro (e | e); · rw [hcb] at e; cases e
                                                           · exact hgl e)]
      rw [cellOf_back hcb, List.drop_left]
      have hrep : List.replicate (sameN c r + 1) c ++ r.drop (sameN c r) = c :: r := by
        rw [List.replicate_succ, ← sameN_take c r, List.cons_append, List.take_append_drop]
      have hlen : (r.drop (sameN c r)).length = r.length - sameN c r := by simp
      rw [ih (r.drop (sameN c r)) (by omega) (out ++ List.replicate (sameN c r + 1) c) (at_ + (runB (sameN c r + 1) c).length) (fun x hx => hl x (List.mem_cons_of_mem _ (List.mem_of_mem_drop hx)))
        (by rw [List.length_append, List.length_replicate, hlen]; omega) (by rw [hlen]; omega) (.inr ?_)]
      · rw [List.append_assoc, hrep, List.length_append, Nat.add_assoc]
      · rw [List.replicate_succ', ← List.append_assoc, List.getLast?_concat]
        intro e
        exact sameN_next c r e.symm
theorem readCL_back (l : List Cl) (more : List UInt8) (hl : ∀ x ∈ l, cellB x = true) (hn : l.length ≤ 1048576) : readCL (bytL l ++ more) (l.length : Int) = (l, (bytL l).length, 0) := by
  unfold readCL
  rw [Int.toNat_natCast]
  have := readF_bytF l.length l (Nat.le_refl _) l.length l.length more [] 0 hl (by simp) (by omega) (Nat.le_refl _) (.inl rfl)
  simpa using this
def vC (c : Cl) : List Value := [.int .i32 c.r, .int .u16 (c.a : Int), .int .u8 (c.h : Int)]
def vCs (l : List Cl) : List Value := l.flatMap vC
def aC (c : Cl) : Value := .agg #[.int .i32 c.r, .int .u16 (c.a : Int), .int .u8 (c.h : Int)]
theorem vCs_len (l : List Cl) : (vCs l).length = l.length * 3 := by
 induction l with
 | nil => rfl
 | cons c l ih => simp only [vCs, List.flatMap_cons, List.length_append] at ih ⊢; rw [ih]; simp [vC]; omega
theorem vCs_app (l m : List Cl) : vCs (l ++ m) = vCs l ++ vCs m := by simp [vCs, List.flatMap_append]
theorem vCs_get (l : List Cl) (k : Nat) (c : Cl) (h : l[k]? = some c) : (vCs l)[k * 3]? = some (.int .i32 c.r) ∧ (vCs l)[k * 3 + 1]? = some (.int .u16 (c.a : Int)) ∧ (vCs l)[k * 3 + 2]? = some (.int .u8 (c.h : Int)) := by
 induction l generalizing k with
 | nil => simp at h
 | cons d l ih =>
  have e : vCs (d :: l) = vC d ++ vCs l := rfl
  rw [e]
  match k, h with
  | 0, h =>
   simp at h
   subst h
   simp [vC]
  | k + 1, h =>
   have h' : l[k]? = some c := by simpa using h
   obtain ⟨a1, a2, a3⟩ := ih k h'
   have hl : (vC d).length = 3 := rfl
   rw [List.getElem?_append_right (by omega), List.getElem?_append_right (by omega), List.getElem?_append_right (by omega), hl]
   rw [show (k + 1) * 3 - 3 = k * 3 by omega, show (k + 1) * 3 + 1 - 3 = k * 3 + 1 by omega, show (k + 1) * 3 + 2 - 3 = k * 3 + 2 by omega]
   exact ⟨a1, a2, a3⟩
theorem vCs_set (l : List Cl) (k : Nat) (c : Cl) (h : k < l.length) : vCs (l.set k c) = (((vCs l).set (k * 3) (.int .i32 c.r)).set (k * 3 + 1) (.int .u16 (c.a : Int))).set (k * 3 + 2) (.int .u8 (c.h : Int)) := by
 induction l generalizing k with
 | nil => simp at h
 | cons d l ih =>
  match k, h with
  | 0, h => simp [vCs, vC]
  | k + 1, h =>
   have e : vCs ((d :: l).set (k + 1) c) = vC d ++ vCs (l.set k c) := by simp [vCs]
   have e2 : vCs (d :: l) = vC d ++ vCs l := rfl
   rw [e, ih k (by simpa using h), e2]
   have hl : (vC d).length = 3 := rfl
   rw [List.set_append_right _ _ (by omega), List.set_append_right _ _ (by omega), List.set_append_right _ _ (by omega), hl]
   rw [show (k + 1) * 3 - 3 = k * 3 by omega, show (k + 1) * 3 + 1 - 3 = k * 3 + 1 by omega, show (k + 1) * 3 + 2 - 3 = k * 3 + 2 by omega]
theorem vCs_one (l : List Cl) : ∀ u ∈ vCs l, u.oneCell' = true := by
 intro u hu
 unfold vCs at hu
 rw [List.mem_flatMap] at hu
 obtain ⟨c, _, hc⟩ := hu
 simp only [vC, List.mem_cons, List.not_mem_nil, or_false] at hc
 rcases hc with rfl | rfl | rfl <;> rfl
def ThreeAt (w : World) (xa : Addr) (c : Cl) : Prop :=
 w.cell? xa = some (.int .i32 c.r) ∧ w.cell? ⟨xa.block, xa.off + 1, none⟩ = some (.int .u16 (c.a : Int)) ∧ w.cell? ⟨xa.block, xa.off + 2, none⟩ = some (.int .u8 (c.h : Int))
theorem add_at3 (ad : Addr) (n i : Nat) (hi : 0 < i) : ad.add (n + i) = ⟨(ad.add n).block, (ad.add n).off + i, none⟩ := by
 unfold Addr.add
 rw [if_neg (by omega)]
 split
 ·next h => subst h; simp
 ·simp [Nat.add_assoc]
theorem ThreeAt.keep {w w' : World} {xa : Addr} {c : Cl} (h : ThreeAt w xa c) (hk : ∀ p : Addr, p.block = xa.block → w'.cell? p = w.cell? p) : ThreeAt w' xa c :=
 ⟨(hk xa rfl).trans h.1, (hk ⟨xa.block, xa.off + 1, none⟩ rfl).trans h.2.1, (hk ⟨xa.block, xa.off + 2, none⟩ rfl).trans h.2.2⟩
def OC (w : World) (base : Nat) (v : Value) (l : List Cl) : Prop := w.ownsRow base 65 3 v l.length (vCs l)
def CS (w : World) (B : Nat) (v : Value) (l : List Cl) : Prop :=
 ∃ A c, v = .slice A l.length c ∧ l.length ≤ c ∧ c ≤ maxLen ∧
  (0 < l.length → ∃ ad, A = some ad ∧ ad.block < B ∧ ∀ j b, l[j]? = some b → ThreeAt w (ad.add (j * 3)) b)
section
variable {w w' : World} {B B' base : Nat} {v : Value} {l : List Cl}
theorem CS.keep (h : CS w B v l) (hk : ∀ p : Addr, p.block < B → w'.cell? p = w.cell? p) : CS w' B v l := by
 obtain ⟨A, c, hv, h1, h2, h3⟩ := h
 refine ⟨A, c, hv, h1, h2, fun hl => ?_⟩
 obtain ⟨ad, hA, hb, hc⟩ := h3 hl
 exact ⟨ad, hA, hb, fun j b hj => (hc j b hj).keep fun p hp => hk p (by rw [hp, block_add]; exact hb)⟩
theorem CS.below (h : CS w B v l) (hb : Below B w w') : CS w' B v l := h.keep fun _ hp => hb.cell hp
theorem CS.more (h : CS w B v l) (hB : B ≤ B') : CS w B' v l := by
 obtain ⟨A, c, hv, h1, h2, h3⟩ := h
 refine ⟨A, c, hv, h1, h2, fun hl => ?_⟩
 obtain ⟨ad, hA, hb, hc⟩ := h3 hl
 exact ⟨ad, hA, by omega, hc⟩
theorem CS.alloc (h : CS w B v l) (hB : B ≤ w.heap.size) (o : Obj) : CS (w.alloc o) B v l := h.keep fun p hp => World.cell?_alloc_lt w o p (by omega)
theorem CS.nil (w : World) (B : Nat) : CS w B (.slice none 0 0) [] := ⟨none, 0, rfl, by simp, by simp [maxLen], fun h => absurd h (by simp)⟩
theorem CS.form (h : CS w B v l) : ∃ A c, v = .slice A l.length c ∧ l.length ≤ c ∧ c ≤ 9223372036854775807 := by
 obtain ⟨A, c, hv, h1, h2, _⟩ := h
 unfold maxLen at h2
 exact ⟨A, c, hv, h1, by omega⟩
theorem CS.get {A : Option Addr} {n c : Nat} (h : CS w B (.slice A n c) l) (k : Nat) (x : Cl) (hx : l[k]? = some x) : ∃ ad, A = some ad ∧ ad.block < B ∧ ThreeAt w (ad.add (k * 3)) x := by
 obtain ⟨A', c', hv, _, _, h3⟩ := h
 simp only [Value.slice.injEq] at hv
 have hk : k < l.length := (List.getElem?_eq_some_iff.1 hx).1
 obtain ⟨ad, hA, hb, hc⟩ := h3 (by omega)
 exact ⟨ad, hv.1.trans hA, hb, hc k x hx⟩
theorem OC.nil (w : World) (base : Nat) : OC w base (.slice none 0 0) [] := World.ownsRow_nil w base _ _
theorem OC.alloc (h : OC w base v l) (o : Obj) : OC (w.alloc o) base v l := World.ownsRow.alloc h o
theorem OC.below (h : OC w base v l) (hb : Below w.heap.size w w') : OC w' base v l := by
 have hg : w.grownBy w' none := ⟨hb.os, hb.tape, hb.output, hb.size, fun i hi _ => hb.block i hi⟩
 unfold OC at h ⊢
 refine h.kept hg ?_
 cases hv : v.ownBlock with
 | none => exact Or.inl rfl
 | some k => exact Or.inr (by simp)
theorem OC.cs (h : OC w base v l) : CS w w.heap.size v l := by
 unfold OC at h
 rcases h.2 with ⟨rfl, hn⟩ | ⟨g, cap, cur, rfl, hbg, hg, hnc, hcm, hcs, htake⟩
 ·have : l = [] := List.eq_nil_of_length_eq_zero hn
  subst this
  exact CS.nil w _
 ·have hlt : g < w.heap.size := by
   rcases Nat.lt_or_ge g w.heap.size with hh | hh
   ·exact hh
   ·rw [Array.getElem?_eq_none hh] at hg; cases hg
  refine ⟨_, cap, rfl, hnc, hcm, fun _ => ⟨_, rfl, hlt, fun j b hj => ?_⟩⟩
  obtain ⟨e0, e1, e2⟩ := vCs_get l j b hj
  refine ⟨h.cells (g := g) rfl _ _ e0, ?_, ?_⟩
  ·rw [← add_at3 _ _ _ (by omega)]; exact h.cells (g := g) rfl _ _ e1
  ·rw [← add_at3 _ _ _ (by omega)]; exact h.cells (g := g) rfl _ _ e2
theorem OC.lower {b2 : Nat} (h : OC w base v l) (hb : b2 ≤ base) : OC w b2 v l := by
 obtain ⟨a1, a2⟩ := h
 refine ⟨a1, ?_⟩
 rcases a2 with a2 | ⟨g, cap, cur, hv, hg, hr⟩
 ·exact .inl a2
 ·exact .inr ⟨g, cap, cur, hv, Nat.le_trans hb hg, hr⟩
theorem OC.open_ (h : OC w base v l) (hl : 0 < l.length) : ∃ g cap, v = .slice (some ⟨g, 0, none⟩) l.length cap ∧ base ≤ g ∧ g < w.heap.size ∧ l.length ≤ cap ∧ cap ≤ 9223372036854775807 := by
 have hh := h
 unfold OC at h
 rcases h.2 with ⟨rfl, hn⟩ | ⟨g, cap, cur, rfl, hbg, hg, hnc, hcm, hcs, htake⟩
 ·omega
 ·unfold maxLen at hcm
  exact ⟨g, cap, rfl, hbg, (World.ownsRow.lt hh g rfl).2, hnc, by omega⟩
end
section
variable {w : World} {base g n cap : Nat} {l : List Cl}
theorem OC.threeAt (h : OC w base (.slice (some ⟨g, 0, none⟩) l.length cap) l) (k : Nat) (c : Cl) (hc : l[k]? = some c) : w.cell? ⟨g, k * 3, none⟩ = some (.int .i32 c.r) ∧ w.cell? ⟨g, k * 3 + 1, none⟩ = some (.int .u16 (c.a : Int)) ∧ w.cell? ⟨g, k * 3 + 2, none⟩ = some (.int .u8 (c.h : Int)) := by
 obtain ⟨e0, e1, e2⟩ := vCs_get l k c hc
 have hk : k < l.length := (List.getElem?_eq_some_iff.1 hc).1
 unfold OC at h
 exact ⟨(World.ownsRow.cellAt h _ (by omega)).trans e0, (World.ownsRow.cellAt h _ (by omega)).trans e1, (World.ownsRow.cellAt h _ (by omega)).trans e2⟩
theorem OC.frozenAt (h : OC w base (.slice (some ⟨g, 0, none⟩) l.length cap) l) (j : Nat) : w.frozen? ⟨g, j, none⟩ = false := World.ownsRow.frozenAt h j
theorem OC.stored (h : OC w base (.slice (some ⟨g, 0, none⟩) l.length cap) l) (k : Nat) (hk : k < l.length) (c : Cl) :
  OC (((w.setCell ⟨g, k * 3, none⟩ (.int .i32 c.r)).setCell ⟨g, k * 3 + 1, none⟩ (.int .u16 (c.a : Int))).setCell ⟨g, k * 3 + 2, none⟩ (.int .u8 (c.h : Int))) base (.slice (some ⟨g, 0, none⟩) l.length cap) (l.set k c) := by
 have := (World.ownsRow.stored (World.ownsRow.stored (World.ownsRow.stored h (k * 3) (.int .i32 c.r)).1 (k * 3 + 1) (.int .u16 (c.a : Int))).1 (k * 3 + 2) (.int .u8 (c.h : Int))).1
 unfold OC
 rw [List.length_set, vCs_set l k c hk]
 exact this
end
section
variable {w : World} {base g n cap : Nat} {l : List Cl}
theorem OC.len (h : OC w base (.slice (some ⟨g, 0, none⟩) n cap) l) : n = l.length := by
 unfold OC at h
 rcases h.2 with ⟨hv, _⟩ | ⟨g', cap', cur, hv, _⟩
 ·cases hv
 ·simp only [Value.slice.injEq] at hv
  exact hv.2.1
theorem OC.spot (h : OC w base (.slice (some ⟨g, 0, none⟩) n cap) l) (k : Nat) (hk : k < n) : ∃ x y z, w.cell? ⟨g, k * 3, none⟩ = some x ∧ w.cell? ⟨g, k * 3 + 1, none⟩ = some y ∧ w.cell? ⟨g, k * 3 + 2, none⟩ = some z ∧ w.frozen? ⟨g, k * 3, none⟩ = false ∧ w.frozen? ⟨g, k * 3 + 1, none⟩ = false ∧ w.frozen? ⟨g, k * 3 + 2, none⟩ = false := by
 obtain rfl := h.len
 obtain ⟨c, hc⟩ : ∃ c, l[k]? = some c := ⟨_, List.getElem?_eq_getElem hk⟩
 obtain ⟨a, b, d⟩ := h.threeAt k c hc
 exact ⟨_, _, _, a, b, d, h.frozenAt _, h.frozenAt _, h.frozenAt _⟩
theorem OC.put (h : OC w base (.slice (some ⟨g, 0, none⟩) n cap) l) (k : Nat) (hk : k < n) (c : Cl) :
  OC (((w.setCell ⟨g, k * 3, none⟩ (.int .i32 c.r)).setCell ⟨g, k * 3 + 1, none⟩ (.int .u16 (c.a : Int))).setCell ⟨g, k * 3 + 2, none⟩ (.int .u8 (c.h : Int))) base (.slice (some ⟨g, 0, none⟩) n cap) (l.set k c) := by
 obtain rfl := h.len
 exact h.stored k hk c
theorem OC.block (h : OC w base (.slice (some ⟨g, 0, none⟩) n cap) l) : base ≤ g ∧ g < w.heap.size := World.ownsRow.lt h g rfl
end
theorem below_put {B : Nat} {w w' : World} (h : Below B w w') {g : Nat} (hg : B ≤ g) (k : Nat) (x y z : Value) : Below B w (((w'.setCell ⟨g, k, none⟩ x).setCell ⟨g, k + 1, none⟩ y).setCell ⟨g, k + 2, none⟩ z) :=
 ((h.setCell hg x).setCell hg y).setCell hg z
theorem cellInfo : (Tryz.prog.info? 65).map (fun i => (i.zero, i.size, i.bytes)) = some (some (.agg #[.int .i32 0, .int .u16 0, .int .u8 0]), 3, 8) := by kernel_rfl
theorem run_appC (w : World) (ty : TypeId) {base B : Nat} {v u : Value} {l m : List Cl} (hown : OC w base v l) (hr : CS w B u m) (hlen : l.length + m.length ≤ 1099511627776) (hbase : base ≤ w.heap.size) :
  ∃ v' w', (Builtin.append_ #[22, 22] ty #[v, u]).run Tryz.prog w = .ok v' w' ∧ OC w' base v' (l ++ m) ∧ w.grownBy w' v.ownBlock ∧ Below base w w' ∧ (v'.ownBlock = v.ownBlock ∨ v'.ownBlock = some w.heap.size) := by
 obtain ⟨i0, hi0, hz0, hz1, hz2⟩ := info_parts cellInfo
 have hlt := World.ownsRow.lt hown
 have hfin : ∀ v' w', w'.ownsRow base 65 3 v' (l.length + m.length) (vCs l ++ vCs m) → OC w' base v' (l ++ m) := by
  intro v' w' h
  unfold OC
  rw [List.length_append, vCs_app]
  exact h
 obtain ⟨A, c, rfl, h1, h2, h3⟩ := hr
 rcases Nat.eq_zero_or_pos m.length with h0 | h0
 ·have hm : m = [] := List.eq_nil_of_length_eq_zero h0
  subst hm
  refine ⟨v, w, ?_, by simpa using hown, World.grownBy.refl w _, Below.refl _ _, .inl rfl⟩
  rcases hown.2 with ⟨rfl, hn⟩ | ⟨g, cap, cur, rfl, _, _, hnc, _⟩
  ·cases A <;> simp [Builtin.append_, run_underlying Tryz.underlying22, sizeOf, typeInfo, hi0, Builtin.lenOf, Builtin.firstCells, loadCells, loadCellsFrom]
  ·cases A <;> simp [Builtin.append_, run_underlying Tryz.underlying22, sizeOf, typeInfo, hi0, Builtin.lenOf, Builtin.firstCells, hnc, storeCells, loadCells, loadCellsFrom]
 ·obtain ⟨ad, rfl, hb, hc⟩ := h3 h0
  have hcell : ∀ (j : Nat) (u : Value), (vCs m)[j]? = some u → w.cell? (ad.add j) = some u := by
   intro j u hj
   have hj3 : j < m.length * 3 := by
    have := (List.getElem?_eq_some_iff.1 hj).1
    rw [vCs_len] at this
    exact this
   obtain ⟨x, hx⟩ : ∃ x, m[j / 3]? = some x := ⟨_, List.getElem?_eq_getElem (by omega)⟩
   obtain ⟨e0, e1, e2⟩ := vCs_get m (j / 3) x hx
   obtain ⟨f0, f1, f2⟩ := hc _ x hx
   have hmod : j % 3 = 0 ∨ j % 3 = 1 ∨ j % 3 = 2 := by omega
   rcases hmod with h | h | h
   ·have e : j / 3 * 3 = j := by omega
    rw [e] at e0 f0
    rw [e0] at hj
    rw [f0, hj]
   ·have e : j / 3 * 3 + 1 = j := by omega
    rw [← add_at3 _ _ _ (by omega), e] at f1
    rw [e] at e1
    rw [e1] at hj
    rw [f1, hj]
   ·have e : j / 3 * 3 + 2 = j := by omega
    rw [← add_at3 _ _ _ (by omega), e] at f2
    rw [e] at e2
    rw [e2] at hj
    rw [f2, hj]
  obtain ⟨v', w', hrun, h4, h5, _, h6⟩ := run_append_own_at (P := Tryz.prog) w base 22 ty 65 i0 _ 3 8 Tryz.underlying22 hi0 hz0 hz1 hz2 rfl (by omega) v l.length (vCs l) hown ad m.length c (vCs m) (by rw [vCs_len]) hcell
   (vCs_one m) (by simp only [maxLen]; omega) (by omega) hbase
  exact ⟨v', w', hrun, hfin v' w' h4, h5, (Below.refl _ _).grown h5 hbase (fun k hk => (hlt k hk).1), h6⟩
theorem wpl_appC (w : World) {ops : Array Oper} {rest : List Oper} {o : Oper} {a : Act} {Q : Exit → Act → World → Prop} (hgd : o.guard = none) (s x : Operand)
  (ho : o.op = .call { callee := .builtin .append, args := #[s, x], argTypes := #[22, 22] })
  (base B : Nat) (v u : Value) (l m : List Cl) (hs : a.eval s = v) (hx : a.eval x = u) (hown : OC w base v l) (hr : CS w B u m) (hlen : l.length + m.length ≤ 1099511627776) (hbase : base ≤ w.heap.size)
  (h : ∀ v' w', OC w' base v' (l ++ m) → w.grownBy w' v.ownBlock → Below base w w' → (v'.ownBlock = v.ownBlock ∨ v'.ownBlock = some w.heap.size) → wpList Tryz.prog ops Q rest (a.put o.dst v') w') :
  wpList Tryz.prog ops Q (o :: rest) a w := by
 refine wpList_plain hgd fun K hK => ?_
 obtain ⟨v', w', hrun, h2, h3, h4, h5⟩ := run_appC w o.type hown hr hlen hbase
 unfold Oper.wp execOp
 simp only [ho, resolve, invoke, builtin, Sem.run_bind, Sem.run_pure, Result.andThen_ok, List.map_toArray, List.map_cons, List.map_nil, hs, hx, hrun]
 exact hK _ _ (h v' w' h2 h3 h4 h5)
theorem andT8 : (List.range 4096).all (fun a => bits BinOp.and IntKind.u16 (a : Int) 8 == ((a / 8 % 2 * 8 : Nat) : Int)) = true := by kernel_rfl
theorem andT4 : (List.range 4096).all (fun a => bits BinOp.and IntKind.u16 ((a : Int) / 16) 15 == ((a / 16 % 16 : Nat) : Int)) = true := by kernel_rfl
theorem andT2 : (List.range 4096).all (fun a => bits BinOp.and IntKind.u16 ((a : Int) / 256) 15 == ((a / 256 % 16 : Nat) : Int)) = true := by kernel_rfl
theorem andU {f : Nat → Bool} (h : (List.range 4096).all f = true) (a : Nat) (ha : a < 4096) : f a = true := (List.all_eq_true.1 h) a (List.mem_range.2 ha)
def FitC (x : Cl) : Prop := -2147483648 ≤ x.r ∧ x.r ≤ 2147483647 ∧ x.a < 65536 ∧ x.h < 256
theorem blank_any (w : World) : Calls Tryz.prog 67 #[] w fun e w' => e = .returned (.agg #[.int .i32 32, .int .u16 0, .int .u8 0]) ∧ Below w.heap.size w w' := by
 go_enter Tryz.func67, Tryz.ntmps67
 go_wp2
 exact bodyPost_ret (v := .agg #[.int .i32 32, .int .u16 0, .int .u8 0]) (by simp [results, Tryz.results67, go_sem]) rfl ⟨rfl, (Below.refl _ _).alloc (Nat.le_refl _) _⟩
def CellsPost (l : List Cl) (w : World) (e : Ending) (w' : World) : Prop := ∃ v, e = .returned v ∧ OC w' w.heap.size v l ∧ Below w.heap.size w w'
theorem own_any (v : Value) (l : List Cl) (w : World) (h : CS w w.heap.size v l) (hl : l.length ≤ 1099511627776) : Calls Tryz.prog 99 #[v] w (CellsPost l w) := by
 have H := Lh h
 obtain ⟨A, c, rfl, h1, h2⟩ := h.form
 clear h
 go_enter Tryz.func99, Tryz.ntmps99
 go_wp2_with (refine wpl_appC _ rfl _ _ rfl w.heap.size w.heap.size (.slice none 0 0) (.slice A l.length c) [] l rfl rfl (OC.nil _ _) H.out (by simp; omega) (Nat.le_refl _) ?_; intro v' w' g1 g2 g3 g4)
 go_ret
 exact ⟨v', rfl, g1, g3⟩
theorem grid_yes (v : Value) (l : List Cl) (r c : Nat) (w : World) (h : CS w w.heap.size v l) (hg : GOk l.length r c) : Calls Tryz.prog 125 #[v, .int .i64 (c : Int)] w fun e w' => e = .returned (.tuple #[.int .i64 (r : Int), .bool true]) ∧ w = w' := by
 obtain ⟨A, k, rfl, h1, h2⟩ := h.form
 obtain ⟨q1, q2⟩ := hg.quo
 have c1 := hg.c1
 have c2 := hg.c2
 have r1 := hg.r1
 have r2 := hg.r2
 have hn := hg.n
 clear hg h
 go_enter Tryz.func125, Tryz.ntmps125
 go_wp2
 go_ret2
 exact ⟨rfl, rfl⟩
theorem gOk_no {n : Nat} {cols : Int} (h : gOk n cols = false) : cols < 1 ∨ 1000 < cols ∨ (1 ≤ cols ∧ cols ≤ 1000 ∧ ¬ (n : Int) % cols = 0) ∨ (1 ≤ cols ∧ cols ≤ 1000 ∧ (n : Int) % cols = 0 ∧ (n : Int) / cols < 1) ∨ (1 ≤ cols ∧ cols ≤ 1000 ∧ (n : Int) % cols = 0 ∧ 1 ≤ (n : Int) / cols ∧ 1000 < (n : Int) / cols) := by
 unfold gOk at h
 rw [decide_eq_false_iff_not] at h
 by_cases h1 : cols < 1
 ·exact .inl h1
 by_cases h2 : 1000 < cols
 ·exact .inr (.inl h2)
 by_cases h3 : (n : Int) % cols = 0
 ·by_cases h4 : (n : Int) / cols < 1
  ·exact .inr (.inr (.inr (.inl ⟨by omega, by omega, h3, h4⟩)))
  ·refine .inr (.inr (.inr (.inr ⟨by omega, by omega, h3, by omega, ?_⟩)))
   by_cases h5 : 1000 < (n : Int) / cols
   ·exact h5
   ·exact absurd ⟨by omega, by omega, h3, by omega, by omega⟩ h
 ·exact .inr (.inr (.inl ⟨by omega, by omega, h3⟩))
theorem grid_no (v : Value) (l : List Cl) (cols : Int) (w : World) (h : CS w w.heap.size v l) (hl : l.length ≤ 1099511627776) (hg : gOk l.length cols = false) : Calls Tryz.prog 125 #[v, .int .i64 cols] w fun e w' => e = .returned (.tuple #[.int .i64 0, .bool false]) ∧ w = w' := by
 obtain ⟨A, k, rfl, h1, h2⟩ := h.form
 clear h
 rcases gOk_no hg with g | g | ⟨g1, g2, g3⟩ | ⟨g1, g2, g3, g4⟩ | ⟨g1, g2, g3, g4, g5⟩
 ·clear hg
  go_enter Tryz.func125, Tryz.ntmps125
  go_wp2
  go_ret2
  exact ⟨rfl, rfl⟩
 ·clear hg
  have g0 : 1 ≤ cols := by omega
  go_enter Tryz.func125, Tryz.ntmps125
  go_wp2
  go_ret2
  exact ⟨rfl, rfl⟩
 all_goals
  clear hg
  have hz : ¬ cols = 0 := by omega
  have hq0 : 0 ≤ (l.length : Int) / cols := Int.ediv_nonneg (by omega) (by omega)
  have hq1 : (l.length : Int) / cols ≤ l.length := Int.ediv_le_self _ (by omega)
  go_enter Tryz.func125, Tryz.ntmps125
  go_wp2
  go_ret2
  exact ⟨rfl, rfl⟩
theorem place_yes (v : Value) (l : List Cl) (r c : Nat) (y x : Int) (w : World) (h : CS w w.heap.size v l) (hg : GOk l.length r c) (hy : 0 ≤ y) (hy2 : y < r) (hx : 0 ≤ x) (hx2 : x ≤ c) :
  Calls Tryz.prog 120 #[v, .int .i64 (c : Int), .int .i64 y, .int .i64 x] w fun e w' => e = .returned (.bool true) ∧ w = w' := by
 obtain ⟨A, k, rfl, h1, h2⟩ := h.form
 have H := Lh h
 have HG := Lh hg
 clear hg h
 go_enter Tryz.func120, Tryz.ntmps120
 go_wp2_with ((with_reducible refine (grid_yes _ l r c _ H.out HG.out).mono ?_); rintro e w' ⟨rfl, rfl⟩)
 go_ret
 exact ⟨rfl, rfl⟩
theorem place_no (v : Value) (l : List Cl) (cols y x : Int) (w : World) (h : CS w w.heap.size v l) (hl : l.length ≤ 1099511627776) (hg : gPlace l.length cols y x = false) :
  Calls Tryz.prog 120 #[v, .int .i64 cols, .int .i64 y, .int .i64 x] w fun e w' => e = .returned (.bool false) ∧ w = w' := by
 obtain ⟨A, k, rfl, h1, h2⟩ := h.form
 have H := Lh h
 clear h
 cases ho : gOk l.length cols with
 | false =>
  have HO := Lh ho
  clear ho hg
  go_enter Tryz.func120, Tryz.ntmps120
  go_wp2_with ((with_reducible refine (grid_no _ l cols _ H.out hl HO.out).mono ?_); rintro e w' ⟨rfl, rfl⟩)
  go_ret
  exact ⟨rfl, rfl⟩
 | true =>
  obtain ⟨r, c, rfl, hG⟩ := gOk_of ho
  have hq := hG.quo.1
  have hno : ¬ (0 ≤ y ∧ y < r ∧ 0 ≤ x ∧ x ≤ (c : Int)) := by
   unfold gPlace at hg
   rw [ho, hq] at hg
   simpa using hg
  have HG := Lh hG
  clear ho hg hG hq
  by_cases h3 : 0 ≤ y
  ·by_cases h4 : y < r
   ·by_cases h5 : 0 ≤ x
    ·have h6 : (c : Int) < x := by omega
     have h7 : decide (x ≤ (c : Int)) = false := by simpa using h6
     clear hno
     go_enter Tryz.func120, Tryz.ntmps120
     go_wp2_with ((with_reducible refine (grid_yes _ l r c _ H.out HG.out).mono ?_); rintro e w' ⟨rfl, rfl⟩)
     go_ret
     exact ⟨rfl, rfl⟩
    ·clear hno
     go_enter Tryz.func120, Tryz.ntmps120
     go_wp2_with ((with_reducible refine (grid_yes _ l r c _ H.out HG.out).mono ?_); rintro e w' ⟨rfl, rfl⟩)
     go_ret
     exact ⟨rfl, rfl⟩
   ·clear hno
    go_enter Tryz.func120, Tryz.ntmps120
    go_wp2_with ((with_reducible refine (grid_yes _ l r c _ H.out HG.out).mono ?_); rintro e w' ⟨rfl, rfl⟩)
    go_ret
    exact ⟨rfl, rfl⟩
  ·clear hno
   go_enter Tryz.func120, Tryz.ntmps120
   go_wp2_with ((with_reducible refine (grid_yes _ l r c _ H.out HG.out).mono ?_); rintro e w' ⟨rfl, rfl⟩)
   go_ret
   exact ⟨rfl, rfl⟩
def zeroC : Cl := ⟨0, 0, 0⟩
theorem madeC (n : Nat) : (madeCells #[.int .i32 0, .int .u16 0, .int .u8 0] (n * 3)).toList = vCs (List.replicate n zeroC) := by
 apply List.ext_getElem?
 intro j
 by_cases h : j < n * 3
 ·have hx : (List.replicate n zeroC)[j / 3]? = some zeroC := by rw [List.getElem?_replicate, if_pos (by omega)]
  obtain ⟨e0, e1, e2⟩ := vCs_get _ _ _ hx
  have hl : (madeCells #[Value.int .i32 0, .int .u16 0, .int .u8 0] (n * 3)).toList[j]? = some (#[Value.int .i32 0, .int .u16 0, .int .u8 0][j % 3]!) := by
   simp [madeCells, h]
  rw [hl]
  have hmod : j % 3 = 0 ∨ j % 3 = 1 ∨ j % 3 = 2 := by omega
  rcases hmod with hm | hm | hm
  ·rw [show j / 3 * 3 = j by omega] at e0
   rw [e0, hm]; rfl
  ·rw [show j / 3 * 3 + 1 = j by omega] at e1
   rw [e1, hm]; rfl
  ·rw [show j / 3 * 3 + 2 = j by omega] at e2
   rw [e2, hm]; rfl
 ·rw [List.getElem?_eq_none (by simp [madeCells]; omega), List.getElem?_eq_none (by rw [vCs_len, List.length_replicate]; omega)]
theorem OC.made (w : World) (n : Nat) (hm : n ≤ 1099511627776) : OC (w.alloc (.cells (madeCells #[.int .i32 0, .int .u16 0, .int .u8 0] (n * 3)) 65)) w.heap.size (.slice (some ⟨w.heap.size, 0, none⟩) n n) (List.replicate n zeroC) := by
 have := World.ownsRow_lit (base := w.heap.size) (e := 65) (size := 3) w (madeCells #[.int .i32 0, .int .u16 0, .int .u8 0] (n * 3)) n (Nat.le_refl _) (by simp [maxLen]; omega) (by rw [size_madeCells])
 unfold OC
 rw [List.length_replicate]
 rw [madeC] at this
 exact this
theorem run_makeC (n : Nat) (hn : n ≤ 1099511627776) (w : World) :
  (Instr.makeSlice 22 (.int .i64 (n : Int)) (.int .i64 (n : Int))).run Tryz.prog w = .ok (.slice (some ⟨w.heap.size, 0, none⟩) n n) (w.alloc (.cells (madeCells #[.int .i32 0, .int .u16 0, .int .u8 0] (n * 3)) 65)) := by
 obtain ⟨i0, hi0, hz0, hz1, hz2⟩ := info_parts cellInfo
 have h := run_make (P := Tryz.prog) w 22 65 i0 _ Tryz.underlying22 hi0 hz0 .i64 .i64 (n : Int) (n : Int) (by omega) (Int.le_refl _) (by rw [hz2]; omega) (by omega)
 simp only [Int.toNat_natCast, hz1] at h
 exact h
theorem fill_rep (n : Nat) (a b : Cl) : fillL (List.replicate n a) (fun _ => b) 0 n = List.replicate n b := by
 apply List.ext_getElem?
 intro i
 rw [fillL_get, List.length_replicate, List.getElem?_replicate]
 by_cases h : i < n
 ·rw [if_pos h, if_pos (by omega), List.getElem?_replicate, if_pos h]
 ·rw [if_neg h, List.getElem?_replicate, if_neg h]
def FillRel (l : List Cl) (f : Nat → Cl) (lo : Nat) (w : World) (base : Nat) (g cap : Nat) (i : Value) (wr : World) : Prop :=
 ∃ k : Nat, lo ≤ k ∧ k ≤ l.length ∧ i = .int .i64 (k : Int) ∧ OC wr base (.slice (some ⟨g, 0, none⟩) l.length cap) (fillL l f lo k) ∧ Below w.heap.size w wr
theorem Blank_yes (r c : Nat) (w : World) (r1 : 1 ≤ r) (r2 : r ≤ 1000) (c1 : 1 ≤ c) (c2 : c ≤ 1000) : Calls Tryz.prog 40 #[.int .i64 (r : Int), .int .i64 (c : Int)] w (CellsPost (List.replicate (r * c) blankC) w) := by
 have hrc := rc_le r2 c2
 have hpos : 1 ≤ r * c := Nat.mul_pos r1 c1
 have hmk := run_makeC (r * c) (by omega)
 rw [Int.natCast_mul] at hmk
 have hb1 : (r : Int) * (c : Int) ≤ 1000000 := by rw [← Int.natCast_mul]; omega
 have hb0 : 0 ≤ (r : Int) * (c : Int) := by rw [← Int.natCast_mul]; omega
 go_enter Tryz.func40, Tryz.ntmps40
 go_wp2
 clear hmk
 go_loopw [6] (fun i wr => FillRel (List.replicate (r * c) zeroC) (fun _ => blankC) 0 w w.heap.size w.heap.size (r * c) i wr) (fun i _ => r * c - (intOf i).toNat)
 case atStart =>
  refine ⟨0, Nat.le_refl _, by simp, rfl, ?_, (Below.refl _ _).alloc (Nat.le_refl _) _⟩
  rw [fillL_none _ _ _ _ (Nat.le_refl _), List.length_replicate]
  exact OC.made w _ (by omega)
 case round =>
  obtain ⟨k, hk0, hk, rfl, ho, hb⟩ := hrel
  rw [List.length_replicate] at hk ho
  have HO := Lh ho
  have HB := Lh hb
  have hz := hb.size
  clear ho hb
  have hl : (r : Int) * (c : Int) = ((r * c : Nat) : Int) := by simp
  by_cases hlt : k < r * c
  ·have hki : (k : Int) < (r : Int) * (c : Int) := by rw [hl]; omega
   have HL := Lh hl
   clear hl
   go_wp2_with ((with_reducible refine (blank_any _).mono ?_); rintro e w' ⟨rfl, hw'⟩; have H1 := Lh (HO.out.below hw'); have HW := Lh hw'; obtain ⟨x, y, z, s0, s1, s2, f0, f1, f2⟩ := (HO.out.below hw').spot k hlt; clear hw')
   go_roundw
   case rel =>
    refine ⟨k + 1, by omega, by simp; omega, by go_num, ?_, below_put (HB.out.trans (HW.out.mono hz)) (Nat.le_refl _) _ _ _ _⟩
    have := H1.out.put k hlt blankC
    rw [fillL_set _ _ _ _ _ (by omega) rfl] at this
    rw [List.length_replicate]
    exact this
   case measure => simp [intOf]; omega
  ·have hki : ¬ (k : Int) < (r : Int) * (c : Int) := by rw [hl]; omega
   obtain rfl : k = r * c := by omega
   have HL := Lh hl
   clear hl
   go_wp2
   go_ret
   refine ⟨_, rfl, ?_, HB.out⟩
   rw [← fill_rep (r * c) zeroC blankC]
   exact HO.out
theorem cap_if (n : Int) : (if 1000 < (if n < 0 then 0 else n) then 1000 else (if n < 0 then 0 else n)) = (capN n : Int) := by
 unfold capN
 by_cases h : n < 0
 ·simp only [h, if_true]; omega
 ·simp only [h, if_false]
  split <;> omega
theorem capN_le (n : Int) : capN n ≤ 1000 := by unfold capN; omega
def RowsRel (l : List Cl) (f : Nat → Cl) (c top bottom : Nat) (w : World) (base : Nat) (g cap : Nat) (i : Value) (wr : World) : Prop :=
 ∃ y : Nat, top ≤ y ∧ y ≤ bottom + 1 ∧ i = .int .i64 (y : Int) ∧ OC wr base (.slice (some ⟨g, 0, none⟩) l.length cap) (fillL l f (top * c) (y * c)) ∧ Below w.heap.size w wr
def ColsRel (l : List Cl) (f : Nat → Cl) (c top y : Nat) (w : World) (base : Nat) (g cap : Nat) (i : Value) (wr : World) : Prop :=
 ∃ x : Nat, x ≤ c ∧ i = .int .i64 (x : Int) ∧ OC wr base (.slice (some ⟨g, 0, none⟩) l.length cap) (fillL l f (top * c) (y * c + x)) ∧ Below w.heap.size w wr
theorem Up_yes (v : Value) (l : List Cl) (r c top bottom : Nat) (n : Int) (w : World) (h : CS w w.heap.size v l) (hg : GOk l.length r c) (htb : top ≤ bottom) (hbr : bottom < r) :
  Calls Tryz.prog 104 #[v, .int .i64 (c : Int), .int .i64 (top : Int), .int .i64 (bottom : Int), .int .i64 n] w (CellsPost (fillL l (upF l c bottom (capN n)) (top * c) ((bottom + 1) * c)) w) := by
 obtain ⟨A, k, rfl, h1, h2⟩ := h.form
 have H := Lh h
 have HG := Lh hg
 have c1 := hg.c1
 have c2 := hg.c2
 have r2 := hg.r2
 have hn := hg.n
 have hrc := rc_le hg.r2 hg.c2
 have hlen : l.length ≤ 1000000 := by omega
 have HN := Lh hn
 clear h hg hn
 have d1 : decide ((top : Int) < 0) = false := by simp
 have d2 : decide (r ≤ bottom) = false := by simpa using hbr
 have d3 : decide (bottom < top) = false := by simpa using htb
 go_enter Tryz.func104, Tryz.ntmps104
 go_upto_region 6 with (first | ((with_reducible refine (own_any _ l _ H.out (by omega)).mono ?_); rintro e w1 ⟨v1, rfl, o1, b1⟩; have z1 := b1.size; have HC := Lh ((H.out.below b1).more z1); have HO := Lh o1; have HB := Lh b1; clear o1 b1) | ((with_reducible refine (grid_yes _ l r c _ HC.out HG.out).mono ?_); rintro e w' ⟨rfl, rfl⟩))
 rw [cap_if]
 have hm := capN_le n
 generalize capN n = m at *
 generalize (if n < 0 then 0 else n) = q
 have hpos : 0 < l.length := by rw [HN.out]; exact Nat.mul_pos (by omega) (by omega)
 obtain ⟨g, cap, rfl, hg1, hg2, hg3, hg4⟩ := HO.out.open_ hpos
 go_wp2
 go_loopw [14] (fun i wr => RowsRel l (upF l c bottom m) c top bottom w w.heap.size g cap i wr) (fun i _ => bottom + 1 - (intOf i).toNat)
 case atStart => exact ⟨top, Nat.le_refl _, by omega, rfl, by rw [fillL_none _ _ _ _ (Nat.le_refl _)]; exact HO.out, HB.out⟩
 case round =>
  generalize wr = w2 at *
  obtain ⟨y, hy1, hy2, rfl, ho, hb⟩ := hrel
  have HO2 := Lh ho
  have HB2 := Lh hb
  clear ho hb
  by_cases hlt : y ≤ bottom
  ·go_wp2
   go_loopw [15] (fun i wr => ColsRel l (upF l c bottom m) c top y w w.heap.size g cap i wr) (fun i _ => c - (intOf i).toNat)
   case atStart => exact ⟨0, by omega, rfl, HO2.out, HB2.out⟩
   case round =>
    generalize wr = w3 at *
    obtain ⟨x, hx, rfl, ho, hb⟩ := hrel
    have HO3 := Lh ho
    have HB3 := Lh hb
    have z3 := hb.size
    clear ho hb
    by_cases hxc : x < c
    ·obtain ⟨p, hp⟩ : ∃ p : Nat, p = y * c := ⟨_, rfl⟩
     have hyc : (y : Int) * (c : Int) = (p : Int) := by rw [hp]; simp
     have hpx : p + x < l.length := by rw [hp, HN.out]; exact rc_lt (by omega) hxc
     have hdv := rc_div y c x hxc
     rw [← hp] at hdv
     have HD := Lh hdv
     have HP := Lh hp
     clear hp hdv
     by_cases hym : y + m ≤ bottom
     ·obtain ⟨p2, hp2⟩ : ∃ p2 : Nat, p2 = (y + m) * c := ⟨_, rfl⟩
      have hyc2 : ((y : Int) + (m : Int)) * (c : Int) = (p2 : Int) := by rw [hp2]; simp
      have hpx2 : p2 + x < l.length := by rw [hp2, HN.out]; exact rc_lt (by omega) hxc
      have hym' : (y : Int) + (m : Int) ≤ (bottom : Int) := by omega
      obtain ⟨d, hd⟩ : ∃ d, l[p2 + x]? = some d := ⟨_, List.getElem?_eq_getElem hpx2⟩
      have HD2 := Lh hd
      have HP2 := Lh hp2
      clear hd hp2
      obtain ⟨ad, hA, hab, -⟩ := H.out.get (p2 + x) d HD2.out
      subst hA
      go_wp2_with ((with_reducible refine (blank_any _).mono ?_); rintro e w' ⟨rfl, hw'⟩; have z4 := hw'.size; have H1 := Lh (HO3.out.below hw'); have HW := Lh hw'; obtain ⟨x0, y0, z0, s0, s1, s2, f0, f1, f2⟩ := (HO3.out.below hw').spot (p + x) hpx; obtain ⟨_, hA, hab2, t0, t1, t2⟩ := ((H.out.below HB3.out).below (hw'.mono z3)).get (p2 + x) d HD2.out; cases hA; have tb : (ad.add ((p2 + x) * 3)).block < w'.heap.size := (by rw [block_add]; omega); have hg5 : g < w'.heap.size := (HO3.out.below hw').block.2; clear hw')
      go_roundw
      case rel =>
       refine ⟨x + 1, by omega, by go_num, ?_, (below_put (HB3.out.trans (HW.out.mono z3)) hg1 _ _ _ _).alloc (by simp; omega) _⟩
       have e : d = upF l c bottom m (p + x) := by
        unfold upF
        rw [HD.out.1, if_pos hym]
        have e2 : p + x + m * c = p2 + x := by rw [HP.out, HP2.out, Nat.add_mul]; omega
        rw [e2]
        have := getC_of hpx2
        rw [HD2.out] at this
        exact Option.some.inj this
       have hpe := HP.out
       have := (H1.out.put (p + x) hpx d).alloc (.cells #[.int .i32 d.r, .int .u16 (d.a : Int), .int .u8 (d.h : Int)] 65)
       rw [← hpe, fillL_set _ _ _ _ _ (by rw [HP.out]; exact Nat.le_trans (Nat.mul_le_mul_right _ hy1) (Nat.le_add_right _ _)) e] at this
       rw [show y * c + (x + 1) = p + x + 1 by rw [HP.out]; omega]
       exact this
      case measure => simp [intOf]; omega
     ·have hym' : (bottom : Int) < (y : Int) + (m : Int) := by omega
      go_wp2_with ((with_reducible refine (blank_any _).mono ?_); rintro e w' ⟨rfl, hw'⟩; have z4 := hw'.size; have H1 := Lh (HO3.out.below hw'); have HW := Lh hw'; obtain ⟨x0, y0, z0, s0, s1, s2, f0, f1, f2⟩ := (HO3.out.below hw').spot (p + x) hpx; have hg5 : g < w'.heap.size := (HO3.out.below hw').block.2; clear hw')
      go_roundw
      case rel =>
       refine ⟨x + 1, by omega, by go_num, ?_, (below_put (HB3.out.trans (HW.out.mono z3)) hg1 _ _ _ _).alloc (by simp; omega) _⟩
       have e : blankC = upF l c bottom m (p + x) := by
        unfold upF
        rw [HD.out.1, if_neg hym]
       have hpe := HP.out
       have := (H1.out.put (p + x) hpx blankC).alloc (.cells #[.int .i32 32, .int .u16 0, .int .u8 0] 65)
       rw [← hpe, fillL_set _ _ _ _ _ (by rw [HP.out]; exact Nat.le_trans (Nat.mul_le_mul_right _ hy1) (Nat.le_add_right _ _)) e] at this
       rw [show y * c + (x + 1) = p + x + 1 by rw [HP.out]; omega]
       exact this
      case measure => simp [intOf]; omega
    ·obtain rfl : c = x := by omega
     go_wp2
     go_roundw
     case rel =>
      refine ⟨y + 1, by omega, by omega, by go_num, ?_, HB3.out⟩
      have e : (y + 1) * c = y * c + c := by rw [Nat.add_mul, Nat.one_mul]
      rw [e]
      exact HO3.out
     case measure => simp [intOf]; omega
  ·obtain rfl : y = bottom + 1 := by omega
   go_wp2
   go_ret
   exact ⟨_, rfl, HO2.out, HB2.out⟩
def upB (n : Nat) (cols top bottom : Int) : Bool := decide (gOk n cols = true ∧ 0 ≤ top ∧ bottom < (n : Int) / cols ∧ top ≤ bottom)
theorem Up_no (v : Value) (l : List Cl) (cols top bottom n : Int) (w : World) (h : CS w w.heap.size v l) (hl : l.length ≤ 1099511627776) (hb : upB l.length cols top bottom = false) :
  Calls Tryz.prog 104 #[v, .int .i64 cols, .int .i64 top, .int .i64 bottom, .int .i64 n] w (CellsPost l w) := by
 obtain ⟨A, k, rfl, h1, h2⟩ := h.form
 have H := Lh h
 unfold upB at hb
 rw [decide_eq_false_iff_not] at hb
 clear h
 cases ho : gOk l.length cols with
 | false =>
  have HO := Lh ho
  clear ho hb
  go_enter Tryz.func104, Tryz.ntmps104
  go_wp2_with (first | ((with_reducible refine (own_any _ l _ H.out hl).mono ?_); rintro e w1 ⟨v1, rfl, o1, b1⟩; have z1 := b1.size; have HC := Lh ((H.out.below b1).more z1); have H1 := Lh o1; have HB := Lh b1; clear o1 b1) | ((with_reducible refine (grid_no _ l cols _ HC.out hl HO.out).mono ?_); rintro e w' ⟨rfl, rfl⟩))
  go_ret
  exact ⟨v1, rfl, H1.out, HB.out⟩
 | true =>
  obtain ⟨r, c, rfl, hG⟩ := gOk_of ho
  have hq := hG.quo.1
  rw [hq] at hb
  have hno : top < 0 ∨ (0 ≤ top ∧ (r : Int) ≤ bottom) ∨ (0 ≤ top ∧ bottom < (r : Int) ∧ bottom < top) := by
   by_cases e1 : top < 0
   ·exact .inl e1
   by_cases e2 : (r : Int) ≤ bottom
   ·exact .inr (.inl ⟨by omega, e2⟩)
   ·refine .inr (.inr ⟨by omega, by omega, ?_⟩)
    by_cases e3 : bottom < top
    ·exact e3
    ·exact absurd ⟨ho, by omega, by omega, by omega⟩ hb
  have HG := Lh hG
  clear ho hG hq hb
  rcases hno with e1 | ⟨e1, e2⟩ | ⟨e1, e2, e3⟩
  all_goals
   go_enter Tryz.func104, Tryz.ntmps104
   go_wp2_with (first | ((with_reducible refine (own_any _ l _ H.out hl).mono ?_); rintro e w1 ⟨v1, rfl, o1, b1⟩; have z1 := b1.size; have HC := Lh ((H.out.below b1).more z1); have H1 := Lh o1; have HB := Lh b1; clear o1 b1) | ((with_reducible refine (grid_yes _ l r c _ HC.out HG.out).mono ?_); rintro e w' ⟨rfl, rfl⟩))
   go_ret
   exact ⟨v1, rfl, H1.out, HB.out⟩
theorem Up_any (v : Value) (l : List Cl) (cols top bottom n : Int) (w : World) (h : CS w w.heap.size v l) (hl : l.length ≤ 1099511627776) :
  Calls Tryz.prog 104 #[v, .int .i64 cols, .int .i64 top, .int .i64 bottom, .int .i64 n] w (CellsPost (upL l cols top bottom n) w) := by
 cases hb : upB l.length cols top bottom with
 | false =>
  have hno := hb
  unfold upB at hno
  rw [decide_eq_false_iff_not] at hno
  unfold upL
  rw [if_neg hno]
  exact Up_no v l cols top bottom n w h hl hb
 | true =>
  unfold upB at hb
  rw [decide_eq_true_eq] at hb
  unfold upL
  rw [if_pos hb]
  obtain ⟨h1, h2, h3, h4⟩ := hb
  obtain ⟨r, c, rfl, hG⟩ := gOk_of h1
  rw [hG.quo.1] at h3
  obtain ⟨t, rfl⟩ : ∃ t : Nat, top = t := ⟨top.toNat, by omega⟩
  obtain ⟨b, rfl⟩ : ∃ b : Nat, bottom = b := ⟨bottom.toNat, by omega⟩
  simp only [Int.toNat_natCast]
  exact Up_yes v l r c t b n w h hG (by omega) (by omega)
theorem Mend_yes (v : Value) (l : List Cl) (r c y : Nat) (w : World) (h : CS w w.heap.size v l) (hg : GOk l.length r c) (hy : y < r) :
  Calls Tryz.prog 86 #[v, .int .i64 (c : Int), .int .i64 (y : Int)] w (CellsPost (fillL l (mendF l c) (y * c) (y * c + c)) w) := by
 obtain ⟨A, k, rfl, h1, h2⟩ := h.form
 have H := Lh h
 have HG := Lh hg
 have c1 := hg.c1
 have c2 := hg.c2
 have r2 := hg.r2
 have hn := hg.n
 have hrc := rc_le hg.r2 hg.c2
 have hlen : l.length ≤ 1000000 := by omega
 have HN := Lh hn
 clear h hg hn
 go_enter Tryz.func86, Tryz.ntmps86
 go_wp2_with (first | ((with_reducible refine (own_any _ l _ H.out (by omega)).mono ?_); rintro e w1 ⟨v1, rfl, o1, b1⟩; have z1 := b1.size; have HC := Lh ((H.out.below b1).more z1); have HO := Lh o1; have HB := Lh b1; clear o1 b1) | ((with_reducible refine (place_yes _ l r c (y : Int) 0 _ HC.out HG.out (by omega) (by omega) (by omega) (by omega)).mono ?_); rintro e w' ⟨rfl, rfl⟩))
 have hpos : 0 < l.length := by rw [HN.out]; exact Nat.mul_pos (by omega) (by omega)
 obtain ⟨g, cap, rfl, hg1, hg2, hg3, hg4⟩ := HO.out.open_ hpos
 go_loopw [8] (fun i wr => ColsRel l (mendF l c) c y y w w.heap.size g cap i wr) (fun i _ => c - (intOf i).toNat)
 case atStart => exact ⟨0, by omega, rfl, by rw [fillL_none _ _ _ _ (by omega)]; exact HO.out, HB.out⟩
 case round =>
  generalize wr = w3 at *
  obtain ⟨x, hx, rfl, ho, hb⟩ := hrel
  have HO3 := Lh ho
  have HB3 := Lh hb
  have z3 := hb.size
  clear ho hb
  by_cases hxc : x < c
  ·obtain ⟨p, hp⟩ : ∃ p : Nat, p = y * c := ⟨_, rfl⟩
   have hyc : (y : Int) * (c : Int) = (p : Int) := by rw [hp]; simp
   have hpx : p + x < l.length := by rw [hp, HN.out]; exact rc_lt (by omega) hxc
   have hdv := rc_div y c x hxc
   rw [← hp] at hdv
   have hpc : p + c ≤ l.length := by
    rw [hp, HN.out]
    have : (y + 1) * c ≤ r * c := Nat.mul_le_mul_right _ hy
    rw [Nat.add_mul, Nat.one_mul] at this
    exact this
   have HD := Lh hdv
   have HP := Lh hp
   clear hp hdv
   have hgd := getC_of hpx
   obtain ⟨ad, hA, hab, t0, t1, t2⟩ := (H.out.below HB3.out).get (p + x) _ hgd
   subst hA
   have tb : (ad.add ((p + x) * 3)).block < w3.heap.size := by rw [block_add]; omega
   have HGD := Lh hgd
   clear hgd t0 t1
   by_cases h1 : (getC l (p + x)).h = 1
   ·rw [h1] at t2
    by_cases h2 : x + 1 = c
    ·have hbad : badH l c (p + x) x = true := by unfold badH; rw [h1]; simp [h2]
     have HBAD := Lh hbad
     clear hbad
     have e1 : ((x : Int) == (c : Int) - 1) = true := by simp; omega
     have H2 := Lh h2
     clear h2
     go_wp2_with ((with_reducible refine (blank_any _).mono ?_); rintro e w' ⟨rfl, hw'⟩; have z4 := hw'.size; have H1 := Lh (HO3.out.below hw'); have HW := Lh hw'; obtain ⟨x0, y0, z0, s0, s1, s2, f0, f1, f2⟩ := (HO3.out.below hw').spot (p + x) hpx; have hg5 : g < w'.heap.size := (HO3.out.below hw').block.2; clear hw')
     go_roundw
     case rel =>
      refine ⟨x + 1, by omega, by go_num, ?_, below_put (HB3.out.trans (HW.out.mono z3)) hg1 _ _ _ _⟩
      have e : blankC = mendF l c (p + x) := by
       unfold mendF
       rw [HD.out.2, HBAD.out]
       rfl
      have hpe := HP.out
      have := H1.out.put (p + x) hpx blankC
      rw [← hpe, fillL_set _ _ _ _ _ (by omega) e] at this
      rw [show y * c + (x + 1) = p + x + 1 by rw [HP.out]; omega, ← hpe]
      exact this
     case measure => simp [intOf]; omega
    ·have e1 : ¬ (x : Int) = (c : Int) - 1 := by omega
     have e1b : ((x : Int) == (c : Int) - 1) = false := by simpa using e1
     have hpn : p + x + 1 < l.length := by omega
     have hgn := getC_of hpn
     obtain ⟨_, hA, _, _, _, n2⟩ := (H.out.below HB3.out).get (p + x + 1) _ hgn
     cases hA
     have tn : (ad.add ((p + x + 1) * 3)).block < w3.heap.size := by rw [block_add]; omega
     clear hgn
     by_cases h3 : (getC l (p + x + 1)).h = 2
     ·have hbad : badH l c (p + x) x = false := by unfold badH; rw [h1, h3]; simp [h2]
      have HBAD := Lh hbad
      clear hbad
      rw [h3] at n2
      go_wp2
      go_roundw
      case rel =>
       refine ⟨x + 1, by omega, by go_num, ?_, HB3.out⟩
       have e : l[p + x]? = some (mendF l c (p + x)) := by
        unfold mendF
        rw [HD.out.2, HBAD.out]
        exact HGD.out
       rw [show y * c + (x + 1) = p + x + 1 by rw [HP.out]; omega, ← fillL_skip _ _ _ _ e, HP.out]
       exact HO3.out
      case measure => simp [intOf]; omega
     ·have hbad : badH l c (p + x) x = true := by unfold badH; rw [h1]; simp [h2, h3]
      have HBAD := Lh hbad
      clear hbad
      have e3 : (((getC l (p + x + 1)).h : Int) != 2) = true := by simp; omega
      have e4 : ¬ ((getC l (p + x + 1)).h : Int) = 2 := by omega
      go_wp2_with ((with_reducible refine (blank_any _).mono ?_); rintro e w' ⟨rfl, hw'⟩; have z4 := hw'.size; have H1 := Lh (HO3.out.below hw'); have HW := Lh hw'; obtain ⟨x0, y0, z0, s0, s1, s2, f0, f1, f2⟩ := (HO3.out.below hw').spot (p + x) hpx; have hg5 : g < w'.heap.size := (HO3.out.below hw').block.2; clear hw')
      go_roundw
      case rel =>
       refine ⟨x + 1, by omega, by go_num, ?_, below_put (HB3.out.trans (HW.out.mono z3)) hg1 _ _ _ _⟩
       have e : blankC = mendF l c (p + x) := by
        unfold mendF
        rw [HD.out.2, HBAD.out]
        rfl
       have hpe := HP.out
       have := H1.out.put (p + x) hpx blankC
       rw [← hpe, fillL_set _ _ _ _ _ (by omega) e] at this
       rw [show y * c + (x + 1) = p + x + 1 by rw [HP.out]; omega, ← hpe]
       exact this
      case measure => simp [intOf]; omega
   ·have h1b : (((getC l (p + x)).h : Int) == 1) = false := by simp; omega
    have h1c : ¬ ((getC l (p + x)).h : Int) = 1 := by omega
    by_cases h2 : (getC l (p + x)).h = 2
    ·rw [h2] at t2
     clear h1b h1c
     by_cases h3 : x = 0
     ·have hbad : badH l c (p + x) x = true := by unfold badH; rw [h2]; simp [h3]
      have HBAD := Lh hbad
      clear hbad
      have e1 : ((x : Int) == 0) = true := by simp [h3]
      have H3 := Lh h3
      clear h3
      go_wp2_with ((with_reducible refine (blank_any _).mono ?_); rintro e w' ⟨rfl, hw'⟩; have z4 := hw'.size; have H1 := Lh (HO3.out.below hw'); have HW := Lh hw'; obtain ⟨x0, y0, z0, s0, s1, s2, f0, f1, f2⟩ := (HO3.out.below hw').spot (p + x) hpx; have hg5 : g < w'.heap.size := (HO3.out.below hw').block.2; clear hw')
      go_roundw
      case rel =>
       refine ⟨x + 1, by omega, by go_num, ?_, below_put (HB3.out.trans (HW.out.mono z3)) hg1 _ _ _ _⟩
       have e : blankC = mendF l c (p + x) := by
        unfold mendF
        rw [HD.out.2, HBAD.out]
        rfl
       have hpe := HP.out
       have := H1.out.put (p + x) hpx blankC
       rw [← hpe, fillL_set _ _ _ _ _ (by omega) e] at this
       rw [show y * c + (x + 1) = p + x + 1 by rw [HP.out]; omega, ← hpe]
       exact this
      case measure => simp [intOf]; omega
     ·have e1 : ¬ (x : Int) = 0 := by omega
      have e1b : ((x : Int) == 0) = false := by simpa using e1
      have e1c : 1 ≤ p + x := by omega
      have hpn : p + x - 1 < l.length := by omega
      have hgn := getC_of hpn
      obtain ⟨_, hA, _, _, _, n2⟩ := (H.out.below HB3.out).get (p + x - 1) _ hgn
      cases hA
      have tn : (ad.add ((p + x - 1) * 3)).block < w3.heap.size := by rw [block_add]; omega
      clear hgn
      by_cases h4 : (getC l (p + x - 1)).h = 1
      ·have hbad : badH l c (p + x) x = false := by unfold badH; rw [h2, h4]; simp [h3]
       have HBAD := Lh hbad
       clear hbad
       rw [h4] at n2
       go_wp2
       go_roundw
       case rel =>
        refine ⟨x + 1, by omega, by go_num, ?_, HB3.out⟩
        have e : l[p + x]? = some (mendF l c (p + x)) := by
         unfold mendF
         rw [HD.out.2, HBAD.out]
         exact HGD.out
        rw [show y * c + (x + 1) = p + x + 1 by rw [HP.out]; omega, ← fillL_skip _ _ _ _ e, HP.out]
        exact HO3.out
       case measure => simp [intOf]; omega
      ·have hbad : badH l c (p + x) x = true := by unfold badH; rw [h2]; simp [h3, h4]
       have HBAD := Lh hbad
       clear hbad
       have e3 : (((getC l (p + x - 1)).h : Int) != 1) = true := by simp; omega
       have e4 : ¬ ((getC l (p + x - 1)).h : Int) = 1 := by omega
       go_wp2_with ((with_reducible refine (blank_any _).mono ?_); rintro e w' ⟨rfl, hw'⟩; have z4 := hw'.size; have H1 := Lh (HO3.out.below hw'); have HW := Lh hw'; obtain ⟨x0, y0, z0, s0, s1, s2, f0, f1, f2⟩ := (HO3.out.below hw').spot (p + x) hpx; have hg5 : g < w'.heap.size := (HO3.out.below hw').block.2; clear hw')
       go_roundw
       case rel =>
        refine ⟨x + 1, by omega, by go_num, ?_, below_put (HB3.out.trans (HW.out.mono z3)) hg1 _ _ _ _⟩
        have e : blankC = mendF l c (p + x) := by
         unfold mendF
         rw [HD.out.2, HBAD.out]
         rfl
        have hpe := HP.out
        have := H1.out.put (p + x) hpx blankC
        rw [← hpe, fillL_set _ _ _ _ _ (by omega) e] at this
        rw [show y * c + (x + 1) = p + x + 1 by rw [HP.out]; omega, ← hpe]
        exact this
       case measure => simp [intOf]; omega
    ·have hbad : badH l c (p + x) x = false := by unfold badH; simp [h1, h2]
     have HBAD := Lh hbad
     clear hbad
     have h2b : (((getC l (p + x)).h : Int) == 2) = false := by simp; omega
     have h2c : ¬ ((getC l (p + x)).h : Int) = 2 := by omega
     go_wp2
     go_roundw
     case rel =>
      refine ⟨x + 1, by omega, by go_num, ?_, HB3.out⟩
      have e : l[p + x]? = some (mendF l c (p + x)) := by
       unfold mendF
       rw [HD.out.2, HBAD.out]
       exact HGD.out
      rw [show y * c + (x + 1) = p + x + 1 by rw [HP.out]; omega, ← fillL_skip _ _ _ _ e, HP.out]
      exact HO3.out
     case measure => simp [intOf]; omega
  ·obtain rfl : c = x := by omega
   go_wp2
   go_ret
   exact ⟨_, rfl, HO3.out, HB3.out⟩
end Go.Proofs.YthepofkdgbcifaaGreat
