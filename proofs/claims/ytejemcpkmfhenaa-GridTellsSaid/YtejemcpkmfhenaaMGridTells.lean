/- What is proved here: words for the law GridTells: five structs laid one behind another, one in a block of its own; cells told by a call in a world behind another; a region of a function's body; how many cells there are; words for a region that draws its order, walked in one order of its own over a frame that is a letter: what a temporary holds, which temporaries differ; that such a walk serves every order; one step of each kind; what the small operations of the law GridTells answer: fields' addresses, loads, min; a test of the law GridTells that draws its order (Up, Down, Insert, Delete): whatever order it draws, the program's calls come to the cells that the document's come to; a test of the law GridTells that draws its order (Erase, Mend): whatever order it draws, the program's calls come to the cells that the document's come to; a test of the law GridTells that draws its order (Size, Blank): whatever order it draws, the program's calls come to the cells that the document's come to; the law GridTells, called with any cells, bytes, numbers, returns true and leaves alone whatever memory was there; an argument that is a slice of cells reads as a list of cells; one that is an array of four bytes reads as four numbers; for every input the law GridTells answers true (comes of any grid, of any places, by each of its calls); no condition. -/
import Derived.Test.YtejemcpkmfhenaaMGridBack
import Derived.Test.YtejemcpkmfhenaaM1
import Derived.Laws.IdiomArrays
import Derived.Deep.Slices
import Derived.Deep.Strs
import Derived.Test.YtejemcpkmfhenaaRows
import Derived.WalkKit
import Derived.ProofKit
import Derived.OpenShut
import Derived.ShutString
import Derived.ChangeOld
import Derived.Below
namespace Go.Proofs.Ytejemcpkmfhenaa
open Go.RowKit
set_option linter.unusedVariables false
set_option linter.unusedSimpArgs false

/-- A region of a function's body, by its number. -/
def findRegionG (n : Nat) : Code → Option Code
  | .region id ops b => if id = n then some (.region id ops b) else none
  | .seq a b => match findRegionG n a with
    | some c => some c
    | none => findRegionG n b
  | .cond _ a b => match findRegionG n a with
    | some c => some c
    | none => findRegionG n b
  | .block _ c => findRegionG n c
  | .scope c => findRegionG n c
  | .loop c => findRegionG n c
  | _ => none
theorem blank40 (rows cols : Int) (h1 : rows ≤ 40) (h2 : cols ≤ 40) : (blankL rows cols).length ≤ 2000 := by
  unfold blankL
  split
  · rw [List.length_replicate]
    have : rows.toNat * cols.toNat ≤ 40 * 40 := Nat.mul_le_mul (by omega) (by omega)
    omega
  · simp
theorem size40 (m : List Cl) (rows cols rows2 cols2 : Int) (hm : m.length ≤ 60) (h1 : rows2 ≤ 40) (h2 : cols2 ≤ 40) : (sizeL m rows cols rows2 cols2).length ≤ 2000 := by
  unfold sizeL
  split
  · rw [mendAll_len, List.length_map, List.length_range]
    have : rows2.toNat * cols2.toNat ≤ 40 * 40 := Nat.mul_le_mul (by omega) (by omega)
    omega
  · omega
/-- The five structs of the law: a slice of cells, five numbers, one behind another. -/
structure Five (D : World) (g : Nat) : Prop where
  lt : g < D.heap.size
  get : ∀ j, j < 5 → ∃ A k m W a b c d, CS D D.heap.size (.slice A m.length k) m ∧ m.length ≤ 60 ∧ D.cell? ⟨g, j * 6, none⟩ = some (.slice A m.length k) ∧ D.cell? ⟨g, j * 6 + 1, none⟩ = some (.int .i64 W) ∧ D.cell? ⟨g, j * 6 + 2, none⟩ = some (.int .i64 a) ∧ D.cell? ⟨g, j * 6 + 3, none⟩ = some (.int .i64 b) ∧ D.cell? ⟨g, j * 6 + 4, none⟩ = some (.int .i64 c) ∧ D.cell? ⟨g, j * 6 + 5, none⟩ = some (.int .i64 d)
theorem Five.at_ {D w : World} {g : Nat} (h : Five D g) (j : Nat) (hj : j < 5) (hb : Below D.heap.size D w) : ∃ A k m W a b c d, CS w w.heap.size (.slice A m.length k) m ∧ m.length ≤ 60 ∧ w.cell? ⟨g, j * 6, none⟩ = some (.slice A m.length k) ∧ w.cell? ⟨g, j * 6 + 1, none⟩ = some (.int .i64 W) ∧ w.cell? ⟨g, j * 6 + 2, none⟩ = some (.int .i64 a) ∧ w.cell? ⟨g, j * 6 + 3, none⟩ = some (.int .i64 b) ∧ w.cell? ⟨g, j * 6 + 4, none⟩ = some (.int .i64 c) ∧ w.cell? ⟨g, j * 6 + 5, none⟩ = some (.int .i64 d) := by
  obtain ⟨A, k, m, W, a, b, c, d, h1, h2, q0, q1, q2, q3, q4, q5⟩ := h.get j hj
  have hl := h.lt
  exact ⟨A, k, m, W, a, b, c, d, (h1.below hb).more hb.size, h2, (hb.cell (p := ⟨g, _, none⟩) hl).trans q0, (hb.cell (p := ⟨g, _, none⟩) hl).trans q1, (hb.cell (p := ⟨g, _, none⟩) hl).trans q2, (hb.cell (p := ⟨g, _, none⟩) hl).trans q3, (hb.cell (p := ⟨g, _, none⟩) hl).trans q4, (hb.cell (p := ⟨g, _, none⟩) hl).trans q5⟩
theorem fiveAt {D : World} {g : Nat} {A0 A1 : Option Addr} {k0 k1 : Nat} {m0 m1 : List Cl} {x1 x2 x3 x4 x5 y1 y2 y3 y4 y5 z1 z2 z3 z4 z5 u1 u2 u3 u4 u5 t1 t2 t3 t4 t5 : Int} {t : TypeId}
    (h : D.heap[g]? = some (.cells #[.slice A0 m0.length k0, .int .i64 x1, .int .i64 x2, .int .i64 x3, .int .i64 x4, .int .i64 x5, .slice A1 m1.length k1, .int .i64 y1, .int .i64 y2, .int .i64 y3, .int .i64 y4, .int .i64 y5, .slice A1 m1.length k1, .int .i64 z1, .int .i64 z2, .int .i64 z3, .int .i64 z4, .int .i64 z5, .slice A0 m0.length k0, .int .i64 u1, .int .i64 u2, .int .i64 u3, .int .i64 u4, .int .i64 u5, .slice A1 m1.length k1, .int .i64 t1, .int .i64 t2, .int .i64 t3, .int .i64 t4, .int .i64 t5] t))
    (h0 : CS D D.heap.size (.slice A0 m0.length k0) m0) (h1 : CS D D.heap.size (.slice A1 m1.length k1) m1) (l0 : m0.length ≤ 60) (l1 : m1.length ≤ 60) : Five D g := by
  refine ⟨ltG h, fun j hj => ?_⟩
  match j, hj with
  | 0, _ => exact ⟨A0, k0, m0, x1, x2, x3, x4, x5, h0, l0, cellG h 0 rfl, cellG h 1 rfl, cellG h 2 rfl, cellG h 3 rfl, cellG h 4 rfl, cellG h 5 rfl⟩
  | 1, _ => exact ⟨A1, k1, m1, y1, y2, y3, y4, y5, h1, l1, cellG h 6 rfl, cellG h 7 rfl, cellG h 8 rfl, cellG h 9 rfl, cellG h 10 rfl, cellG h 11 rfl⟩
  | 2, _ => exact ⟨A1, k1, m1, z1, z2, z3, z4, z5, h1, l1, cellG h 12 rfl, cellG h 13 rfl, cellG h 14 rfl, cellG h 15 rfl, cellG h 16 rfl, cellG h 17 rfl⟩
  | 3, _ => exact ⟨A0, k0, m0, u1, u2, u3, u4, u5, h0, l0, cellG h 18 rfl, cellG h 19 rfl, cellG h 20 rfl, cellG h 21 rfl, cellG h 22 rfl, cellG h 23 rfl⟩
  | 4, _ => exact ⟨A1, k1, m1, t1, t2, t3, t4, t5, h1, l1, cellG h 24 rfl, cellG h 25 rfl, cellG h 26 rfl, cellG h 27 rfl, cellG h 28 rfl, cellG h 29 rfl⟩
/-- A struct of a slice of cells and five numbers in a block of its own. -/
def Six (w : World) (g : Nat) (v : Value) (W a b c d : Int) : Prop := w.cell? ⟨g, 0, none⟩ = some v ∧ w.cell? ⟨g, 1, none⟩ = some (.int .i64 W) ∧ w.cell? ⟨g, 2, none⟩ = some (.int .i64 a) ∧ w.cell? ⟨g, 3, none⟩ = some (.int .i64 b) ∧ w.cell? ⟨g, 4, none⟩ = some (.int .i64 c) ∧ w.cell? ⟨g, 5, none⟩ = some (.int .i64 d)
structure SixIn (D : World) (g : Nat) (v : Value) (W a b c d : Int) : Prop where
  lt : g < D.heap.size
  six : Six D g v W a b c d
theorem sixAt {w : World} {g : Nat} {v : Value} {W a b c d : Int} {t : TypeId} (h : w.heap[g]? = some (.cells #[v, .int .i64 W, .int .i64 a, .int .i64 b, .int .i64 c, .int .i64 d] t)) : SixIn w g v W a b c d :=
  ⟨ltG h, cellG h 0 rfl, cellG h 1 rfl, cellG h 2 rfl, cellG h 3 rfl, cellG h 4 rfl, cellG h 5 rfl⟩
theorem SixIn.below {D w : World} {g : Nat} {v : Value} {W a b c d : Int} (h : SixIn D g v W a b c d) (hb : Below D.heap.size D w) : Six w g v W a b c d := by
  obtain ⟨hl, q0, q1, q2, q3, q4, q5⟩ := h
  exact ⟨(hb.cell (p := ⟨g, _, none⟩) hl).trans q0, (hb.cell (p := ⟨g, _, none⟩) hl).trans q1, (hb.cell (p := ⟨g, _, none⟩) hl).trans q2, (hb.cell (p := ⟨g, _, none⟩) hl).trans q3, (hb.cell (p := ⟨g, _, none⟩) hl).trans q4, (hb.cell (p := ⟨g, _, none⟩) hl).trans q5⟩
theorem SixIn.at_ {D w : World} {g : Nat} {v : Value} {W a b c d : Int} (h : SixIn D g v W a b c d) (hb : Below D.heap.size D w) : SixIn w g v W a b c d := ⟨Nat.lt_of_lt_of_le h.lt hb.size, h.below hb⟩
/-- Cells in new memory, told by a call in a world behind D. -/
def At (D : World) (l : List Cl) (w : World) (e : Ending) (w' : World) : Prop := ∃ A k, e = .returned (.slice A l.length k) ∧ CS w' w'.heap.size (.slice A l.length k) l ∧ Below D.heap.size D w' ∧ Below w.heap.size w w'
theorem at_cs {D w : World} {l : List Cl} {P : Program} {f : Nat} {args : Array Value} (hb : Below D.heap.size D w) (h : Calls P f args w (CsPost l w)) : Calls P f args w (At D l w) := by
  refine h.mono ?_
  rintro e w' ⟨v, he, hv, hb2⟩
  obtain ⟨A, k, rfl, _, _⟩ := hv.form
  exact ⟨A, k, he, hv, hb.trans (hb2.mono hb.size), hb2⟩
theorem sameAt {D w : World} {va vb : Value} {l : List Cl} (h : Below D.heap.size D w) (ha : CS w w.heap.size va l) (hb : CS w w.heap.size vb l) (hl : l.length ≤ 2000) :
    Calls Try.prog 9 #[va, vb] w fun e w' => e = .returned (.bool true) ∧ Below D.heap.size D w' := by
  refine (sameC_eq va vb l w ha hb (by omega)).mono ?_
  rintro e w' ⟨he, hb2⟩
  exact ⟨he, h.trans (hb2.mono h.size)⟩
def TlRel (D : World) (i : Value) (wr : World) : Prop := ∃ j : Nat, j ≤ 5 ∧ i = .int .i64 (j : Int) ∧ Below D.heap.size D wr
end Go.Proofs.Ytejemcpkmfhenaa

namespace Go.Proofs.Ytejemcpkmfhenaa
open Go.RowKit
set_option linter.unusedVariables false
set_option linter.unusedSimpArgs false

/-- The temporary j holds v. -/
def Has (a : Act) (j : Nat) (v : Value) : Prop := a.tmps[j]? = some v
section
variable {a b c : Act} {i j lo hi lo' hi' : Nat} {u v : Value}
theorem Has.eval (h : Has a j v) : a.eval (.tmp j) = v := by
  unfold Has at h
  unfold Act.eval
  simp only
  rw [Array.getD_eq_getD_getElem?, h]
  rfl
theorem Has.put_same (hi : i < a.tmps.size) : Has (a.put (some i) v) i v := by
  unfold Has Act.put
  simp only
  rw [Array.getElem?_setIfInBounds, if_pos rfl, if_pos hi]
theorem Has.put_ne (h : Has a j v) (hne : i ≠ j) : Has (a.put (some i) u) j v := by
  unfold Has Act.put at *
  simp only
  rw [Array.getElem?_setIfInBounds, if_neg hne]
  exact h
/-- The frames differ in the temporaries from lo to hi (not hi itself) alone. -/
structure Agree (lo hi : Nat) (a b : Act) : Prop where
  size : b.tmps.size = a.tmps.size
  defers : b.defers = a.defers
  same : ∀ j, j < lo ∨ hi ≤ j → b.tmps[j]? = a.tmps[j]?
theorem Agree.refl : Agree lo hi a a := ⟨rfl, rfl, fun _ _ => rfl⟩
theorem Agree.put (h : Agree lo hi a b) (h1 : lo ≤ i) (h2 : i < hi) : Agree lo hi a (b.put (some i) u) := by
  obtain ⟨h3, h4, h5⟩ := h
  refine ⟨?_, ?_, fun j hj => ?_⟩
  · unfold Act.put; simp only; rw [Array.size_setIfInBounds, h3]
  · unfold Act.put; exact h4
  · unfold Act.put
    simp only
    rw [Array.getElem?_setIfInBounds, if_neg (by omega)]
    exact h5 j hj
theorem Agree.has (h : Agree lo hi a b) (hv : Has a j v) (hj : j < lo ∨ hi ≤ j) : Has b j v := (h.same j hj).trans hv
theorem Agree.trans (h : Agree lo hi a b) (h' : Agree lo' hi' b c) (h1 : lo ≤ lo') (h2 : hi' ≤ hi) : Agree lo hi a c :=
  ⟨h'.size.trans h.size, h'.defers.trans h.defers, fun j hj => (h'.same j (by omega)).trans (h.same j hj)⟩
theorem Agree.wide (h : Agree lo' hi' a b) (h1 : lo ≤ lo') (h2 : hi' ≤ hi) : Agree lo hi a b := ⟨h.size, h.defers, fun j hj => h.same j (by omega)⟩
/-- The same as a row that is written out. -/
def rowOfF (n lo hi : Nat) (u f : Nat → Value) : List Value := (List.range n).map fun j => bif Nat.ble lo j && Nat.blt j hi then f j else u j
theorem Agree.form (h : Agree lo hi a b) (n : Nat) (hn : a.tmps.size = n) (u : Nat → Value) (hu : ∀ j, j < n → a.tmps[j]? = some (u j)) : ∃ f : Nat → Value, b = ⟨(rowOfF n lo hi u f).toArray, a.defers⟩ ∧ ∀ j v, lo ≤ j → Has b j v → f j = v := by
  refine ⟨fun j => b.tmps.getD j undef, ?_, fun j v _ hv => ?_⟩
  · obtain ⟨bt, bd⟩ := b
    obtain ⟨h3, h4, h5⟩ := h
    simp only at h3 h4 h5 ⊢
    subst h4
    congr 1
    apply Array.ext_getElem?
    intro j
    unfold rowOfF
    refine Eq.trans ?_ (List.getElem?_toArray ..).symm
    rw [List.getElem?_map]
    by_cases hj : j < n
    · rw [List.getElem?_range hj]
      simp only [Option.map_some]
      have hjb : j < bt.size := by omega
      cases hb : (Nat.ble lo j && Nat.blt j hi) with
      | true =>
        simp only [cond_true]
        rw [Array.getD_eq_getD_getElem?, Array.getElem?_eq_getElem hjb]
        rfl
      | false =>
        simp only [cond_false]
        have hne : j < lo ∨ hi ≤ j := by
          rcases Nat.lt_or_ge j lo with h | h
          · exact .inl h
          · rcases Nat.lt_or_ge j hi with h' | h'
            · rw [show Nat.ble lo j = true by simpa using h, show Nat.blt j hi = true by simpa [Nat.blt_eq] using h'] at hb
              exact absurd hb (by decide)
            · exact .inr h'
        rw [h5 j hne, hu j hj]
    · rw [Array.getElem?_eq_none (by omega), List.getElem?_eq_none (by simp; omega)]
      rfl
  · unfold Has at hv
    simp only
    rw [Array.getD_eq_getD_getElem?, hv]
    rfl
end
section
variable {P : Program} {ops : Array Oper} {Q : Exit → Act → World → Prop} {S : World → Prop}
/-- The operations one by one, in this order: (i, true): number i yields its value in every world that meets S; (i, false): number i is carried out. -/
def RunH (P : Program) (ops : Array Oper) (Q : Exit → Act → World → Prop) (S : World → Prop) : List (Nat × Bool) → Act → World → Prop
  | [], a, w => Q .normal a w
  | (i, true) :: rest, a, w => ∃ o v, ops[i]? = some o ∧ YieldsIf P ops S o v a ∧ S w ∧ RunH P ops Q S rest (a.put o.dst v) w
  | (i, false) :: rest, a, w => wpOp P ops Q i (fun a' w' => S w' ∧ RunH P ops Q S rest a' w') a w
/-- What has come up, as the bits of a number. -/
def bitsUp (n m : Nat) : Array Bool := ((List.range n).map fun j => m.testBit j).toArray
theorem bitsUp_get (n m j : Nat) : (bitsUp n m)[j]? = if j < n then some (m.testBit j) else none := by
  unfold bitsUp
  rw [List.getElem?_toArray, List.getElem?_map]
  by_cases h : j < n
  · rw [List.getElem?_range h, if_pos h]; rfl
  · rw [List.getElem?_eq_none (by simp; omega), if_neg h]; rfl
theorem bitsUp_zero (n : Nat) : Array.replicate n false = bitsUp n 0 := by
  apply Array.ext_getElem?
  intro j
  rw [bitsUp_get, Array.getElem?_replicate, Nat.zero_testBit]
theorem bitsUp_set (n m i : Nat) : (bitsUp n m).setIfInBounds i true = bitsUp n (m ||| 2 ^ i) := by
  apply Array.ext_getElem?
  intro j
  rw [Array.getElem?_setIfInBounds, bitsUp_get, bitsUp_get, Nat.testBit_or, Nat.testBit_two_pow]
  have hs : (bitsUp n m).size = n := by simp [bitsUp]
  rw [hs]
  by_cases h : i = j
  · subst h
    rw [if_pos rfl]
    by_cases h2 : i < n
    · rw [if_pos h2, if_pos h2]; simp
    · rw [if_neg h2, if_neg h2]
  · rw [if_neg h]
    simp [h]
theorem blt_no {x y : Nat} (h : ¬ x < y) : Nat.blt x y = false := by
  cases e : Nat.blt x y with
  | false => rfl
  | true => exact absurd (by simpa [Nat.blt_eq] using e) h
theorem ble_no {x y : Nat} (h : ¬ x ≤ y) : Nat.ble x y = false := by
  cases e : Nat.ble x y with
  | false => rfl
  | true => exact absurd (Nat.le_of_ble_eq_true e) h
theorem blt_yes {x y : Nat} (h : x < y) : Nat.blt x y = true := by
  cases e : Nat.blt x y with
  | true => rfl
  | false => exact absurd h (fun h => by have : Nat.blt x y = true := by simpa [Nat.blt_eq] using h
                                         rw [e] at this; cases this)
/-- A test of all operations with their numbers. -/
def allIdx (p : Nat → Oper → Bool) : Nat → List Oper → Bool
  | _, [] => true
  | k, o :: l => p k o && allIdx p (k + 1) l
theorem allIdx_get {p : Nat → Oper → Bool} : ∀ (l : List Oper) (k : Nat), allIdx p k l = true → ∀ (j : Nat) (o : Oper), l[j]? = some o → p (k + j) o = true
  | [], _, _, j, o, h => by simp at h
  | x :: l, k, h, j, o, hj => by
    unfold allIdx at h
    rw [Bool.and_eq_true] at h
    match j, hj with
    | 0, hj =>
      simp at hj
      subst hj
      exact h.1
    | j + 1, hj =>
      have := allIdx_get l (k + 1) h.2 j o (by simpa using hj)
      rw [show k + (j + 1) = k + 1 + j by omega]
      exact this
/-- Each operation writes a temporary of its own, from lo on, and waits for those whose temporaries it looks at. -/
def okOwn (ops : Array Oper) (lo n : Nat) : Bool :=
  allIdx (fun j o => (o.dst == some (lo + j)) && (o.looksAt ops).all fun t => Nat.blt t lo || Nat.ble (lo + n) t || o.after.toList.any fun e => Region.binds .any e && e.on == t - lo) 0 ops.toList
def readyB (n m j : Nat) (o : Oper) : Bool := !m.testBit j && o.after.all fun e => !Region.binds .any e || (Nat.blt e.on n && m.testBit e.on)
/-- May they come up in that order, each of those that are carried out with no other one beside it? The third: what has come up behind it. -/
def okSteps (ops : Array Oper) (n : Nat) : List (Nat × Bool × Nat) → Nat → Bool
  | [], m => m == 2 ^ n - 1
  | (i, t, m') :: rest, m => ((m ||| 2 ^ i) == m') && (match ops.toList[i]? with | some o => readyB n m i o | none => false) && (t || allIdx (fun j o => j == i || !readyB n m j o) 0 ops.toList) && okSteps ops n rest m'
theorem mem_bits {n m i : Nat} {o : Oper} (ho : ops[i]? = some o) (hn : ops.size = n) : i ∈ Region.ready .any ops (bitsUp n m) ↔ readyB n m i o = true := by
  have hi : i < n := by rw [← hn]; exact (Array.getElem?_eq_some_iff.1 ho).1
  have hb : ∀ j d, (bitsUp n m).getD j d = if j < n then m.testBit j else d := fun j d => by
    rw [Array.getD_eq_getD_getElem?, bitsUp_get]
    split <;> rfl
  unfold Region.ready readyB
  rw [List.mem_filter, List.mem_range, hn]
  simp only [hb, ho, Option.map_some, Option.getD_some, if_pos hi]
  constructor
  · rintro ⟨_, h⟩
    rw [Bool.and_eq_true] at h ⊢
    refine ⟨h.1, ?_⟩
    rw [Array.all_eq_true_iff_forall_mem] at h ⊢
    intro e he
    have := h.2 e he
    by_cases h2 : e.on < n
    · rw [if_pos h2] at this
      rw [blt_yes h2, Bool.true_and]
      exact this
    · rw [if_neg h2] at this
      rw [blt_no h2, Bool.false_and]
      exact this
  · intro h
    refine ⟨hi, ?_⟩
    rw [Bool.and_eq_true] at h ⊢
    refine ⟨h.1, ?_⟩
    rw [Array.all_eq_true_iff_forall_mem] at h ⊢
    intro e he
    have := h.2 e he
    by_cases h2 : e.on < n
    · rw [blt_yes h2, Bool.true_and] at this
      rw [if_pos h2]
      exact this
    · rw [blt_no h2, Bool.false_and] at this
      rw [if_neg h2]
      exact this
theorem apart_own {lo n m i j : Nat} {oi oj : Oper} (hok : okOwn ops lo n = true) (hn : ops.size = n) (hi : ops[i]? = some oi) (hj : ops[j]? = some oj) (hne : j ≠ i)
    (hr : readyB n m i oi = true) (hun : (bitsUp n m).getD j true = false) (hno : ∀ e ∈ oj.after, Region.binds .any e = true → e.on ≠ i) : oi.apart ops oj = true := by
  have li : i < n := by rw [← hn]; exact (Array.getElem?_eq_some_iff.1 hi).1
  have lj : j < n := by rw [← hn]; exact (Array.getElem?_eq_some_iff.1 hj).1
  have gi := allIdx_get _ _ hok i oi (by rw [Array.getElem?_toList]; exact hi)
  have gj := allIdx_get _ _ hok j oj (by rw [Array.getElem?_toList]; exact hj)
  simp only [Nat.zero_add, Bool.and_eq_true, beq_iff_eq, List.all_eq_true] at gi gj
  obtain ⟨di, li'⟩ := gi
  obtain ⟨dj, lj'⟩ := gj
  have hbj : m.testBit j = false := by
    rw [Array.getD_eq_getD_getElem?, bitsUp_get, if_pos lj] at hun
    exact hun
  have h1 : lo + i ∉ oj.looksAt ops := fun h => by
    have := lj' _ h
    rw [blt_no (show ¬ lo + i < lo by omega), ble_no (show ¬ lo + n ≤ lo + i by omega), Bool.false_or, Bool.false_or, List.any_eq_true] at this
    obtain ⟨e, he, h2⟩ := this
    rw [Bool.and_eq_true, beq_iff_eq] at h2
    exact hno e (Array.mem_toList_iff.1 he) h2.1 (by omega)
  have h2 : lo + j ∉ oi.looksAt ops := fun h => by
    have := li' _ h
    rw [blt_no (show ¬ lo + j < lo by omega), ble_no (show ¬ lo + n ≤ lo + j by omega), Bool.false_or, Bool.false_or, List.any_eq_true] at this
    obtain ⟨e, he, h2⟩ := this
    rw [Bool.and_eq_true, beq_iff_eq] at h2
    unfold readyB at hr
    rw [Bool.and_eq_true, Array.all_eq_true_iff_forall_mem] at hr
    have h3 := hr.2 e (Array.mem_toList_iff.1 he)
    rw [h2.1] at h3
    have e2 : e.on = j := by omega
    rw [e2, hbj] at h3
    simp at h3
  unfold Oper.apart
  rw [di, dj]
  have h3 : ¬ lo + j = lo + i := by omega
  simp [h1, h2, h3, hne]
theorem run_held {lo n : Nat} (hs : Region.noSelect ops = true) (hQ : ∀ c d v a w, Q (.panic c) (Act.put a d v) w → Q (.panic c) a w) (hn : ops.size = n) (hown : okOwn ops lo n = true) :
    ∀ (ord : List (Nat × Bool × Nat)) (fuel m : Nat) (a : Act) (w : World), ord.length ≤ fuel → okSteps ops n ord m = true → RunH P ops Q S (ord.map fun x => (x.1, x.2.1)) a w → wpAnyH P .any ops Q S fuel (bitsUp n m) a w := by
  intro ord
  induction ord with
  | nil =>
    intro fuel m a w _ hok h
    refine wpAnyH_done ?_ h fuel
    unfold okSteps at hok
    rw [beq_iff_eq] at hok
    apply List.eq_nil_iff_forall_not_mem.2
    intro i hi
    have h1 : i < n := by
      unfold Region.ready at hi
      rw [List.mem_filter, List.mem_range, hn] at hi
      exact hi.1
    obtain ⟨o, ho⟩ : ∃ o, ops[i]? = some o := ⟨_, Array.getElem?_eq_getElem (by omega)⟩
    rw [mem_bits ho hn] at hi
    unfold readyB at hi
    rw [hok, Nat.testBit_two_pow_sub_one] at hi
    simp [h1] at hi
  | cons x rest ih =>
    obtain ⟨i, t, m'⟩ := x
    intro fuel m a w hl hok h
    obtain ⟨f, rfl⟩ : ∃ f, fuel = f + 1 := ⟨fuel - 1, by simp at hl; omega⟩
    have hl' : rest.length ≤ f := by simpa using hl
    unfold okSteps at hok
    rw [Bool.and_eq_true, Bool.and_eq_true, Bool.and_eq_true, beq_iff_eq] at hok
    obtain ⟨⟨⟨h1, h2⟩, h3⟩, h4⟩ := hok
    subst h1
    cases ho : ops.toList[i]? with
    | none => rw [ho] at h2; cases h2
    | some o =>
      rw [ho] at h2
      simp only at h2
      rw [Array.getElem?_toList] at ho
      have hmem := (mem_bits ho hn).2 h2
      cases t with
      | true =>
        obtain ⟨o', v, ho', hy, hS, hr⟩ := h
        obtain rfl : o = o' := by rw [ho] at ho'; exact Option.some.inj ho'
        refine wpAnyH_first ho (fun j oj cs b hj => Region.noSelect_spec hs j oj cs b hj) (fun c a w => hQ c o.dst v a w) f _ a w (fun j oj hj hne hun hno => apart_own hown hn ho hj hne h2 hun hno) hmem hy hS ?_
        rw [bitsUp_set]
        exact ih f _ _ _ hl' h4 hr
      | false =>
        have hrs : ∀ j ∈ Region.ready .any ops (bitsUp n m), j = i := fun j hj => by
          have hjn : j < n := by
            unfold Region.ready at hj
            rw [List.mem_filter, List.mem_range, hn] at hj
            exact hj.1
          obtain ⟨oj, hoj⟩ : ∃ o, ops[j]? = some o := ⟨_, Array.getElem?_eq_getElem (by omega)⟩
          rw [mem_bits hoj hn] at hj
          rw [Bool.false_or] at h3
          have := allIdx_get _ _ h3 j oj (by rw [Array.getElem?_toList]; exact hoj)
          rw [Nat.zero_add, hj] at this
          simpa using this
        refine wpAnyH_all rfl (List.ne_nil_of_mem hmem) fun j hj => ?_
        obtain rfl := hrs j hj
        refine wpOp_mono (fun a' w' hh => ⟨hh.1, ?_⟩) h
        rw [bitsUp_set]
        exact ih f _ _ _ hl' h4 hh.2
/-- A region that draws its order: a walk in one order serves. -/
theorem region_run {id lo n : Nat} {a : Act} {w : World} (ord : List (Nat × Bool × Nat)) (hm : P.follows .mixedOrders = true) (hs : Region.noSelect ops = true) (hQ : ∀ c d v a w, Q (.panic c) (Act.put a d v) w → Q (.panic c) a w)
    (hn : ops.size = n) (hl : Nat.ble ord.length n = true) (hown : okOwn ops lo n = true) (hok : okSteps ops n ord 0 = true) (hS : S w.drew) (h : RunH P ops Q S (ord.map fun x => (x.1, x.2.1)) a w.drew) : (Code.region id ops true).wp P Q a w :=
  wp_region_held_drew hm hS fun _ => by
    rw [hn, bitsUp_zero]
    exact run_held hs hQ hn hown ord n 0 a _ (Nat.le_of_ble_eq_true hl) hok h

variable {a : Act} {w : World} {i d : Nat} {v : Value} {op : Op} {g : Option (Nat × Bool)} {rest : List (Nat × Bool)}
/-- Is it asked for, with such a guard? -/
def Asked (ops : Array Oper) (a : Act) : Option (Nat × Bool) → Prop
  | none => True
  | some (g, b) => ∃ t, (ops[g]?).bind (·.dst) = some t ∧ Has a t (.bool b)
theorem Asked.wanted {o : Oper} (hg : o.guard = g) (h : Asked ops a g) : Region.wanted o (yielded ops a.tmps) = true := by
  cases g with
  | none => simp [Region.wanted, hg]
  | some x =>
    obtain ⟨j, b⟩ := x
    obtain ⟨t, h1, h2⟩ := h
    have : yielded ops a.tmps j = some b := by
      unfold Has at h2
      simp [yielded, h1, h2]
    simp [Region.wanted, hg, this]
theorem RunH.pure (i d : Nat) (op : Op) (g : Option (Nat × Bool)) (v : Value) (ho : (ops[i]?).map (fun o => (o.dst, o.op, o.guard)) = some (some d, op, g)) (hg : Asked ops a g)
    (hx : ∀ o : Oper, o.op = op → ∀ w, S w → (execOp a.eval o).run P w = .ok (.value v) w) (hS : S w) (h : RunH P ops Q S rest (a.put (some d) v) w) : RunH P ops Q S ((i, true) :: rest) a w := by
  cases hi : ops[i]? with
  | none => rw [hi] at ho; cases ho
  | some o =>
    rw [hi] at ho
    simp only [Option.map_some, Option.some.injEq, Prod.mk.injEq] at ho
    obtain ⟨h1, h2, h3⟩ := ho
    refine ⟨o, v, hi, .inl ⟨hg.wanted h3, fun w hw => hx o h2 w hw⟩, hS, ?_⟩
    rw [h1]
    exact h
/-- Is number f a function with a body of its own? -/
def isGo (P : Program) (f : Nat) : Bool := match P.funcs[f]? with
  | some fn => !(fn.name == "runtime.NumGoroutine") && fn.body.isSome
  | none => false
theorem run_go {f : Nat} (h : isGo P f = true) (args : Array Value) (w : World) : (callFunc f args).run P w = .ok (.enter f args) w := by
  unfold isGo at h
  cases hf : P.funcs[f]? with
  | none => rw [hf] at h; cases h
  | some fn =>
    rw [hf] at h
    simp only [Bool.and_eq_true, Bool.not_eq_true'] at h
    obtain ⟨h1, h2⟩ := h
    obtain ⟨c, hc⟩ := Option.isSome_iff_exists.1 h2
    unfold callFunc
    have h1' : ¬ fn.name = "runtime.NumGoroutine" := fun e => by rw [e] at h1; exact absurd h1 (by decide)
    simp [hf, h1', hc, go_sem]
theorem RunH.call (i d f : Nat) (args : Array Operand) (tys : Array TypeId) (g : Option (Nat × Bool)) (vals : Array Value) (ho : (ops[i]?).map (fun o => (o.dst, o.op, o.guard)) = some (some d, .call { callee := .value (.func f), args := args, argTypes := tys }, g)) (hg : Asked ops a g)
    (hv : args.map a.eval = vals) (hf : isGo P f = true) (h : Calls P f vals w fun e w' => ∃ v, e = .returned v ∧ S w' ∧ RunH P ops Q S rest (a.put (some d) v) w') : RunH P ops Q S ((i, false) :: rest) a w := by
  cases hi : ops[i]? with
  | none => rw [hi] at ho; cases ho
  | some o =>
    rw [hi] at ho
    simp only [Option.map_some, Option.some.injEq, Prod.mk.injEq] at ho
    obtain ⟨h1, h2, h3⟩ := ho
    unfold RunH wpOp
    simp only [hi]
    rw [if_pos (hg.wanted h3)]
    left
    have hr : (execOp a.eval o).run P w = .ok (.enter f vals) w := by
      unfold execOp
      simp only [h2]
      subst hv
      simp [resolve, Deferred.ofValue, invoke, Act.eval, go_sem]
      exact run_go hf _ w
    unfold Oper.wp
    rw [hr, Oper.upon_enter]
    refine h.mono ?_
    rintro e w' ⟨v, rfl, h4, h5⟩
    rw [h1]
    exact ⟨h4, h5⟩
/-- Where a walk stands: the frame b is the first one but for the temporaries from lo to hi; what is known of it. -/
structure St (n lo hi : Nat) (a b : Act) (L : List (Nat × Value)) : Prop where
  size : b.tmps.size = n
  agree : Agree lo hi a b
  holds : ∀ j v, L.lookup j = some v → Has b j v
section
variable {n lo hi : Nat} {b : Act} {L : List (Nat × Value)} {j : Nat}
theorem St.eval (h : St n lo hi a b L) (hl : L.lookup j = some v) : b.eval (.tmp j) = v := (h.holds j v hl).eval
theorem St.put (h : St n lo hi a b L) (hd : d < n) (h1 : lo ≤ d) (h2 : d < hi) : St n lo hi a (b.put (some d) v) ((d, v) :: L) := by
  obtain ⟨h3, h4, h5⟩ := h
  refine ⟨?_, h4.put h1 h2, fun j x hx => ?_⟩
  · unfold Act.put; simp only; rw [Array.size_setIfInBounds, h3]
  · rw [List.lookup_cons] at hx
    by_cases e : j = d
    · subst e
      simp at hx
      subst hx
      exact Has.put_same (by omega)
    · have e2 : (j == d) = false := by simpa using e
      rw [e2] at hx
      exact (h5 j x hx).put_ne (Ne.symm e)
theorem St.asked (h : St n lo hi a b L) (k : Nat) (x : Bool) (t : Nat) (h1 : (ops[k]?).bind (·.dst) = some t) (h2 : L.lookup t = some (.bool x)) : Asked ops b (some (k, x)) := ⟨t, h1, h.holds t _ h2⟩
/-- A step that yields its value. -/
theorem St.pure (h : St n lo hi a b L) (i d : Nat) (op : Op) (g : Option (Nat × Bool)) (v : Value) (ho : (ops[i]?).map (fun o => (o.dst, o.op, o.guard)) = some (some d, op, g)) (hg : Asked ops b g)
    (hx : ∀ o : Oper, o.op = op → ∀ w, S w → (execOp b.eval o).run P w = .ok (.value v) w) (hS : S w) (hd : d < n) (h1 : lo ≤ d) (h2 : d < hi)
    (hr : ∀ b', St n lo hi a b' ((d, v) :: L) → RunH P ops Q S rest b' w) : RunH P ops Q S ((i, true) :: rest) b w :=
  RunH.pure i d op g v ho hg hx hS (hr _ (h.put hd h1 h2))
/-- A call. -/
theorem St.call (h : St n lo hi a b L) (i d f : Nat) (args : Array Operand) (tys : Array TypeId) (g : Option (Nat × Bool)) (vals : Array Value) (ho : (ops[i]?).map (fun o => (o.dst, o.op, o.guard)) = some (some d, .call { callee := .value (.func f), args := args, argTypes := tys }, g)) (hg : Asked ops b g)
    (hv : args.map b.eval = vals) (hf : isGo P f = true) (hd : d < n) (h1 : lo ≤ d) (h2 : d < hi)
    (hc : Calls P f vals w fun e w' => ∃ v, e = .returned v ∧ S w' ∧ ∀ b', St n lo hi a b' ((d, v) :: L) → RunH P ops Q S rest b' w') : RunH P ops Q S ((i, false) :: rest) b w :=
  RunH.call i d f args tys g vals ho hg hv hf (hc.mono fun e w' ⟨v, he, hS, hr⟩ => ⟨v, he, hS, hr _ (h.put hd h1 h2)⟩)
theorem map2 {ρ : Operand → Value} {x1 x2 : Operand} {v1 v2 : Value} (h1 : ρ x1 = v1) (h2 : ρ x2 = v2) : #[x1, x2].map ρ = #[v1, v2] := by simp [h1, h2]
theorem map3 {ρ : Operand → Value} {x1 x2 x3 : Operand} {v1 v2 v3 : Value} (h1 : ρ x1 = v1) (h2 : ρ x2 = v2) (h3 : ρ x3 = v3) : #[x1, x2, x3].map ρ = #[v1, v2, v3] := by simp [h1, h2, h3]
theorem map5 {ρ : Operand → Value} {x1 x2 x3 x4 x5 : Operand} {v1 v2 v3 v4 v5 : Value} (h1 : ρ x1 = v1) (h2 : ρ x2 = v2) (h3 : ρ x3 = v3) (h4 : ρ x4 = v4) (h5 : ρ x5 = v5) : #[x1, x2, x3, x4, x5].map ρ = #[v1, v2, v3, v4, v5] := by simp [h1, h2, h3, h4, h5]
end
theorem exec_move {ρ : Operand → Value} {x : Operand} (v : Value) (h : ρ x = v) (o : Oper) (ho : o.op = .move x) (w : World) : (execOp ρ o).run P w = .ok (.value v) w := by
  subst h
  simp [execOp, ho, go_sem]
theorem exec_pick {ρ : Operand → Value} {c x y : Operand} (b : Bool) (v : Value) (hc : ρ c = .bool b) (h : (bif b then ρ x else ρ y) = v) (o : Oper) (ho : o.op = .pick c x y) (w : World) : (execOp ρ o).run P w = .ok (.value v) w := by
  subst h
  cases b <;> simp [execOp, ho, hc, asBool, go_sem]
theorem exec_pickF {ρ : Operand → Value} {c x y : Operand} (v : Value) (hc : ρ c = .bool false) (h : ρ y = v) (o : Oper) (ho : o.op = .pick c x y) (w : World) : (execOp ρ o).run P w = .ok (.value v) w := exec_pick false v hc h o ho w
theorem exec_not {ρ : Operand → Value} {x : Operand} {t : TypeId} (b : Bool) (h : ρ x = .bool b) (o : Oper) (ho : o.op = .unOp .not t x) (w : World) : (execOp ρ o).run P w = .ok (.value (.bool (!b))) w := by
  simp [execOp, ho, h, Op.unary, go_sem]
end
end Go.Proofs.Ytejemcpkmfhenaa

namespace Go.Proofs.Ytejemcpkmfhenaa
open Go.RowKit
set_option linter.unusedVariables false
set_option linter.unusedSimpArgs false

section
variable {ρ : Operand → Value} {x : Operand} {g : Nat}
theorem tx_field0 (h : ρ x = .pointer (some ⟨g, 0, none⟩)) (o : Oper) (ho : o.op = .fieldAddr 34 x 0) (w : World) : (execOp ρ o).run Try.prog w = .ok (.value (.pointer (some ⟨g, 0, none⟩))) w := by
  obtain ⟨dst, op, ty, pos, after, guard⟩ := o
  simp only at ho
  subst ho
  unfold execOp
  simp only [h]
  go_simp
theorem tx_field1 (h : ρ x = .pointer (some ⟨g, 0, none⟩)) (o : Oper) (ho : o.op = .fieldAddr 34 x 1) (w : World) : (execOp ρ o).run Try.prog w = .ok (.value (.pointer (some ⟨g, 1, none⟩))) w := by
  obtain ⟨dst, op, ty, pos, after, guard⟩ := o
  simp only at ho
  subst ho
  unfold execOp
  simp only [h]
  go_simp
theorem tx_field2 (h : ρ x = .pointer (some ⟨g, 0, none⟩)) (o : Oper) (ho : o.op = .fieldAddr 34 x 2) (w : World) : (execOp ρ o).run Try.prog w = .ok (.value (.pointer (some ⟨g, 2, none⟩))) w := by
  obtain ⟨dst, op, ty, pos, after, guard⟩ := o
  simp only at ho
  subst ho
  unfold execOp
  simp only [h]
  go_simp
theorem tx_field3 (h : ρ x = .pointer (some ⟨g, 0, none⟩)) (o : Oper) (ho : o.op = .fieldAddr 34 x 3) (w : World) : (execOp ρ o).run Try.prog w = .ok (.value (.pointer (some ⟨g, 3, none⟩))) w := by
  obtain ⟨dst, op, ty, pos, after, guard⟩ := o
  simp only at ho
  subst ho
  unfold execOp
  simp only [h]
  go_simp
theorem tx_field4 (h : ρ x = .pointer (some ⟨g, 0, none⟩)) (o : Oper) (ho : o.op = .fieldAddr 34 x 4) (w : World) : (execOp ρ o).run Try.prog w = .ok (.value (.pointer (some ⟨g, 4, none⟩))) w := by
  obtain ⟨dst, op, ty, pos, after, guard⟩ := o
  simp only at ho
  subst ho
  unfold execOp
  simp only [h]
  go_simp
theorem tx_field5 (h : ρ x = .pointer (some ⟨g, 0, none⟩)) (o : Oper) (ho : o.op = .fieldAddr 34 x 5) (w : World) : (execOp ρ o).run Try.prog w = .ok (.value (.pointer (some ⟨g, 5, none⟩))) w := by
  obtain ⟨dst, op, ty, pos, after, guard⟩ := o
  simp only at ho
  subst ho
  unfold execOp
  simp only [h]
  go_simp
theorem tx_rows (h : ρ x = .pointer (some ⟨g, 0, none⟩)) (o : Oper) (ho : o.op = .fieldAddr 32 x 0) (w : World) : (execOp ρ o).run Try.prog w = .ok (.value (.pointer (some ⟨g, 0, none⟩))) w := by
  obtain ⟨dst, op, ty, pos, after, guard⟩ := o
  simp only at ho
  subst ho
  unfold execOp
  simp only [h]
  go_simp
theorem tx_loadI {ad : Addr} {n : Int} (h : ρ x = .pointer (some ad)) (o : Oper) (ho : o.op = .load 3 x) (w : World) (hc : w.cell? ad = some (.int .i64 n)) : (execOp ρ o).run Try.prog w = .ok (.value (.int .i64 n)) w := by
  obtain ⟨dst, op, ty, pos, after, guard⟩ := o
  simp only at ho
  subst ho
  unfold execOp
  simp only [h]
  go_simp
theorem tx_loadC {ad : Addr} {A : Option Addr} {n k : Nat} (h : ρ x = .pointer (some ad)) (o : Oper) (ho : o.op = .load 22 x) (w : World) (hc : w.cell? ad = some (.slice A n k)) : (execOp ρ o).run Try.prog w = .ok (.value (.slice A n k)) w := by
  obtain ⟨dst, op, ty, pos, after, guard⟩ := o
  simp only at ho
  subst ho
  unfold execOp
  simp only [h]
  go_simp
theorem tx_min {n m : Int} (hm : (if 40 < n then 40 else n) = m) (h : ρ x = .int .i64 n) (o : Oper) (ho : o.op = .call { callee := .builtin .min, args := #[x, .const (.int .i64 40)], argTypes := #[3, 3] }) (hc : ρ (.const (.int .i64 40)) = .int .i64 40) (w : World) : (execOp ρ o).run Try.prog w = .ok (.value (.int .i64 m)) w := by
  obtain ⟨dst, op, ty, pos, after, guard⟩ := o
  simp only at ho
  subst ho
  subst hm
  unfold execOp
  simp only [resolve, Array.map, h]
  go_simp
end
end Go.Proofs.Ytejemcpkmfhenaa

namespace Go.Proofs.Ytejemcpkmfhenaa
open Go.RowKit
set_option linter.unusedVariables false
set_option linter.unusedSimpArgs false

noncomputable def tgReg10 : Code := (Try.f3.body.bind (findRegionG 10)).getD .skip
noncomputable def tgOps10 : Array Oper := match tgReg10 with
  | .region _ ops _ => ops
  | _ => #[]
def tgOrd10 : List (Nat × Bool × Nat) := [(0, true, 1), (1, true, 3), (2, true, 7), (3, true, 15), (4, true, 31), (5, true, 63), (6, true, 127), (7, true, 255), (8, true, 511), (9, true, 1023), (11, true, 3071), (12, true, 7167), (13, true, 15359), (14, true, 31743), (15, true, 64511), (16, true, 130047), (17, true, 261119), (18, true, 523263), (19, true, 1047551), (20, true, 2096127), (10, false, 2097151), (21, false, 4194303), (22, false, 8388607), (23, true, 16777215), (24, true, 33554431), (25, true, 67108863), (26, true, 134217727), (27, true, 268435455), (28, true, 536870911), (29, true, 1073741823), (30, true, 2147483647), (31, true, 4294967295), (32, true, 8589934591), (33, true, 17179869183), (34, true, 34359738367), (36, true, 103079215103), (37, true, 240518168575), (38, true, 515396075519), (39, true, 1065151889407), (40, true, 2164663517183), (41, true, 4363686772735), (42, true, 8761733283839), (43, true, 17557826306047), (44, true, 35150012350463), (45, true, 70334384439295), (35, false, 70368744177663), (46, false, 140737488355327), (47, false, 281474976710655), (48, true, 562949953421311), (49, true, 1125899906842623), (50, true, 2251799813685247), (51, true, 4503599627370495), (52, true, 9007199254740991), (53, true, 18014398509481983), (54, true, 36028797018963967), (55, true, 72057594037927935), (56, true, 144115188075855871), (57, true, 288230376151711743), (58, true, 576460752303423487), (59, true, 1152921504606846975), (60, true, 2305843009213693951), (62, true, 6917529027641081855), (63, true, 16140901064495857663), (64, true, 34587645138205409279), (65, true, 71481133285624512511), (66, true, 145268109580462718975), (67, true, 292842062170139131903), (68, true, 587989967349491957759), (69, true, 1178285777708197609471), (70, true, 2358877398425608912895), (71, true, 4720060639860431519743), (61, false, 4722366482869645213695), (72, false, 9444732965739290427391), (73, false, 18889465931478580854783), (74, true, 37778931862957161709567), (75, true, 75557863725914323419135), (76, true, 151115727451828646838271), (77, true, 302231454903657293676543), (78, true, 604462909807314587353087), (79, true, 1208925819614629174706175), (80, true, 2417851639229258349412351), (81, true, 4835703278458516698824703), (82, true, 9671406556917033397649407), (83, true, 19342813113834066795298815), (84, true, 38685626227668133590597631), (85, true, 77371252455336267181195263), (86, true, 154742504910672534362390527), (88, true, 464227514732017603087171583), (89, true, 1083197534374707740536733695), (90, true, 2321137573660088015435857919), (91, true, 4797017652230848565234106367), (92, true, 9748777809372369664830603263), (93, true, 19652298123655411864023597055), (94, true, 39459338752221496262409584639), (95, true, 79073420009353665059181559807), (96, true, 158301582523618002652725510143), (97, true, 316757907552146677839813410815), (87, false, 316912650057057350374175801343), (98, false, 633825300114114700748351602687), (99, false, 1267650600228229401496703205375), (100, true, 2535301200456458802993406410751), (101, true, 5070602400912917605986812821503)]
theorem tgIs10 : tgReg10 = .region 10 tgOps10 true := by kernel_rfl
theorem tgSize10 : tgOps10.size = 102 := by kernel_rfl
theorem tgOwn10 : okOwn tgOps10 112 102 = true := by kernel_rfl
theorem tgOk10 : okSteps tgOps10 102 tgOrd10 0 = true := by kernel_rfl
theorem tgSel10 : Region.noSelect tgOps10 = true := by kernel_rfl
theorem tgLen10 : Nat.ble tgOrd10.length 102 = true := by kernel_rfl
set_option maxRecDepth 100000 in
set_option maxHeartbeats 4000000 in
theorem tgRun10 (A : Option Addr) (k : Nat) (m : List Cl) (W' a b c' d : Int) (pb : Nat) (W9 : World) (hcs : CS W9 W9.heap.size (.slice A m.length k) m) (hml : m.length ≤ 60) (hsix : SixIn W9 pb (.slice A m.length k) W' a b c' d) (Q : Exit → Act → World → Prop)
    (act : Act) (hst : St 303 112 214 act act [(25, .pointer (some ⟨pb, 0, none⟩))]) (hQ : ∀ b wx, Agree 112 214 act b → Has b 213 (.bool false) → Below W9.heap.size W9 wx → Q .normal b wx) :
    RunH Try.prog tgOps10 Q (fun x : World => Six x pb (.slice A m.length k) W' a b c' d) (tgOrd10.map fun x => (x.1, x.2.1)) act W9.drew := by
  have HS := Lib.hid hsix
  have HC := Lib.hid hcs
  have hS0 : Below W9.heap.size W9 W9.drew := (Below.refl _ _).drew
  have HS9 := Lib.hid (show ∀ x : World, Below W9.heap.size W9 x → Six x pb (.slice A m.length k) W' a b c' d from fun x hx => HS.out.below hx)
  have HU := Lib.hid (fun w' hb => at_cs (D := W9) hb (gup_any (.slice A m.length k) m W' a b c' w' ((HC.out.below hb).more hb.size) (by omega)))
  have HUr := Lib.hid (fun w' hb => at_cs (D := W9) hb ((Up_any (.slice A m.length k) m W' a b c' w' ((HC.out.below hb).more hb.size) (by omega)).mono fun {_ _} h => h.toCs))
  have HD := Lib.hid (fun w' hb => at_cs (D := W9) hb (gdown_any (.slice A m.length k) m W' a b c' w' ((HC.out.below hb).more hb.size) (by omega)))
  have HDr := Lib.hid (fun w' hb => at_cs (D := W9) hb ((Down_any (.slice A m.length k) m W' a b c' w' ((HC.out.below hb).more hb.size) (by omega)).mono fun {_ _} h => h.toCs))
  have HI := Lib.hid (fun w' hb => at_cs (D := W9) hb (ginsert_any (.slice A m.length k) m W' a b c' w' ((HC.out.below hb).more hb.size) (by omega)))
  have HIr := Lib.hid (fun w' hb => at_cs (D := W9) hb ((Insert_any (.slice A m.length k) m W' a b c' w' ((HC.out.below hb).more hb.size) (by omega)).mono fun {_ _} h => h.toCs))
  have HE := Lib.hid (fun w' hb => at_cs (D := W9) hb (gdelete_any (.slice A m.length k) m W' a b c' w' ((HC.out.below hb).more hb.size) (by omega)))
  have HEr := Lib.hid (fun w' hb => at_cs (D := W9) hb ((Delete_any (.slice A m.length k) m W' a b c' w' ((HC.out.below hb).more hb.size) (by omega)).mono fun {_ _} h => h.toCs))
  have HLU := Lib.hid (show (upL m W' a b c').length ≤ 2000 by rw [upL_len]; omega)
  have HLDn := Lib.hid (show (downL m W' a b c').length ≤ 2000 by rw [downL_len]; omega)
  have HLI := Lib.hid (show (insertL m W' a b c').length ≤ 2000 by rw [insertL_len]; omega)
  have HLE := Lib.hid (show (deleteL m W' a b c').length ≤ 2000 by rw [deleteL_len]; omega)
  have hSw := HS9.out _ hS0
  clear hcs hsix
  simp only [tgOrd10, List.map_cons, List.map_nil]
  refine hst.pure 0 112 (.fieldAddr 34 (.tmp 25) 0) none (.pointer (some ⟨pb, 0, none⟩)) (by kernel_rfl) trivial (fun o ho w _ => tx_field0 (hst.eval (by rfl)) o ho w) hSw (by decide) (by decide) (by decide) fun bt hst => ?_
  refine hst.pure 1 113 (.load 22 (.tmp 112)) none (Value.slice A m.length k) (by kernel_rfl) trivial (fun o ho w hw => tx_loadC (hst.eval (by rfl)) o ho w hw.1) hSw (by decide) (by decide) (by decide) fun bt hst => ?_
  refine hst.pure 2 114 (.fieldAddr 34 (.tmp 25) 1) none (.pointer (some ⟨pb, 1, none⟩)) (by kernel_rfl) trivial (fun o ho w _ => tx_field1 (hst.eval (by rfl)) o ho w) hSw (by decide) (by decide) (by decide) fun bt hst => ?_
  refine hst.pure 3 115 (.load 3 (.tmp 114)) none (.int .i64 W') (by kernel_rfl) trivial (fun o ho w hw => tx_loadI (hst.eval (by rfl)) o ho w hw.2.1) hSw (by decide) (by decide) (by decide) fun bt hst => ?_
  refine hst.pure 4 116 (.fieldAddr 34 (.tmp 25) 2) none (.pointer (some ⟨pb, 2, none⟩)) (by kernel_rfl) trivial (fun o ho w _ => tx_field2 (hst.eval (by rfl)) o ho w) hSw (by decide) (by decide) (by decide) fun bt hst => ?_
  refine hst.pure 5 117 (.load 3 (.tmp 116)) none (.int .i64 a) (by kernel_rfl) trivial (fun o ho w hw => tx_loadI (hst.eval (by rfl)) o ho w hw.2.2.1) hSw (by decide) (by decide) (by decide) fun bt hst => ?_
  refine hst.pure 6 118 (.fieldAddr 34 (.tmp 25) 3) none (.pointer (some ⟨pb, 3, none⟩)) (by kernel_rfl) trivial (fun o ho w _ => tx_field3 (hst.eval (by rfl)) o ho w) hSw (by decide) (by decide) (by decide) fun bt hst => ?_
  refine hst.pure 7 119 (.load 3 (.tmp 118)) none (.int .i64 b) (by kernel_rfl) trivial (fun o ho w hw => tx_loadI (hst.eval (by rfl)) o ho w hw.2.2.2.1) hSw (by decide) (by decide) (by decide) fun bt hst => ?_
  refine hst.pure 8 120 (.fieldAddr 34 (.tmp 25) 4) none (.pointer (some ⟨pb, 4, none⟩)) (by kernel_rfl) trivial (fun o ho w _ => tx_field4 (hst.eval (by rfl)) o ho w) hSw (by decide) (by decide) (by decide) fun bt hst => ?_
  refine hst.pure 9 121 (.load 3 (.tmp 120)) none (.int .i64 c') (by kernel_rfl) trivial (fun o ho w hw => tx_loadI (hst.eval (by rfl)) o ho w hw.2.2.2.2.1) hSw (by decide) (by decide) (by decide) fun bt hst => ?_
  refine hst.pure 11 123 (.fieldAddr 34 (.tmp 25) 0) none (.pointer (some ⟨pb, 0, none⟩)) (by kernel_rfl) trivial (fun o ho w _ => tx_field0 (hst.eval (by rfl)) o ho w) hSw (by decide) (by decide) (by decide) fun bt hst => ?_
  refine hst.pure 12 124 (.load 22 (.tmp 123)) none (Value.slice A m.length k) (by kernel_rfl) trivial (fun o ho w hw => tx_loadC (hst.eval (by rfl)) o ho w hw.1) hSw (by decide) (by decide) (by decide) fun bt hst => ?_
  refine hst.pure 13 125 (.fieldAddr 34 (.tmp 25) 1) none (.pointer (some ⟨pb, 1, none⟩)) (by kernel_rfl) trivial (fun o ho w _ => tx_field1 (hst.eval (by rfl)) o ho w) hSw (by decide) (by decide) (by decide) fun bt hst => ?_
  refine hst.pure 14 126 (.load 3 (.tmp 125)) none (.int .i64 W') (by kernel_rfl) trivial (fun o ho w hw => tx_loadI (hst.eval (by rfl)) o ho w hw.2.1) hSw (by decide) (by decide) (by decide) fun bt hst => ?_
  refine hst.pure 15 127 (.fieldAddr 34 (.tmp 25) 2) none (.pointer (some ⟨pb, 2, none⟩)) (by kernel_rfl) trivial (fun o ho w _ => tx_field2 (hst.eval (by rfl)) o ho w) hSw (by decide) (by decide) (by decide) fun bt hst => ?_
  refine hst.pure 16 128 (.load 3 (.tmp 127)) none (.int .i64 a) (by kernel_rfl) trivial (fun o ho w hw => tx_loadI (hst.eval (by rfl)) o ho w hw.2.2.1) hSw (by decide) (by decide) (by decide) fun bt hst => ?_
  refine hst.pure 17 129 (.fieldAddr 34 (.tmp 25) 3) none (.pointer (some ⟨pb, 3, none⟩)) (by kernel_rfl) trivial (fun o ho w _ => tx_field3 (hst.eval (by rfl)) o ho w) hSw (by decide) (by decide) (by decide) fun bt hst => ?_
  refine hst.pure 18 130 (.load 3 (.tmp 129)) none (.int .i64 b) (by kernel_rfl) trivial (fun o ho w hw => tx_loadI (hst.eval (by rfl)) o ho w hw.2.2.2.1) hSw (by decide) (by decide) (by decide) fun bt hst => ?_
  refine hst.pure 19 131 (.fieldAddr 34 (.tmp 25) 4) none (.pointer (some ⟨pb, 4, none⟩)) (by kernel_rfl) trivial (fun o ho w _ => tx_field4 (hst.eval (by rfl)) o ho w) hSw (by decide) (by decide) (by decide) fun bt hst => ?_
  refine hst.pure 20 132 (.load 3 (.tmp 131)) none (.int .i64 c') (by kernel_rfl) trivial (fun o ho w hw => tx_loadI (hst.eval (by rfl)) o ho w hw.2.2.2.2.1) hSw (by decide) (by decide) (by decide) fun bt hst => ?_
  refine hst.call 10 122 10 #[.tmp 113, .tmp 115, .tmp 117, .tmp 119, .tmp 121] #[22, 3, 3, 3, 3] none #[Value.slice A m.length k, .int .i64 W', .int .i64 a, .int .i64 b, .int .i64 c'] (by kernel_rfl) trivial (map5 (hst.eval (by rfl)) (hst.eval (by rfl)) (hst.eval (by rfl)) (hst.eval (by rfl)) (hst.eval (by rfl))) (by kernel_rfl) (by decide) (by decide) (by decide) ?_
  refine (HU.out _ hS0).mono ?_
  rintro e w1 ⟨A1, k1, rfl, ha, bb1, -⟩
  refine ⟨_, rfl, HS9.out _ bb1, fun bt hst => ?_⟩
  have hSw := HS9.out _ bb1
  refine hst.call 21 133 11 #[.tmp 124, .tmp 126, .tmp 128, .tmp 130, .tmp 132] #[22, 3, 3, 3, 3] none #[Value.slice A m.length k, .int .i64 W', .int .i64 a, .int .i64 b, .int .i64 c'] (by kernel_rfl) trivial (map5 (hst.eval (by rfl)) (hst.eval (by rfl)) (hst.eval (by rfl)) (hst.eval (by rfl)) (hst.eval (by rfl))) (by kernel_rfl) (by decide) (by decide) (by decide) ?_
  refine (HUr.out _ bb1).mono ?_
  rintro e w2 ⟨A2, k2, rfl, hb, bb2, bb'⟩
  have ha := (ha.below bb').more bb'.size
  refine ⟨_, rfl, HS9.out _ bb2, fun bt hst => ?_⟩
  have hSw := HS9.out _ bb2
  refine hst.call 22 134 9 #[.tmp 122, .tmp 133] #[22, 22] none #[.slice A1 _ k1, .slice A2 _ k2] (by kernel_rfl) trivial (map2 (hst.eval (by rfl)) (hst.eval (by rfl))) (by kernel_rfl) (by decide) (by decide) (by decide) ?_
  refine (sameAt (D := W9) bb2 ha hb (by first | exact HLU.out | exact HLDn.out | exact HLI.out | exact HLE.out)).mono ?_
  rintro e w3 ⟨rfl, bc3⟩
  refine ⟨_, rfl, HS9.out _ bc3, fun bt hst => ?_⟩
  have hSw := HS9.out _ bc3
  refine hst.pure 23 135 (.unOp .not 4 (.tmp 134)) none (.bool (!true)) (by kernel_rfl) trivial (fun o ho w _ => exec_not true (hst.eval (by rfl)) o ho w) hSw (by decide) (by decide) (by decide) fun bt hst => ?_
  refine hst.pure 24 136 (.move (.tmp 135)) none (.bool false) (by kernel_rfl) trivial (fun o ho w _ => exec_move _ (hst.eval (by rfl)) o ho w) hSw (by decide) (by decide) (by decide) fun bt hst => ?_
  refine hst.pure 25 137 (.fieldAddr 34 (.tmp 25) 0) (some (24, false)) (.pointer (some ⟨pb, 0, none⟩)) (by kernel_rfl) (hst.asked 24 false 136 (by kernel_rfl) (by rfl)) (fun o ho w _ => tx_field0 (hst.eval (by rfl)) o ho w) hSw (by decide) (by decide) (by decide) fun bt hst => ?_
  refine hst.pure 26 138 (.load 22 (.tmp 137)) (some (24, false)) (Value.slice A m.length k) (by kernel_rfl) (hst.asked 24 false 136 (by kernel_rfl) (by rfl)) (fun o ho w hw => tx_loadC (hst.eval (by rfl)) o ho w hw.1) hSw (by decide) (by decide) (by decide) fun bt hst => ?_
  refine hst.pure 27 139 (.fieldAddr 34 (.tmp 25) 1) (some (24, false)) (.pointer (some ⟨pb, 1, none⟩)) (by kernel_rfl) (hst.asked 24 false 136 (by kernel_rfl) (by rfl)) (fun o ho w _ => tx_field1 (hst.eval (by rfl)) o ho w) hSw (by decide) (by decide) (by decide) fun bt hst => ?_
  refine hst.pure 28 140 (.load 3 (.tmp 139)) (some (24, false)) (.int .i64 W') (by kernel_rfl) (hst.asked 24 false 136 (by kernel_rfl) (by rfl)) (fun o ho w hw => tx_loadI (hst.eval (by rfl)) o ho w hw.2.1) hSw (by decide) (by decide) (by decide) fun bt hst => ?_
  refine hst.pure 29 141 (.fieldAddr 34 (.tmp 25) 2) (some (24, false)) (.pointer (some ⟨pb, 2, none⟩)) (by kernel_rfl) (hst.asked 24 false 136 (by kernel_rfl) (by rfl)) (fun o ho w _ => tx_field2 (hst.eval (by rfl)) o ho w) hSw (by decide) (by decide) (by decide) fun bt hst => ?_
  refine hst.pure 30 142 (.load 3 (.tmp 141)) (some (24, false)) (.int .i64 a) (by kernel_rfl) (hst.asked 24 false 136 (by kernel_rfl) (by rfl)) (fun o ho w hw => tx_loadI (hst.eval (by rfl)) o ho w hw.2.2.1) hSw (by decide) (by decide) (by decide) fun bt hst => ?_
  refine hst.pure 31 143 (.fieldAddr 34 (.tmp 25) 3) (some (24, false)) (.pointer (some ⟨pb, 3, none⟩)) (by kernel_rfl) (hst.asked 24 false 136 (by kernel_rfl) (by rfl)) (fun o ho w _ => tx_field3 (hst.eval (by rfl)) o ho w) hSw (by decide) (by decide) (by decide) fun bt hst => ?_
  refine hst.pure 32 144 (.load 3 (.tmp 143)) (some (24, false)) (.int .i64 b) (by kernel_rfl) (hst.asked 24 false 136 (by kernel_rfl) (by rfl)) (fun o ho w hw => tx_loadI (hst.eval (by rfl)) o ho w hw.2.2.2.1) hSw (by decide) (by decide) (by decide) fun bt hst => ?_
  refine hst.pure 33 145 (.fieldAddr 34 (.tmp 25) 4) (some (24, false)) (.pointer (some ⟨pb, 4, none⟩)) (by kernel_rfl) (hst.asked 24 false 136 (by kernel_rfl) (by rfl)) (fun o ho w _ => tx_field4 (hst.eval (by rfl)) o ho w) hSw (by decide) (by decide) (by decide) fun bt hst => ?_
  refine hst.pure 34 146 (.load 3 (.tmp 145)) (some (24, false)) (.int .i64 c') (by kernel_rfl) (hst.asked 24 false 136 (by kernel_rfl) (by rfl)) (fun o ho w hw => tx_loadI (hst.eval (by rfl)) o ho w hw.2.2.2.2.1) hSw (by decide) (by decide) (by decide) fun bt hst => ?_
  refine hst.pure 36 148 (.fieldAddr 34 (.tmp 25) 0) (some (24, false)) (.pointer (some ⟨pb, 0, none⟩)) (by kernel_rfl) (hst.asked 24 false 136 (by kernel_rfl) (by rfl)) (fun o ho w _ => tx_field0 (hst.eval (by rfl)) o ho w) hSw (by decide) (by decide) (by decide) fun bt hst => ?_
  refine hst.pure 37 149 (.load 22 (.tmp 148)) (some (24, false)) (Value.slice A m.length k) (by kernel_rfl) (hst.asked 24 false 136 (by kernel_rfl) (by rfl)) (fun o ho w hw => tx_loadC (hst.eval (by rfl)) o ho w hw.1) hSw (by decide) (by decide) (by decide) fun bt hst => ?_
  refine hst.pure 38 150 (.fieldAddr 34 (.tmp 25) 1) (some (24, false)) (.pointer (some ⟨pb, 1, none⟩)) (by kernel_rfl) (hst.asked 24 false 136 (by kernel_rfl) (by rfl)) (fun o ho w _ => tx_field1 (hst.eval (by rfl)) o ho w) hSw (by decide) (by decide) (by decide) fun bt hst => ?_
  refine hst.pure 39 151 (.load 3 (.tmp 150)) (some (24, false)) (.int .i64 W') (by kernel_rfl) (hst.asked 24 false 136 (by kernel_rfl) (by rfl)) (fun o ho w hw => tx_loadI (hst.eval (by rfl)) o ho w hw.2.1) hSw (by decide) (by decide) (by decide) fun bt hst => ?_
  refine hst.pure 40 152 (.fieldAddr 34 (.tmp 25) 2) (some (24, false)) (.pointer (some ⟨pb, 2, none⟩)) (by kernel_rfl) (hst.asked 24 false 136 (by kernel_rfl) (by rfl)) (fun o ho w _ => tx_field2 (hst.eval (by rfl)) o ho w) hSw (by decide) (by decide) (by decide) fun bt hst => ?_
  refine hst.pure 41 153 (.load 3 (.tmp 152)) (some (24, false)) (.int .i64 a) (by kernel_rfl) (hst.asked 24 false 136 (by kernel_rfl) (by rfl)) (fun o ho w hw => tx_loadI (hst.eval (by rfl)) o ho w hw.2.2.1) hSw (by decide) (by decide) (by decide) fun bt hst => ?_
  refine hst.pure 42 154 (.fieldAddr 34 (.tmp 25) 3) (some (24, false)) (.pointer (some ⟨pb, 3, none⟩)) (by kernel_rfl) (hst.asked 24 false 136 (by kernel_rfl) (by rfl)) (fun o ho w _ => tx_field3 (hst.eval (by rfl)) o ho w) hSw (by decide) (by decide) (by decide) fun bt hst => ?_
  refine hst.pure 43 155 (.load 3 (.tmp 154)) (some (24, false)) (.int .i64 b) (by kernel_rfl) (hst.asked 24 false 136 (by kernel_rfl) (by rfl)) (fun o ho w hw => tx_loadI (hst.eval (by rfl)) o ho w hw.2.2.2.1) hSw (by decide) (by decide) (by decide) fun bt hst => ?_
  refine hst.pure 44 156 (.fieldAddr 34 (.tmp 25) 4) (some (24, false)) (.pointer (some ⟨pb, 4, none⟩)) (by kernel_rfl) (hst.asked 24 false 136 (by kernel_rfl) (by rfl)) (fun o ho w _ => tx_field4 (hst.eval (by rfl)) o ho w) hSw (by decide) (by decide) (by decide) fun bt hst => ?_
  refine hst.pure 45 157 (.load 3 (.tmp 156)) (some (24, false)) (.int .i64 c') (by kernel_rfl) (hst.asked 24 false 136 (by kernel_rfl) (by rfl)) (fun o ho w hw => tx_loadI (hst.eval (by rfl)) o ho w hw.2.2.2.2.1) hSw (by decide) (by decide) (by decide) fun bt hst => ?_
  refine hst.call 35 147 12 #[.tmp 138, .tmp 140, .tmp 142, .tmp 144, .tmp 146] #[22, 3, 3, 3, 3] (some (24, false)) #[Value.slice A m.length k, .int .i64 W', .int .i64 a, .int .i64 b, .int .i64 c'] (by kernel_rfl) (hst.asked 24 false 136 (by kernel_rfl) (by rfl)) (map5 (hst.eval (by rfl)) (hst.eval (by rfl)) (hst.eval (by rfl)) (hst.eval (by rfl)) (hst.eval (by rfl))) (by kernel_rfl) (by decide) (by decide) (by decide) ?_
  refine (HD.out _ bc3).mono ?_
  rintro e w4 ⟨A4, k4, rfl, ha, bb4, -⟩
  refine ⟨_, rfl, HS9.out _ bb4, fun bt hst => ?_⟩
  have hSw := HS9.out _ bb4
  refine hst.call 46 158 13 #[.tmp 149, .tmp 151, .tmp 153, .tmp 155, .tmp 157] #[22, 3, 3, 3, 3] (some (24, false)) #[Value.slice A m.length k, .int .i64 W', .int .i64 a, .int .i64 b, .int .i64 c'] (by kernel_rfl) (hst.asked 24 false 136 (by kernel_rfl) (by rfl)) (map5 (hst.eval (by rfl)) (hst.eval (by rfl)) (hst.eval (by rfl)) (hst.eval (by rfl)) (hst.eval (by rfl))) (by kernel_rfl) (by decide) (by decide) (by decide) ?_
  refine (HDr.out _ bb4).mono ?_
  rintro e w5 ⟨A5, k5, rfl, hb, bb5, bb'⟩
  have ha := (ha.below bb').more bb'.size
  refine ⟨_, rfl, HS9.out _ bb5, fun bt hst => ?_⟩
  have hSw := HS9.out _ bb5
  refine hst.call 47 159 9 #[.tmp 147, .tmp 158] #[22, 22] (some (24, false)) #[.slice A4 _ k4, .slice A5 _ k5] (by kernel_rfl) (hst.asked 24 false 136 (by kernel_rfl) (by rfl)) (map2 (hst.eval (by rfl)) (hst.eval (by rfl))) (by kernel_rfl) (by decide) (by decide) (by decide) ?_
  refine (sameAt (D := W9) bb5 ha hb (by first | exact HLU.out | exact HLDn.out | exact HLI.out | exact HLE.out)).mono ?_
  rintro e w6 ⟨rfl, bc6⟩
  refine ⟨_, rfl, HS9.out _ bc6, fun bt hst => ?_⟩
  have hSw := HS9.out _ bc6
  refine hst.pure 48 160 (.unOp .not 4 (.tmp 159)) (some (24, false)) (.bool (!true)) (by kernel_rfl) (hst.asked 24 false 136 (by kernel_rfl) (by rfl)) (fun o ho w _ => exec_not true (hst.eval (by rfl)) o ho w) hSw (by decide) (by decide) (by decide) fun bt hst => ?_
  refine hst.pure 49 161 (.pick (.tmp 136) (.const (.bool true)) (.tmp 160)) none (.bool false) (by kernel_rfl) trivial (fun o ho w _ => exec_pickF _ (hst.eval (by rfl)) (hst.eval (by rfl)) o ho w) hSw (by decide) (by decide) (by decide) fun bt hst => ?_
  refine hst.pure 50 162 (.move (.tmp 161)) none (.bool false) (by kernel_rfl) trivial (fun o ho w _ => exec_move _ (hst.eval (by rfl)) o ho w) hSw (by decide) (by decide) (by decide) fun bt hst => ?_
  refine hst.pure 51 163 (.fieldAddr 34 (.tmp 25) 0) (some (50, false)) (.pointer (some ⟨pb, 0, none⟩)) (by kernel_rfl) (hst.asked 50 false 162 (by kernel_rfl) (by rfl)) (fun o ho w _ => tx_field0 (hst.eval (by rfl)) o ho w) hSw (by decide) (by decide) (by decide) fun bt hst => ?_
  refine hst.pure 52 164 (.load 22 (.tmp 163)) (some (50, false)) (Value.slice A m.length k) (by kernel_rfl) (hst.asked 50 false 162 (by kernel_rfl) (by rfl)) (fun o ho w hw => tx_loadC (hst.eval (by rfl)) o ho w hw.1) hSw (by decide) (by decide) (by decide) fun bt hst => ?_
  refine hst.pure 53 165 (.fieldAddr 34 (.tmp 25) 1) (some (50, false)) (.pointer (some ⟨pb, 1, none⟩)) (by kernel_rfl) (hst.asked 50 false 162 (by kernel_rfl) (by rfl)) (fun o ho w _ => tx_field1 (hst.eval (by rfl)) o ho w) hSw (by decide) (by decide) (by decide) fun bt hst => ?_
  refine hst.pure 54 166 (.load 3 (.tmp 165)) (some (50, false)) (.int .i64 W') (by kernel_rfl) (hst.asked 50 false 162 (by kernel_rfl) (by rfl)) (fun o ho w hw => tx_loadI (hst.eval (by rfl)) o ho w hw.2.1) hSw (by decide) (by decide) (by decide) fun bt hst => ?_
  refine hst.pure 55 167 (.fieldAddr 34 (.tmp 25) 2) (some (50, false)) (.pointer (some ⟨pb, 2, none⟩)) (by kernel_rfl) (hst.asked 50 false 162 (by kernel_rfl) (by rfl)) (fun o ho w _ => tx_field2 (hst.eval (by rfl)) o ho w) hSw (by decide) (by decide) (by decide) fun bt hst => ?_
  refine hst.pure 56 168 (.load 3 (.tmp 167)) (some (50, false)) (.int .i64 a) (by kernel_rfl) (hst.asked 50 false 162 (by kernel_rfl) (by rfl)) (fun o ho w hw => tx_loadI (hst.eval (by rfl)) o ho w hw.2.2.1) hSw (by decide) (by decide) (by decide) fun bt hst => ?_
  refine hst.pure 57 169 (.fieldAddr 34 (.tmp 25) 3) (some (50, false)) (.pointer (some ⟨pb, 3, none⟩)) (by kernel_rfl) (hst.asked 50 false 162 (by kernel_rfl) (by rfl)) (fun o ho w _ => tx_field3 (hst.eval (by rfl)) o ho w) hSw (by decide) (by decide) (by decide) fun bt hst => ?_
  refine hst.pure 58 170 (.load 3 (.tmp 169)) (some (50, false)) (.int .i64 b) (by kernel_rfl) (hst.asked 50 false 162 (by kernel_rfl) (by rfl)) (fun o ho w hw => tx_loadI (hst.eval (by rfl)) o ho w hw.2.2.2.1) hSw (by decide) (by decide) (by decide) fun bt hst => ?_
  refine hst.pure 59 171 (.fieldAddr 34 (.tmp 25) 4) (some (50, false)) (.pointer (some ⟨pb, 4, none⟩)) (by kernel_rfl) (hst.asked 50 false 162 (by kernel_rfl) (by rfl)) (fun o ho w _ => tx_field4 (hst.eval (by rfl)) o ho w) hSw (by decide) (by decide) (by decide) fun bt hst => ?_
  refine hst.pure 60 172 (.load 3 (.tmp 171)) (some (50, false)) (.int .i64 c') (by kernel_rfl) (hst.asked 50 false 162 (by kernel_rfl) (by rfl)) (fun o ho w hw => tx_loadI (hst.eval (by rfl)) o ho w hw.2.2.2.2.1) hSw (by decide) (by decide) (by decide) fun bt hst => ?_
  refine hst.pure 62 174 (.fieldAddr 34 (.tmp 25) 0) (some (50, false)) (.pointer (some ⟨pb, 0, none⟩)) (by kernel_rfl) (hst.asked 50 false 162 (by kernel_rfl) (by rfl)) (fun o ho w _ => tx_field0 (hst.eval (by rfl)) o ho w) hSw (by decide) (by decide) (by decide) fun bt hst => ?_
  refine hst.pure 63 175 (.load 22 (.tmp 174)) (some (50, false)) (Value.slice A m.length k) (by kernel_rfl) (hst.asked 50 false 162 (by kernel_rfl) (by rfl)) (fun o ho w hw => tx_loadC (hst.eval (by rfl)) o ho w hw.1) hSw (by decide) (by decide) (by decide) fun bt hst => ?_
  refine hst.pure 64 176 (.fieldAddr 34 (.tmp 25) 1) (some (50, false)) (.pointer (some ⟨pb, 1, none⟩)) (by kernel_rfl) (hst.asked 50 false 162 (by kernel_rfl) (by rfl)) (fun o ho w _ => tx_field1 (hst.eval (by rfl)) o ho w) hSw (by decide) (by decide) (by decide) fun bt hst => ?_
  refine hst.pure 65 177 (.load 3 (.tmp 176)) (some (50, false)) (.int .i64 W') (by kernel_rfl) (hst.asked 50 false 162 (by kernel_rfl) (by rfl)) (fun o ho w hw => tx_loadI (hst.eval (by rfl)) o ho w hw.2.1) hSw (by decide) (by decide) (by decide) fun bt hst => ?_
  refine hst.pure 66 178 (.fieldAddr 34 (.tmp 25) 2) (some (50, false)) (.pointer (some ⟨pb, 2, none⟩)) (by kernel_rfl) (hst.asked 50 false 162 (by kernel_rfl) (by rfl)) (fun o ho w _ => tx_field2 (hst.eval (by rfl)) o ho w) hSw (by decide) (by decide) (by decide) fun bt hst => ?_
  refine hst.pure 67 179 (.load 3 (.tmp 178)) (some (50, false)) (.int .i64 a) (by kernel_rfl) (hst.asked 50 false 162 (by kernel_rfl) (by rfl)) (fun o ho w hw => tx_loadI (hst.eval (by rfl)) o ho w hw.2.2.1) hSw (by decide) (by decide) (by decide) fun bt hst => ?_
  refine hst.pure 68 180 (.fieldAddr 34 (.tmp 25) 3) (some (50, false)) (.pointer (some ⟨pb, 3, none⟩)) (by kernel_rfl) (hst.asked 50 false 162 (by kernel_rfl) (by rfl)) (fun o ho w _ => tx_field3 (hst.eval (by rfl)) o ho w) hSw (by decide) (by decide) (by decide) fun bt hst => ?_
  refine hst.pure 69 181 (.load 3 (.tmp 180)) (some (50, false)) (.int .i64 b) (by kernel_rfl) (hst.asked 50 false 162 (by kernel_rfl) (by rfl)) (fun o ho w hw => tx_loadI (hst.eval (by rfl)) o ho w hw.2.2.2.1) hSw (by decide) (by decide) (by decide) fun bt hst => ?_
  refine hst.pure 70 182 (.fieldAddr 34 (.tmp 25) 4) (some (50, false)) (.pointer (some ⟨pb, 4, none⟩)) (by kernel_rfl) (hst.asked 50 false 162 (by kernel_rfl) (by rfl)) (fun o ho w _ => tx_field4 (hst.eval (by rfl)) o ho w) hSw (by decide) (by decide) (by decide) fun bt hst => ?_
  refine hst.pure 71 183 (.load 3 (.tmp 182)) (some (50, false)) (.int .i64 c') (by kernel_rfl) (hst.asked 50 false 162 (by kernel_rfl) (by rfl)) (fun o ho w hw => tx_loadI (hst.eval (by rfl)) o ho w hw.2.2.2.2.1) hSw (by decide) (by decide) (by decide) fun bt hst => ?_
  refine hst.call 61 173 14 #[.tmp 164, .tmp 166, .tmp 168, .tmp 170, .tmp 172] #[22, 3, 3, 3, 3] (some (50, false)) #[Value.slice A m.length k, .int .i64 W', .int .i64 a, .int .i64 b, .int .i64 c'] (by kernel_rfl) (hst.asked 50 false 162 (by kernel_rfl) (by rfl)) (map5 (hst.eval (by rfl)) (hst.eval (by rfl)) (hst.eval (by rfl)) (hst.eval (by rfl)) (hst.eval (by rfl))) (by kernel_rfl) (by decide) (by decide) (by decide) ?_
  refine (HI.out _ bc6).mono ?_
  rintro e w7 ⟨A7, k7, rfl, ha, bb7, -⟩
  refine ⟨_, rfl, HS9.out _ bb7, fun bt hst => ?_⟩
  have hSw := HS9.out _ bb7
  refine hst.call 72 184 15 #[.tmp 175, .tmp 177, .tmp 179, .tmp 181, .tmp 183] #[22, 3, 3, 3, 3] (some (50, false)) #[Value.slice A m.length k, .int .i64 W', .int .i64 a, .int .i64 b, .int .i64 c'] (by kernel_rfl) (hst.asked 50 false 162 (by kernel_rfl) (by rfl)) (map5 (hst.eval (by rfl)) (hst.eval (by rfl)) (hst.eval (by rfl)) (hst.eval (by rfl)) (hst.eval (by rfl))) (by kernel_rfl) (by decide) (by decide) (by decide) ?_
  refine (HIr.out _ bb7).mono ?_
  rintro e w8 ⟨A8, k8, rfl, hb, bb8, bb'⟩
  have ha := (ha.below bb').more bb'.size
  refine ⟨_, rfl, HS9.out _ bb8, fun bt hst => ?_⟩
  have hSw := HS9.out _ bb8
  refine hst.call 73 185 9 #[.tmp 173, .tmp 184] #[22, 22] (some (50, false)) #[.slice A7 _ k7, .slice A8 _ k8] (by kernel_rfl) (hst.asked 50 false 162 (by kernel_rfl) (by rfl)) (map2 (hst.eval (by rfl)) (hst.eval (by rfl))) (by kernel_rfl) (by decide) (by decide) (by decide) ?_
  refine (sameAt (D := W9) bb8 ha hb (by first | exact HLU.out | exact HLDn.out | exact HLI.out | exact HLE.out)).mono ?_
  rintro e w9 ⟨rfl, bc9⟩
  refine ⟨_, rfl, HS9.out _ bc9, fun bt hst => ?_⟩
  have hSw := HS9.out _ bc9
  refine hst.pure 74 186 (.unOp .not 4 (.tmp 185)) (some (50, false)) (.bool (!true)) (by kernel_rfl) (hst.asked 50 false 162 (by kernel_rfl) (by rfl)) (fun o ho w _ => exec_not true (hst.eval (by rfl)) o ho w) hSw (by decide) (by decide) (by decide) fun bt hst => ?_
  refine hst.pure 75 187 (.pick (.tmp 162) (.const (.bool true)) (.tmp 186)) none (.bool false) (by kernel_rfl) trivial (fun o ho w _ => exec_pickF _ (hst.eval (by rfl)) (hst.eval (by rfl)) o ho w) hSw (by decide) (by decide) (by decide) fun bt hst => ?_
  refine hst.pure 76 188 (.move (.tmp 187)) none (.bool false) (by kernel_rfl) trivial (fun o ho w _ => exec_move _ (hst.eval (by rfl)) o ho w) hSw (by decide) (by decide) (by decide) fun bt hst => ?_
  refine hst.pure 77 189 (.fieldAddr 34 (.tmp 25) 0) (some (76, false)) (.pointer (some ⟨pb, 0, none⟩)) (by kernel_rfl) (hst.asked 76 false 188 (by kernel_rfl) (by rfl)) (fun o ho w _ => tx_field0 (hst.eval (by rfl)) o ho w) hSw (by decide) (by decide) (by decide) fun bt hst => ?_
  refine hst.pure 78 190 (.load 22 (.tmp 189)) (some (76, false)) (Value.slice A m.length k) (by kernel_rfl) (hst.asked 76 false 188 (by kernel_rfl) (by rfl)) (fun o ho w hw => tx_loadC (hst.eval (by rfl)) o ho w hw.1) hSw (by decide) (by decide) (by decide) fun bt hst => ?_
  refine hst.pure 79 191 (.fieldAddr 34 (.tmp 25) 1) (some (76, false)) (.pointer (some ⟨pb, 1, none⟩)) (by kernel_rfl) (hst.asked 76 false 188 (by kernel_rfl) (by rfl)) (fun o ho w _ => tx_field1 (hst.eval (by rfl)) o ho w) hSw (by decide) (by decide) (by decide) fun bt hst => ?_
  refine hst.pure 80 192 (.load 3 (.tmp 191)) (some (76, false)) (.int .i64 W') (by kernel_rfl) (hst.asked 76 false 188 (by kernel_rfl) (by rfl)) (fun o ho w hw => tx_loadI (hst.eval (by rfl)) o ho w hw.2.1) hSw (by decide) (by decide) (by decide) fun bt hst => ?_
  refine hst.pure 81 193 (.fieldAddr 34 (.tmp 25) 2) (some (76, false)) (.pointer (some ⟨pb, 2, none⟩)) (by kernel_rfl) (hst.asked 76 false 188 (by kernel_rfl) (by rfl)) (fun o ho w _ => tx_field2 (hst.eval (by rfl)) o ho w) hSw (by decide) (by decide) (by decide) fun bt hst => ?_
  refine hst.pure 82 194 (.load 3 (.tmp 193)) (some (76, false)) (.int .i64 a) (by kernel_rfl) (hst.asked 76 false 188 (by kernel_rfl) (by rfl)) (fun o ho w hw => tx_loadI (hst.eval (by rfl)) o ho w hw.2.2.1) hSw (by decide) (by decide) (by decide) fun bt hst => ?_
  refine hst.pure 83 195 (.fieldAddr 34 (.tmp 25) 3) (some (76, false)) (.pointer (some ⟨pb, 3, none⟩)) (by kernel_rfl) (hst.asked 76 false 188 (by kernel_rfl) (by rfl)) (fun o ho w _ => tx_field3 (hst.eval (by rfl)) o ho w) hSw (by decide) (by decide) (by decide) fun bt hst => ?_
  refine hst.pure 84 196 (.load 3 (.tmp 195)) (some (76, false)) (.int .i64 b) (by kernel_rfl) (hst.asked 76 false 188 (by kernel_rfl) (by rfl)) (fun o ho w hw => tx_loadI (hst.eval (by rfl)) o ho w hw.2.2.2.1) hSw (by decide) (by decide) (by decide) fun bt hst => ?_
  refine hst.pure 85 197 (.fieldAddr 34 (.tmp 25) 4) (some (76, false)) (.pointer (some ⟨pb, 4, none⟩)) (by kernel_rfl) (hst.asked 76 false 188 (by kernel_rfl) (by rfl)) (fun o ho w _ => tx_field4 (hst.eval (by rfl)) o ho w) hSw (by decide) (by decide) (by decide) fun bt hst => ?_
  refine hst.pure 86 198 (.load 3 (.tmp 197)) (some (76, false)) (.int .i64 c') (by kernel_rfl) (hst.asked 76 false 188 (by kernel_rfl) (by rfl)) (fun o ho w hw => tx_loadI (hst.eval (by rfl)) o ho w hw.2.2.2.2.1) hSw (by decide) (by decide) (by decide) fun bt hst => ?_
  refine hst.pure 88 200 (.fieldAddr 34 (.tmp 25) 0) (some (76, false)) (.pointer (some ⟨pb, 0, none⟩)) (by kernel_rfl) (hst.asked 76 false 188 (by kernel_rfl) (by rfl)) (fun o ho w _ => tx_field0 (hst.eval (by rfl)) o ho w) hSw (by decide) (by decide) (by decide) fun bt hst => ?_
  refine hst.pure 89 201 (.load 22 (.tmp 200)) (some (76, false)) (Value.slice A m.length k) (by kernel_rfl) (hst.asked 76 false 188 (by kernel_rfl) (by rfl)) (fun o ho w hw => tx_loadC (hst.eval (by rfl)) o ho w hw.1) hSw (by decide) (by decide) (by decide) fun bt hst => ?_
  refine hst.pure 90 202 (.fieldAddr 34 (.tmp 25) 1) (some (76, false)) (.pointer (some ⟨pb, 1, none⟩)) (by kernel_rfl) (hst.asked 76 false 188 (by kernel_rfl) (by rfl)) (fun o ho w _ => tx_field1 (hst.eval (by rfl)) o ho w) hSw (by decide) (by decide) (by decide) fun bt hst => ?_
  refine hst.pure 91 203 (.load 3 (.tmp 202)) (some (76, false)) (.int .i64 W') (by kernel_rfl) (hst.asked 76 false 188 (by kernel_rfl) (by rfl)) (fun o ho w hw => tx_loadI (hst.eval (by rfl)) o ho w hw.2.1) hSw (by decide) (by decide) (by decide) fun bt hst => ?_
  refine hst.pure 92 204 (.fieldAddr 34 (.tmp 25) 2) (some (76, false)) (.pointer (some ⟨pb, 2, none⟩)) (by kernel_rfl) (hst.asked 76 false 188 (by kernel_rfl) (by rfl)) (fun o ho w _ => tx_field2 (hst.eval (by rfl)) o ho w) hSw (by decide) (by decide) (by decide) fun bt hst => ?_
  refine hst.pure 93 205 (.load 3 (.tmp 204)) (some (76, false)) (.int .i64 a) (by kernel_rfl) (hst.asked 76 false 188 (by kernel_rfl) (by rfl)) (fun o ho w hw => tx_loadI (hst.eval (by rfl)) o ho w hw.2.2.1) hSw (by decide) (by decide) (by decide) fun bt hst => ?_
  refine hst.pure 94 206 (.fieldAddr 34 (.tmp 25) 3) (some (76, false)) (.pointer (some ⟨pb, 3, none⟩)) (by kernel_rfl) (hst.asked 76 false 188 (by kernel_rfl) (by rfl)) (fun o ho w _ => tx_field3 (hst.eval (by rfl)) o ho w) hSw (by decide) (by decide) (by decide) fun bt hst => ?_
  refine hst.pure 95 207 (.load 3 (.tmp 206)) (some (76, false)) (.int .i64 b) (by kernel_rfl) (hst.asked 76 false 188 (by kernel_rfl) (by rfl)) (fun o ho w hw => tx_loadI (hst.eval (by rfl)) o ho w hw.2.2.2.1) hSw (by decide) (by decide) (by decide) fun bt hst => ?_
  refine hst.pure 96 208 (.fieldAddr 34 (.tmp 25) 4) (some (76, false)) (.pointer (some ⟨pb, 4, none⟩)) (by kernel_rfl) (hst.asked 76 false 188 (by kernel_rfl) (by rfl)) (fun o ho w _ => tx_field4 (hst.eval (by rfl)) o ho w) hSw (by decide) (by decide) (by decide) fun bt hst => ?_
  refine hst.pure 97 209 (.load 3 (.tmp 208)) (some (76, false)) (.int .i64 c') (by kernel_rfl) (hst.asked 76 false 188 (by kernel_rfl) (by rfl)) (fun o ho w hw => tx_loadI (hst.eval (by rfl)) o ho w hw.2.2.2.2.1) hSw (by decide) (by decide) (by decide) fun bt hst => ?_
  refine hst.call 87 199 16 #[.tmp 190, .tmp 192, .tmp 194, .tmp 196, .tmp 198] #[22, 3, 3, 3, 3] (some (76, false)) #[Value.slice A m.length k, .int .i64 W', .int .i64 a, .int .i64 b, .int .i64 c'] (by kernel_rfl) (hst.asked 76 false 188 (by kernel_rfl) (by rfl)) (map5 (hst.eval (by rfl)) (hst.eval (by rfl)) (hst.eval (by rfl)) (hst.eval (by rfl)) (hst.eval (by rfl))) (by kernel_rfl) (by decide) (by decide) (by decide) ?_
  refine (HE.out _ bc9).mono ?_
  rintro e w10 ⟨A10, k10, rfl, ha, bb10, -⟩
  refine ⟨_, rfl, HS9.out _ bb10, fun bt hst => ?_⟩
  have hSw := HS9.out _ bb10
  refine hst.call 98 210 17 #[.tmp 201, .tmp 203, .tmp 205, .tmp 207, .tmp 209] #[22, 3, 3, 3, 3] (some (76, false)) #[Value.slice A m.length k, .int .i64 W', .int .i64 a, .int .i64 b, .int .i64 c'] (by kernel_rfl) (hst.asked 76 false 188 (by kernel_rfl) (by rfl)) (map5 (hst.eval (by rfl)) (hst.eval (by rfl)) (hst.eval (by rfl)) (hst.eval (by rfl)) (hst.eval (by rfl))) (by kernel_rfl) (by decide) (by decide) (by decide) ?_
  refine (HEr.out _ bb10).mono ?_
  rintro e w11 ⟨A11, k11, rfl, hb, bb11, bb'⟩
  have ha := (ha.below bb').more bb'.size
  refine ⟨_, rfl, HS9.out _ bb11, fun bt hst => ?_⟩
  have hSw := HS9.out _ bb11
  refine hst.call 99 211 9 #[.tmp 199, .tmp 210] #[22, 22] (some (76, false)) #[.slice A10 _ k10, .slice A11 _ k11] (by kernel_rfl) (hst.asked 76 false 188 (by kernel_rfl) (by rfl)) (map2 (hst.eval (by rfl)) (hst.eval (by rfl))) (by kernel_rfl) (by decide) (by decide) (by decide) ?_
  refine (sameAt (D := W9) bb11 ha hb (by first | exact HLU.out | exact HLDn.out | exact HLI.out | exact HLE.out)).mono ?_
  rintro e w12 ⟨rfl, bc12⟩
  refine ⟨_, rfl, HS9.out _ bc12, fun bt hst => ?_⟩
  have hSw := HS9.out _ bc12
  refine hst.pure 100 212 (.unOp .not 4 (.tmp 211)) (some (76, false)) (.bool (!true)) (by kernel_rfl) (hst.asked 76 false 188 (by kernel_rfl) (by rfl)) (fun o ho w _ => exec_not true (hst.eval (by rfl)) o ho w) hSw (by decide) (by decide) (by decide) fun bt hst => ?_
  refine hst.pure 101 213 (.pick (.tmp 188) (.const (.bool true)) (.tmp 212)) none (.bool false) (by kernel_rfl) trivial (fun o ho w _ => exec_pickF _ (hst.eval (by rfl)) (hst.eval (by rfl)) o ho w) hSw (by decide) (by decide) (by decide) fun bt hst => ?_
  exact hQ _ _ hst.agree (hst.holds 213 _ (by rfl)) bc12
set_option maxRecDepth 100000 in
theorem tgForm10 (u0 u1 u2 u3 u4 u5 u6 u7 u8 u9 u10 u11 u12 u13 u14 u15 u16 u17 u18 u19 u20 u21 u22 u23 u24 u26 u27 u28 u29 u30 u31 u32 u33 u34 u35 u36 u37 u38 u39 u40 u41 u42 u43 u44 u45 u46 u47 u48 u49 u50 u51 u52 u53 u54 u55 u56 u57 u58 u59 u60 u61 u62 u63 u64 u65 u66 u67 u68 u69 u70 u71 u72 u73 u74 u75 u76 u77 u78 u79 u80 u81 u82 u83 u84 u85 u86 u87 u88 u89 u90 u91 u92 u93 u94 u95 u96 u97 u98 u99 u100 u101 u102 u103 u104 u105 u106 u107 u108 u109 u110 u111 u112 u113 u114 u115 u116 u117 u118 u119 u120 u121 u122 u123 u124 u125 u126 u127 u128 u129 u130 u131 u132 u133 u134 u135 u136 u137 u138 u139 u140 u141 u142 u143 u144 u145 u146 u147 u148 u149 u150 u151 u152 u153 u154 u155 u156 u157 u158 u159 u160 u161 u162 u163 u164 u165 u166 u167 u168 u169 u170 u171 u172 u173 u174 u175 u176 u177 u178 u179 u180 u181 u182 u183 u184 u185 u186 u187 u188 u189 u190 u191 u192 u193 u194 u195 u196 u197 u198 u199 u200 u201 u202 u203 u204 u205 u206 u207 u208 u209 u210 u211 u212 u213 u214 u215 u216 u217 u218 u219 u220 u221 u222 u223 u224 u225 u226 u227 u228 u229 u230 u231 u232 u233 u234 u235 u236 u237 u238 u239 u240 u241 u242 u243 u244 u245 u246 u247 u248 u249 u250 u251 u252 u253 u254 u255 u256 u257 u258 u259 u260 u261 u262 u263 u264 u265 u266 u267 u268 u269 u270 u271 u272 u273 u274 u275 u276 u277 u278 u279 u280 u281 u282 u283 u284 u285 u286 u287 u288 u289 u290 u291 u292 u293 u294 u295 u296 u297 u298 u299 u300 u301 u302 : Value) (pb : Nat) (f : Nat → Value) : (rowOfF 303 112 214 (fun j => (#[u0, u1, u2, u3, u4, u5, u6, u7, u8, u9, u10, u11, u12, u13, u14, u15, u16, u17, u18, u19, u20, u21, u22, u23, u24, .pointer (some ⟨pb, 0, none⟩), u26, u27, u28, u29, u30, u31, u32, u33, u34, u35, u36, u37, u38, u39, u40, u41, u42, u43, u44, u45, u46, u47, u48, u49, u50, u51, u52, u53, u54, u55, u56, u57, u58, u59, u60, u61, u62, u63, u64, u65, u66, u67, u68, u69, u70, u71, u72, u73, u74, u75, u76, u77, u78, u79, u80, u81, u82, u83, u84, u85, u86, u87, u88, u89, u90, u91, u92, u93, u94, u95, u96, u97, u98, u99, u100, u101, u102, u103, u104, u105, u106, u107, u108, u109, u110, u111, u112, u113, u114, u115, u116, u117, u118, u119, u120, u121, u122, u123, u124, u125, u126, u127, u128, u129, u130, u131, u132, u133, u134, u135, u136, u137, u138, u139, u140, u141, u142, u143, u144, u145, u146, u147, u148, u149, u150, u151, u152, u153, u154, u155, u156, u157, u158, u159, u160, u161, u162, u163, u164, u165, u166, u167, u168, u169, u170, u171, u172, u173, u174, u175, u176, u177, u178, u179, u180, u181, u182, u183, u184, u185, u186, u187, u188, u189, u190, u191, u192, u193, u194, u195, u196, u197, u198, u199, u200, u201, u202, u203, u204, u205, u206, u207, u208, u209, u210, u211, u212, u213, u214, u215, u216, u217, u218, u219, u220, u221, u222, u223, u224, u225, u226, u227, u228, u229, u230, u231, u232, u233, u234, u235, u236, u237, u238, u239, u240, u241, u242, u243, u244, u245, u246, u247, u248, u249, u250, u251, u252, u253, u254, u255, u256, u257, u258, u259, u260, u261, u262, u263, u264, u265, u266, u267, u268, u269, u270, u271, u272, u273, u274, u275, u276, u277, u278, u279, u280, u281, u282, u283, u284, u285, u286, u287, u288, u289, u290, u291, u292, u293, u294, u295, u296, u297, u298, u299, u300, u301, u302] : Array Value).getD j undef) f) = [u0, u1, u2, u3, u4, u5, u6, u7, u8, u9, u10, u11, u12, u13, u14, u15, u16, u17, u18, u19, u20, u21, u22, u23, u24, .pointer (some ⟨pb, 0, none⟩), u26, u27, u28, u29, u30, u31, u32, u33, u34, u35, u36, u37, u38, u39, u40, u41, u42, u43, u44, u45, u46, u47, u48, u49, u50, u51, u52, u53, u54, u55, u56, u57, u58, u59, u60, u61, u62, u63, u64, u65, u66, u67, u68, u69, u70, u71, u72, u73, u74, u75, u76, u77, u78, u79, u80, u81, u82, u83, u84, u85, u86, u87, u88, u89, u90, u91, u92, u93, u94, u95, u96, u97, u98, u99, u100, u101, u102, u103, u104, u105, u106, u107, u108, u109, u110, u111, f 112, f 113, f 114, f 115, f 116, f 117, f 118, f 119, f 120, f 121, f 122, f 123, f 124, f 125, f 126, f 127, f 128, f 129, f 130, f 131, f 132, f 133, f 134, f 135, f 136, f 137, f 138, f 139, f 140, f 141, f 142, f 143, f 144, f 145, f 146, f 147, f 148, f 149, f 150, f 151, f 152, f 153, f 154, f 155, f 156, f 157, f 158, f 159, f 160, f 161, f 162, f 163, f 164, f 165, f 166, f 167, f 168, f 169, f 170, f 171, f 172, f 173, f 174, f 175, f 176, f 177, f 178, f 179, f 180, f 181, f 182, f 183, f 184, f 185, f 186, f 187, f 188, f 189, f 190, f 191, f 192, f 193, f 194, f 195, f 196, f 197, f 198, f 199, f 200, f 201, f 202, f 203, f 204, f 205, f 206, f 207, f 208, f 209, f 210, f 211, f 212, f 213, u214, u215, u216, u217, u218, u219, u220, u221, u222, u223, u224, u225, u226, u227, u228, u229, u230, u231, u232, u233, u234, u235, u236, u237, u238, u239, u240, u241, u242, u243, u244, u245, u246, u247, u248, u249, u250, u251, u252, u253, u254, u255, u256, u257, u258, u259, u260, u261, u262, u263, u264, u265, u266, u267, u268, u269, u270, u271, u272, u273, u274, u275, u276, u277, u278, u279, u280, u281, u282, u283, u284, u285, u286, u287, u288, u289, u290, u291, u292, u293, u294, u295, u296, u297, u298, u299, u300, u301, u302] := by kernel_rfl
set_option maxRecDepth 100000 in
set_option maxHeartbeats 4000000 in
theorem tg10 (A : Option Addr) (k : Nat) (m : List Cl) (W' a b c' d : Int) (pb : Nat) (W9 : World) (hcs : CS W9 W9.heap.size (.slice A m.length k) m) (hml : m.length ≤ 60) (hsix : SixIn W9 pb (.slice A m.length k) W' a b c' d) (Q : Exit → Act → World → Prop)
    (u0 u1 u2 u3 u4 u5 u6 u7 u8 u9 u10 u11 u12 u13 u14 u15 u16 u17 u18 u19 u20 u21 u22 u23 u24 u26 u27 u28 u29 u30 u31 u32 u33 u34 u35 u36 u37 u38 u39 u40 u41 u42 u43 u44 u45 u46 u47 u48 u49 u50 u51 u52 u53 u54 u55 u56 u57 u58 u59 u60 u61 u62 u63 u64 u65 u66 u67 u68 u69 u70 u71 u72 u73 u74 u75 u76 u77 u78 u79 u80 u81 u82 u83 u84 u85 u86 u87 u88 u89 u90 u91 u92 u93 u94 u95 u96 u97 u98 u99 u100 u101 u102 u103 u104 u105 u106 u107 u108 u109 u110 u111 u112 u113 u114 u115 u116 u117 u118 u119 u120 u121 u122 u123 u124 u125 u126 u127 u128 u129 u130 u131 u132 u133 u134 u135 u136 u137 u138 u139 u140 u141 u142 u143 u144 u145 u146 u147 u148 u149 u150 u151 u152 u153 u154 u155 u156 u157 u158 u159 u160 u161 u162 u163 u164 u165 u166 u167 u168 u169 u170 u171 u172 u173 u174 u175 u176 u177 u178 u179 u180 u181 u182 u183 u184 u185 u186 u187 u188 u189 u190 u191 u192 u193 u194 u195 u196 u197 u198 u199 u200 u201 u202 u203 u204 u205 u206 u207 u208 u209 u210 u211 u212 u213 u214 u215 u216 u217 u218 u219 u220 u221 u222 u223 u224 u225 u226 u227 u228 u229 u230 u231 u232 u233 u234 u235 u236 u237 u238 u239 u240 u241 u242 u243 u244 u245 u246 u247 u248 u249 u250 u251 u252 u253 u254 u255 u256 u257 u258 u259 u260 u261 u262 u263 u264 u265 u266 u267 u268 u269 u270 u271 u272 u273 u274 u275 u276 u277 u278 u279 u280 u281 u282 u283 u284 u285 u286 u287 u288 u289 u290 u291 u292 u293 u294 u295 u296 u297 u298 u299 u300 u301 u302 : Value)
    (hQ : ∀ (f : Nat → Value) (wx : World), Below W9.heap.size W9 wx → Q .normal ⟨#[u0, u1, u2, u3, u4, u5, u6, u7, u8, u9, u10, u11, u12, u13, u14, u15, u16, u17, u18, u19, u20, u21, u22, u23, u24, .pointer (some ⟨pb, 0, none⟩), u26, u27, u28, u29, u30, u31, u32, u33, u34, u35, u36, u37, u38, u39, u40, u41, u42, u43, u44, u45, u46, u47, u48, u49, u50, u51, u52, u53, u54, u55, u56, u57, u58, u59, u60, u61, u62, u63, u64, u65, u66, u67, u68, u69, u70, u71, u72, u73, u74, u75, u76, u77, u78, u79, u80, u81, u82, u83, u84, u85, u86, u87, u88, u89, u90, u91, u92, u93, u94, u95, u96, u97, u98, u99, u100, u101, u102, u103, u104, u105, u106, u107, u108, u109, u110, u111, f 112, f 113, f 114, f 115, f 116, f 117, f 118, f 119, f 120, f 121, f 122, f 123, f 124, f 125, f 126, f 127, f 128, f 129, f 130, f 131, f 132, f 133, f 134, f 135, f 136, f 137, f 138, f 139, f 140, f 141, f 142, f 143, f 144, f 145, f 146, f 147, f 148, f 149, f 150, f 151, f 152, f 153, f 154, f 155, f 156, f 157, f 158, f 159, f 160, f 161, f 162, f 163, f 164, f 165, f 166, f 167, f 168, f 169, f 170, f 171, f 172, f 173, f 174, f 175, f 176, f 177, f 178, f 179, f 180, f 181, f 182, f 183, f 184, f 185, f 186, f 187, f 188, f 189, f 190, f 191, f 192, f 193, f 194, f 195, f 196, f 197, f 198, f 199, f 200, f 201, f 202, f 203, f 204, f 205, f 206, f 207, f 208, f 209, f 210, f 211, f 212, .bool false, u214, u215, u216, u217, u218, u219, u220, u221, u222, u223, u224, u225, u226, u227, u228, u229, u230, u231, u232, u233, u234, u235, u236, u237, u238, u239, u240, u241, u242, u243, u244, u245, u246, u247, u248, u249, u250, u251, u252, u253, u254, u255, u256, u257, u258, u259, u260, u261, u262, u263, u264, u265, u266, u267, u268, u269, u270, u271, u272, u273, u274, u275, u276, u277, u278, u279, u280, u281, u282, u283, u284, u285, u286, u287, u288, u289, u290, u291, u292, u293, u294, u295, u296, u297, u298, u299, u300, u301, u302], []⟩ wx) :
    Code.wp Try.prog tgReg10 Q ⟨#[u0, u1, u2, u3, u4, u5, u6, u7, u8, u9, u10, u11, u12, u13, u14, u15, u16, u17, u18, u19, u20, u21, u22, u23, u24, .pointer (some ⟨pb, 0, none⟩), u26, u27, u28, u29, u30, u31, u32, u33, u34, u35, u36, u37, u38, u39, u40, u41, u42, u43, u44, u45, u46, u47, u48, u49, u50, u51, u52, u53, u54, u55, u56, u57, u58, u59, u60, u61, u62, u63, u64, u65, u66, u67, u68, u69, u70, u71, u72, u73, u74, u75, u76, u77, u78, u79, u80, u81, u82, u83, u84, u85, u86, u87, u88, u89, u90, u91, u92, u93, u94, u95, u96, u97, u98, u99, u100, u101, u102, u103, u104, u105, u106, u107, u108, u109, u110, u111, u112, u113, u114, u115, u116, u117, u118, u119, u120, u121, u122, u123, u124, u125, u126, u127, u128, u129, u130, u131, u132, u133, u134, u135, u136, u137, u138, u139, u140, u141, u142, u143, u144, u145, u146, u147, u148, u149, u150, u151, u152, u153, u154, u155, u156, u157, u158, u159, u160, u161, u162, u163, u164, u165, u166, u167, u168, u169, u170, u171, u172, u173, u174, u175, u176, u177, u178, u179, u180, u181, u182, u183, u184, u185, u186, u187, u188, u189, u190, u191, u192, u193, u194, u195, u196, u197, u198, u199, u200, u201, u202, u203, u204, u205, u206, u207, u208, u209, u210, u211, u212, u213, u214, u215, u216, u217, u218, u219, u220, u221, u222, u223, u224, u225, u226, u227, u228, u229, u230, u231, u232, u233, u234, u235, u236, u237, u238, u239, u240, u241, u242, u243, u244, u245, u246, u247, u248, u249, u250, u251, u252, u253, u254, u255, u256, u257, u258, u259, u260, u261, u262, u263, u264, u265, u266, u267, u268, u269, u270, u271, u272, u273, u274, u275, u276, u277, u278, u279, u280, u281, u282, u283, u284, u285, u286, u287, u288, u289, u290, u291, u292, u293, u294, u295, u296, u297, u298, u299, u300, u301, u302], []⟩ W9 := by
  refine Code.wp_mono NoPanic.imp ?_
  rw [tgIs10]
  refine region_run (S := (fun x : World => Six x pb (.slice A m.length k) W' a b c' d)) tgOrd10 (by kernel_rfl) tgSel10 (fun _ _ _ _ _ h => h) tgSize10 tgLen10 tgOwn10 tgOk10 (hsix.below (Below.refl _ _).drew) ?_
  refine tgRun10 A k m W' a b c' d pb W9 hcs hml hsix _ _ ⟨rfl, Agree.refl, fun j v h => ?_⟩ fun b wx hag hv hb => NoPanic.normal ?_
  · rw [List.lookup_cons] at h
    split at h
    · rename_i e
      obtain rfl : j = 25 := by simpa using e
      injection h with h
      subst h
      rfl
    · cases h
  · have hu : ∀ j, j < 303 → (#[u0, u1, u2, u3, u4, u5, u6, u7, u8, u9, u10, u11, u12, u13, u14, u15, u16, u17, u18, u19, u20, u21, u22, u23, u24, .pointer (some ⟨pb, 0, none⟩), u26, u27, u28, u29, u30, u31, u32, u33, u34, u35, u36, u37, u38, u39, u40, u41, u42, u43, u44, u45, u46, u47, u48, u49, u50, u51, u52, u53, u54, u55, u56, u57, u58, u59, u60, u61, u62, u63, u64, u65, u66, u67, u68, u69, u70, u71, u72, u73, u74, u75, u76, u77, u78, u79, u80, u81, u82, u83, u84, u85, u86, u87, u88, u89, u90, u91, u92, u93, u94, u95, u96, u97, u98, u99, u100, u101, u102, u103, u104, u105, u106, u107, u108, u109, u110, u111, u112, u113, u114, u115, u116, u117, u118, u119, u120, u121, u122, u123, u124, u125, u126, u127, u128, u129, u130, u131, u132, u133, u134, u135, u136, u137, u138, u139, u140, u141, u142, u143, u144, u145, u146, u147, u148, u149, u150, u151, u152, u153, u154, u155, u156, u157, u158, u159, u160, u161, u162, u163, u164, u165, u166, u167, u168, u169, u170, u171, u172, u173, u174, u175, u176, u177, u178, u179, u180, u181, u182, u183, u184, u185, u186, u187, u188, u189, u190, u191, u192, u193, u194, u195, u196, u197, u198, u199, u200, u201, u202, u203, u204, u205, u206, u207, u208, u209, u210, u211, u212, u213, u214, u215, u216, u217, u218, u219, u220, u221, u222, u223, u224, u225, u226, u227, u228, u229, u230, u231, u232, u233, u234, u235, u236, u237, u238, u239, u240, u241, u242, u243, u244, u245, u246, u247, u248, u249, u250, u251, u252, u253, u254, u255, u256, u257, u258, u259, u260, u261, u262, u263, u264, u265, u266, u267, u268, u269, u270, u271, u272, u273, u274, u275, u276, u277, u278, u279, u280, u281, u282, u283, u284, u285, u286, u287, u288, u289, u290, u291, u292, u293, u294, u295, u296, u297, u298, u299, u300, u301, u302] : Array Value)[j]? = some ((#[u0, u1, u2, u3, u4, u5, u6, u7, u8, u9, u10, u11, u12, u13, u14, u15, u16, u17, u18, u19, u20, u21, u22, u23, u24, .pointer (some ⟨pb, 0, none⟩), u26, u27, u28, u29, u30, u31, u32, u33, u34, u35, u36, u37, u38, u39, u40, u41, u42, u43, u44, u45, u46, u47, u48, u49, u50, u51, u52, u53, u54, u55, u56, u57, u58, u59, u60, u61, u62, u63, u64, u65, u66, u67, u68, u69, u70, u71, u72, u73, u74, u75, u76, u77, u78, u79, u80, u81, u82, u83, u84, u85, u86, u87, u88, u89, u90, u91, u92, u93, u94, u95, u96, u97, u98, u99, u100, u101, u102, u103, u104, u105, u106, u107, u108, u109, u110, u111, u112, u113, u114, u115, u116, u117, u118, u119, u120, u121, u122, u123, u124, u125, u126, u127, u128, u129, u130, u131, u132, u133, u134, u135, u136, u137, u138, u139, u140, u141, u142, u143, u144, u145, u146, u147, u148, u149, u150, u151, u152, u153, u154, u155, u156, u157, u158, u159, u160, u161, u162, u163, u164, u165, u166, u167, u168, u169, u170, u171, u172, u173, u174, u175, u176, u177, u178, u179, u180, u181, u182, u183, u184, u185, u186, u187, u188, u189, u190, u191, u192, u193, u194, u195, u196, u197, u198, u199, u200, u201, u202, u203, u204, u205, u206, u207, u208, u209, u210, u211, u212, u213, u214, u215, u216, u217, u218, u219, u220, u221, u222, u223, u224, u225, u226, u227, u228, u229, u230, u231, u232, u233, u234, u235, u236, u237, u238, u239, u240, u241, u242, u243, u244, u245, u246, u247, u248, u249, u250, u251, u252, u253, u254, u255, u256, u257, u258, u259, u260, u261, u262, u263, u264, u265, u266, u267, u268, u269, u270, u271, u272, u273, u274, u275, u276, u277, u278, u279, u280, u281, u282, u283, u284, u285, u286, u287, u288, u289, u290, u291, u292, u293, u294, u295, u296, u297, u298, u299, u300, u301, u302] : Array Value).getD j undef) := fun j hj => by
      rw [Array.getD_eq_getD_getElem?, Array.getElem?_eq_getElem (show j < (#[u0, u1, u2, u3, u4, u5, u6, u7, u8, u9, u10, u11, u12, u13, u14, u15, u16, u17, u18, u19, u20, u21, u22, u23, u24, .pointer (some ⟨pb, 0, none⟩), u26, u27, u28, u29, u30, u31, u32, u33, u34, u35, u36, u37, u38, u39, u40, u41, u42, u43, u44, u45, u46, u47, u48, u49, u50, u51, u52, u53, u54, u55, u56, u57, u58, u59, u60, u61, u62, u63, u64, u65, u66, u67, u68, u69, u70, u71, u72, u73, u74, u75, u76, u77, u78, u79, u80, u81, u82, u83, u84, u85, u86, u87, u88, u89, u90, u91, u92, u93, u94, u95, u96, u97, u98, u99, u100, u101, u102, u103, u104, u105, u106, u107, u108, u109, u110, u111, u112, u113, u114, u115, u116, u117, u118, u119, u120, u121, u122, u123, u124, u125, u126, u127, u128, u129, u130, u131, u132, u133, u134, u135, u136, u137, u138, u139, u140, u141, u142, u143, u144, u145, u146, u147, u148, u149, u150, u151, u152, u153, u154, u155, u156, u157, u158, u159, u160, u161, u162, u163, u164, u165, u166, u167, u168, u169, u170, u171, u172, u173, u174, u175, u176, u177, u178, u179, u180, u181, u182, u183, u184, u185, u186, u187, u188, u189, u190, u191, u192, u193, u194, u195, u196, u197, u198, u199, u200, u201, u202, u203, u204, u205, u206, u207, u208, u209, u210, u211, u212, u213, u214, u215, u216, u217, u218, u219, u220, u221, u222, u223, u224, u225, u226, u227, u228, u229, u230, u231, u232, u233, u234, u235, u236, u237, u238, u239, u240, u241, u242, u243, u244, u245, u246, u247, u248, u249, u250, u251, u252, u253, u254, u255, u256, u257, u258, u259, u260, u261, u262, u263, u264, u265, u266, u267, u268, u269, u270, u271, u272, u273, u274, u275, u276, u277, u278, u279, u280, u281, u282, u283, u284, u285, u286, u287, u288, u289, u290, u291, u292, u293, u294, u295, u296, u297, u298, u299, u300, u301, u302] : Array Value).size from hj)]
      rfl
    obtain ⟨f, rfl, hf⟩ := hag.form 303 rfl _ hu
    have e : f 213 = .bool false := hf 213 _ (by decide) hv
    rw [tgForm10]
    have := hQ f wx hb
    rw [← e] at this
    exact this
end Go.Proofs.Ytejemcpkmfhenaa

namespace Go.Proofs.Ytejemcpkmfhenaa
open Go.RowKit
set_option linter.unusedVariables false
set_option linter.unusedSimpArgs false

noncomputable def tgReg12 : Code := (Try.f3.body.bind (findRegionG 12)).getD .skip
noncomputable def tgOps12 : Array Oper := match tgReg12 with
  | .region _ ops _ => ops
  | _ => #[]
def tgOrd12 : List (Nat × Bool × Nat) := [(0, true, 1), (1, true, 3), (2, true, 7), (3, true, 15), (4, true, 31), (5, true, 63), (6, true, 127), (7, true, 255), (8, true, 511), (9, true, 1023), (11, true, 3071), (12, true, 7167), (13, true, 15359), (14, true, 31743), (15, true, 64511), (16, true, 130047), (17, true, 261119), (18, true, 523263), (19, true, 1047551), (20, true, 2096127), (10, false, 2097151), (21, false, 4194303), (22, false, 8388607), (23, true, 16777215), (24, true, 33554431), (25, true, 67108863), (26, true, 134217727), (27, true, 268435455), (28, true, 536870911), (29, true, 1073741823), (30, true, 2147483647), (32, true, 6442450943), (33, true, 15032385535), (34, true, 32212254719), (35, true, 66571993087), (36, true, 135291469823), (37, true, 272730423295), (31, false, 274877906943), (38, false, 549755813887), (39, false, 1099511627775), (40, true, 2199023255551), (41, true, 4398046511103)]
theorem tgIs12 : tgReg12 = .region 12 tgOps12 true := by kernel_rfl
theorem tgSize12 : tgOps12.size = 42 := by kernel_rfl
theorem tgOwn12 : okOwn tgOps12 214 42 = true := by kernel_rfl
theorem tgOk12 : okSteps tgOps12 42 tgOrd12 0 = true := by kernel_rfl
theorem tgSel12 : Region.noSelect tgOps12 = true := by kernel_rfl
theorem tgLen12 : Nat.ble tgOrd12.length 42 = true := by kernel_rfl
set_option maxRecDepth 100000 in
set_option maxHeartbeats 4000000 in
theorem tgRun12 (A : Option Addr) (k : Nat) (m : List Cl) (W' a b c' d : Int) (pb : Nat) (W9 : World) (hcs : CS W9 W9.heap.size (.slice A m.length k) m) (hml : m.length ≤ 60) (hsix : SixIn W9 pb (.slice A m.length k) W' a b c' d) (Q : Exit → Act → World → Prop)
    (act : Act) (hst : St 303 214 256 act act [(25, .pointer (some ⟨pb, 0, none⟩))]) (hQ : ∀ b wx, Agree 214 256 act b → Has b 255 (.bool false) → Below W9.heap.size W9 wx → Q .normal b wx) :
    RunH Try.prog tgOps12 Q (fun x : World => Six x pb (.slice A m.length k) W' a b c' d) (tgOrd12.map fun x => (x.1, x.2.1)) act W9.drew := by
  have HS := Lib.hid hsix
  have HC := Lib.hid hcs
  have hS0 : Below W9.heap.size W9 W9.drew := (Below.refl _ _).drew
  have HS9 := Lib.hid (show ∀ x : World, Below W9.heap.size W9 x → Six x pb (.slice A m.length k) W' a b c' d from fun x hx => HS.out.below hx)
  have HU := Lib.hid (fun w' hb => at_cs (D := W9) hb (gerase_any (.slice A m.length k) m W' a b c' w' ((HC.out.below hb).more hb.size) (by omega)))
  have HUr := Lib.hid (fun w' hb => at_cs (D := W9) hb ((Erase_any (.slice A m.length k) m W' a b c' w' ((HC.out.below hb).more hb.size) (by omega)).mono fun {_ _} h => h.toCs))
  have HD := Lib.hid (fun w' hb => at_cs (D := W9) hb (gmend_any (.slice A m.length k) m W' a w' ((HC.out.below hb).more hb.size) (by omega)))
  have HDr := Lib.hid (fun w' hb => at_cs (D := W9) hb ((Mend_any (.slice A m.length k) m W' a w' ((HC.out.below hb).more hb.size) (by omega)).mono fun {_ _} h => h.toCs))
  have HLU := Lib.hid (show (eraseL m W' a b c').length ≤ 2000 by rw [eraseL_len]; omega)
  have HLDn := Lib.hid (show (mendL m W' a).length ≤ 2000 by rw [mendL_len]; omega)
  have hSw := HS9.out _ hS0
  clear hcs hsix
  simp only [tgOrd12, List.map_cons, List.map_nil]
  refine hst.pure 0 214 (.fieldAddr 34 (.tmp 25) 0) none (.pointer (some ⟨pb, 0, none⟩)) (by kernel_rfl) trivial (fun o ho w _ => tx_field0 (hst.eval (by rfl)) o ho w) hSw (by decide) (by decide) (by decide) fun bt hst => ?_
  refine hst.pure 1 215 (.load 22 (.tmp 214)) none (Value.slice A m.length k) (by kernel_rfl) trivial (fun o ho w hw => tx_loadC (hst.eval (by rfl)) o ho w hw.1) hSw (by decide) (by decide) (by decide) fun bt hst => ?_
  refine hst.pure 2 216 (.fieldAddr 34 (.tmp 25) 1) none (.pointer (some ⟨pb, 1, none⟩)) (by kernel_rfl) trivial (fun o ho w _ => tx_field1 (hst.eval (by rfl)) o ho w) hSw (by decide) (by decide) (by decide) fun bt hst => ?_
  refine hst.pure 3 217 (.load 3 (.tmp 216)) none (.int .i64 W') (by kernel_rfl) trivial (fun o ho w hw => tx_loadI (hst.eval (by rfl)) o ho w hw.2.1) hSw (by decide) (by decide) (by decide) fun bt hst => ?_
  refine hst.pure 4 218 (.fieldAddr 34 (.tmp 25) 2) none (.pointer (some ⟨pb, 2, none⟩)) (by kernel_rfl) trivial (fun o ho w _ => tx_field2 (hst.eval (by rfl)) o ho w) hSw (by decide) (by decide) (by decide) fun bt hst => ?_
  refine hst.pure 5 219 (.load 3 (.tmp 218)) none (.int .i64 a) (by kernel_rfl) trivial (fun o ho w hw => tx_loadI (hst.eval (by rfl)) o ho w hw.2.2.1) hSw (by decide) (by decide) (by decide) fun bt hst => ?_
  refine hst.pure 6 220 (.fieldAddr 34 (.tmp 25) 3) none (.pointer (some ⟨pb, 3, none⟩)) (by kernel_rfl) trivial (fun o ho w _ => tx_field3 (hst.eval (by rfl)) o ho w) hSw (by decide) (by decide) (by decide) fun bt hst => ?_
  refine hst.pure 7 221 (.load 3 (.tmp 220)) none (.int .i64 b) (by kernel_rfl) trivial (fun o ho w hw => tx_loadI (hst.eval (by rfl)) o ho w hw.2.2.2.1) hSw (by decide) (by decide) (by decide) fun bt hst => ?_
  refine hst.pure 8 222 (.fieldAddr 34 (.tmp 25) 4) none (.pointer (some ⟨pb, 4, none⟩)) (by kernel_rfl) trivial (fun o ho w _ => tx_field4 (hst.eval (by rfl)) o ho w) hSw (by decide) (by decide) (by decide) fun bt hst => ?_
  refine hst.pure 9 223 (.load 3 (.tmp 222)) none (.int .i64 c') (by kernel_rfl) trivial (fun o ho w hw => tx_loadI (hst.eval (by rfl)) o ho w hw.2.2.2.2.1) hSw (by decide) (by decide) (by decide) fun bt hst => ?_
  refine hst.pure 11 225 (.fieldAddr 34 (.tmp 25) 0) none (.pointer (some ⟨pb, 0, none⟩)) (by kernel_rfl) trivial (fun o ho w _ => tx_field0 (hst.eval (by rfl)) o ho w) hSw (by decide) (by decide) (by decide) fun bt hst => ?_
  refine hst.pure 12 226 (.load 22 (.tmp 225)) none (Value.slice A m.length k) (by kernel_rfl) trivial (fun o ho w hw => tx_loadC (hst.eval (by rfl)) o ho w hw.1) hSw (by decide) (by decide) (by decide) fun bt hst => ?_
  refine hst.pure 13 227 (.fieldAddr 34 (.tmp 25) 1) none (.pointer (some ⟨pb, 1, none⟩)) (by kernel_rfl) trivial (fun o ho w _ => tx_field1 (hst.eval (by rfl)) o ho w) hSw (by decide) (by decide) (by decide) fun bt hst => ?_
  refine hst.pure 14 228 (.load 3 (.tmp 227)) none (.int .i64 W') (by kernel_rfl) trivial (fun o ho w hw => tx_loadI (hst.eval (by rfl)) o ho w hw.2.1) hSw (by decide) (by decide) (by decide) fun bt hst => ?_
  refine hst.pure 15 229 (.fieldAddr 34 (.tmp 25) 2) none (.pointer (some ⟨pb, 2, none⟩)) (by kernel_rfl) trivial (fun o ho w _ => tx_field2 (hst.eval (by rfl)) o ho w) hSw (by decide) (by decide) (by decide) fun bt hst => ?_
  refine hst.pure 16 230 (.load 3 (.tmp 229)) none (.int .i64 a) (by kernel_rfl) trivial (fun o ho w hw => tx_loadI (hst.eval (by rfl)) o ho w hw.2.2.1) hSw (by decide) (by decide) (by decide) fun bt hst => ?_
  refine hst.pure 17 231 (.fieldAddr 34 (.tmp 25) 3) none (.pointer (some ⟨pb, 3, none⟩)) (by kernel_rfl) trivial (fun o ho w _ => tx_field3 (hst.eval (by rfl)) o ho w) hSw (by decide) (by decide) (by decide) fun bt hst => ?_
  refine hst.pure 18 232 (.load 3 (.tmp 231)) none (.int .i64 b) (by kernel_rfl) trivial (fun o ho w hw => tx_loadI (hst.eval (by rfl)) o ho w hw.2.2.2.1) hSw (by decide) (by decide) (by decide) fun bt hst => ?_
  refine hst.pure 19 233 (.fieldAddr 34 (.tmp 25) 4) none (.pointer (some ⟨pb, 4, none⟩)) (by kernel_rfl) trivial (fun o ho w _ => tx_field4 (hst.eval (by rfl)) o ho w) hSw (by decide) (by decide) (by decide) fun bt hst => ?_
  refine hst.pure 20 234 (.load 3 (.tmp 233)) none (.int .i64 c') (by kernel_rfl) trivial (fun o ho w hw => tx_loadI (hst.eval (by rfl)) o ho w hw.2.2.2.2.1) hSw (by decide) (by decide) (by decide) fun bt hst => ?_
  refine hst.call 10 224 18 #[.tmp 215, .tmp 217, .tmp 219, .tmp 221, .tmp 223] #[22, 3, 3, 3, 3] none #[Value.slice A m.length k, .int .i64 W', .int .i64 a, .int .i64 b, .int .i64 c'] (by kernel_rfl) trivial (map5 (hst.eval (by rfl)) (hst.eval (by rfl)) (hst.eval (by rfl)) (hst.eval (by rfl)) (hst.eval (by rfl))) (by kernel_rfl) (by decide) (by decide) (by decide) ?_
  refine (HU.out _ hS0).mono ?_
  rintro e w1 ⟨A1, k1, rfl, ha, bb1, -⟩
  refine ⟨_, rfl, HS9.out _ bb1, fun bt hst => ?_⟩
  have hSw := HS9.out _ bb1
  refine hst.call 21 235 19 #[.tmp 226, .tmp 228, .tmp 230, .tmp 232, .tmp 234] #[22, 3, 3, 3, 3] none #[Value.slice A m.length k, .int .i64 W', .int .i64 a, .int .i64 b, .int .i64 c'] (by kernel_rfl) trivial (map5 (hst.eval (by rfl)) (hst.eval (by rfl)) (hst.eval (by rfl)) (hst.eval (by rfl)) (hst.eval (by rfl))) (by kernel_rfl) (by decide) (by decide) (by decide) ?_
  refine (HUr.out _ bb1).mono ?_
  rintro e w2 ⟨A2, k2, rfl, hb, bb2, bb'⟩
  have ha := (ha.below bb').more bb'.size
  refine ⟨_, rfl, HS9.out _ bb2, fun bt hst => ?_⟩
  have hSw := HS9.out _ bb2
  refine hst.call 22 236 9 #[.tmp 224, .tmp 235] #[22, 22] none #[.slice A1 _ k1, .slice A2 _ k2] (by kernel_rfl) trivial (map2 (hst.eval (by rfl)) (hst.eval (by rfl))) (by kernel_rfl) (by decide) (by decide) (by decide) ?_
  refine (sameAt (D := W9) bb2 ha hb (by first | exact HLU.out | exact HLDn.out)).mono ?_
  rintro e w3 ⟨rfl, bc3⟩
  refine ⟨_, rfl, HS9.out _ bc3, fun bt hst => ?_⟩
  have hSw := HS9.out _ bc3
  refine hst.pure 23 237 (.unOp .not 4 (.tmp 236)) none (.bool (!true)) (by kernel_rfl) trivial (fun o ho w _ => exec_not true (hst.eval (by rfl)) o ho w) hSw (by decide) (by decide) (by decide) fun bt hst => ?_
  refine hst.pure 24 238 (.move (.tmp 237)) none (.bool false) (by kernel_rfl) trivial (fun o ho w _ => exec_move _ (hst.eval (by rfl)) o ho w) hSw (by decide) (by decide) (by decide) fun bt hst => ?_
  refine hst.pure 25 239 (.fieldAddr 34 (.tmp 25) 0) (some (24, false)) (.pointer (some ⟨pb, 0, none⟩)) (by kernel_rfl) (hst.asked 24 false 238 (by kernel_rfl) (by rfl)) (fun o ho w _ => tx_field0 (hst.eval (by rfl)) o ho w) hSw (by decide) (by decide) (by decide) fun bt hst => ?_
  refine hst.pure 26 240 (.load 22 (.tmp 239)) (some (24, false)) (Value.slice A m.length k) (by kernel_rfl) (hst.asked 24 false 238 (by kernel_rfl) (by rfl)) (fun o ho w hw => tx_loadC (hst.eval (by rfl)) o ho w hw.1) hSw (by decide) (by decide) (by decide) fun bt hst => ?_
  refine hst.pure 27 241 (.fieldAddr 34 (.tmp 25) 1) (some (24, false)) (.pointer (some ⟨pb, 1, none⟩)) (by kernel_rfl) (hst.asked 24 false 238 (by kernel_rfl) (by rfl)) (fun o ho w _ => tx_field1 (hst.eval (by rfl)) o ho w) hSw (by decide) (by decide) (by decide) fun bt hst => ?_
  refine hst.pure 28 242 (.load 3 (.tmp 241)) (some (24, false)) (.int .i64 W') (by kernel_rfl) (hst.asked 24 false 238 (by kernel_rfl) (by rfl)) (fun o ho w hw => tx_loadI (hst.eval (by rfl)) o ho w hw.2.1) hSw (by decide) (by decide) (by decide) fun bt hst => ?_
  refine hst.pure 29 243 (.fieldAddr 34 (.tmp 25) 2) (some (24, false)) (.pointer (some ⟨pb, 2, none⟩)) (by kernel_rfl) (hst.asked 24 false 238 (by kernel_rfl) (by rfl)) (fun o ho w _ => tx_field2 (hst.eval (by rfl)) o ho w) hSw (by decide) (by decide) (by decide) fun bt hst => ?_
  refine hst.pure 30 244 (.load 3 (.tmp 243)) (some (24, false)) (.int .i64 a) (by kernel_rfl) (hst.asked 24 false 238 (by kernel_rfl) (by rfl)) (fun o ho w hw => tx_loadI (hst.eval (by rfl)) o ho w hw.2.2.1) hSw (by decide) (by decide) (by decide) fun bt hst => ?_
  refine hst.pure 32 246 (.fieldAddr 34 (.tmp 25) 0) (some (24, false)) (.pointer (some ⟨pb, 0, none⟩)) (by kernel_rfl) (hst.asked 24 false 238 (by kernel_rfl) (by rfl)) (fun o ho w _ => tx_field0 (hst.eval (by rfl)) o ho w) hSw (by decide) (by decide) (by decide) fun bt hst => ?_
  refine hst.pure 33 247 (.load 22 (.tmp 246)) (some (24, false)) (Value.slice A m.length k) (by kernel_rfl) (hst.asked 24 false 238 (by kernel_rfl) (by rfl)) (fun o ho w hw => tx_loadC (hst.eval (by rfl)) o ho w hw.1) hSw (by decide) (by decide) (by decide) fun bt hst => ?_
  refine hst.pure 34 248 (.fieldAddr 34 (.tmp 25) 1) (some (24, false)) (.pointer (some ⟨pb, 1, none⟩)) (by kernel_rfl) (hst.asked 24 false 238 (by kernel_rfl) (by rfl)) (fun o ho w _ => tx_field1 (hst.eval (by rfl)) o ho w) hSw (by decide) (by decide) (by decide) fun bt hst => ?_
  refine hst.pure 35 249 (.load 3 (.tmp 248)) (some (24, false)) (.int .i64 W') (by kernel_rfl) (hst.asked 24 false 238 (by kernel_rfl) (by rfl)) (fun o ho w hw => tx_loadI (hst.eval (by rfl)) o ho w hw.2.1) hSw (by decide) (by decide) (by decide) fun bt hst => ?_
  refine hst.pure 36 250 (.fieldAddr 34 (.tmp 25) 2) (some (24, false)) (.pointer (some ⟨pb, 2, none⟩)) (by kernel_rfl) (hst.asked 24 false 238 (by kernel_rfl) (by rfl)) (fun o ho w _ => tx_field2 (hst.eval (by rfl)) o ho w) hSw (by decide) (by decide) (by decide) fun bt hst => ?_
  refine hst.pure 37 251 (.load 3 (.tmp 250)) (some (24, false)) (.int .i64 a) (by kernel_rfl) (hst.asked 24 false 238 (by kernel_rfl) (by rfl)) (fun o ho w hw => tx_loadI (hst.eval (by rfl)) o ho w hw.2.2.1) hSw (by decide) (by decide) (by decide) fun bt hst => ?_
  refine hst.call 31 245 20 #[.tmp 240, .tmp 242, .tmp 244] #[22, 3, 3] (some (24, false)) #[Value.slice A m.length k, .int .i64 W', .int .i64 a] (by kernel_rfl) (hst.asked 24 false 238 (by kernel_rfl) (by rfl)) (map3 (hst.eval (by rfl)) (hst.eval (by rfl)) (hst.eval (by rfl))) (by kernel_rfl) (by decide) (by decide) (by decide) ?_
  refine (HD.out _ bc3).mono ?_
  rintro e w4 ⟨A4, k4, rfl, ha, bb4, -⟩
  refine ⟨_, rfl, HS9.out _ bb4, fun bt hst => ?_⟩
  have hSw := HS9.out _ bb4
  refine hst.call 38 252 21 #[.tmp 247, .tmp 249, .tmp 251] #[22, 3, 3] (some (24, false)) #[Value.slice A m.length k, .int .i64 W', .int .i64 a] (by kernel_rfl) (hst.asked 24 false 238 (by kernel_rfl) (by rfl)) (map3 (hst.eval (by rfl)) (hst.eval (by rfl)) (hst.eval (by rfl))) (by kernel_rfl) (by decide) (by decide) (by decide) ?_
  refine (HDr.out _ bb4).mono ?_
  rintro e w5 ⟨A5, k5, rfl, hb, bb5, bb'⟩
  have ha := (ha.below bb').more bb'.size
  refine ⟨_, rfl, HS9.out _ bb5, fun bt hst => ?_⟩
  have hSw := HS9.out _ bb5
  refine hst.call 39 253 9 #[.tmp 245, .tmp 252] #[22, 22] (some (24, false)) #[.slice A4 _ k4, .slice A5 _ k5] (by kernel_rfl) (hst.asked 24 false 238 (by kernel_rfl) (by rfl)) (map2 (hst.eval (by rfl)) (hst.eval (by rfl))) (by kernel_rfl) (by decide) (by decide) (by decide) ?_
  refine (sameAt (D := W9) bb5 ha hb (by first | exact HLU.out | exact HLDn.out)).mono ?_
  rintro e w6 ⟨rfl, bc6⟩
  refine ⟨_, rfl, HS9.out _ bc6, fun bt hst => ?_⟩
  have hSw := HS9.out _ bc6
  refine hst.pure 40 254 (.unOp .not 4 (.tmp 253)) (some (24, false)) (.bool (!true)) (by kernel_rfl) (hst.asked 24 false 238 (by kernel_rfl) (by rfl)) (fun o ho w _ => exec_not true (hst.eval (by rfl)) o ho w) hSw (by decide) (by decide) (by decide) fun bt hst => ?_
  refine hst.pure 41 255 (.pick (.tmp 238) (.const (.bool true)) (.tmp 254)) none (.bool false) (by kernel_rfl) trivial (fun o ho w _ => exec_pickF _ (hst.eval (by rfl)) (hst.eval (by rfl)) o ho w) hSw (by decide) (by decide) (by decide) fun bt hst => ?_
  exact hQ _ _ hst.agree (hst.holds 255 _ (by rfl)) bc6
set_option maxRecDepth 100000 in
theorem tgForm12 (u0 u1 u2 u3 u4 u5 u6 u7 u8 u9 u10 u11 u12 u13 u14 u15 u16 u17 u18 u19 u20 u21 u22 u23 u24 u26 u27 u28 u29 u30 u31 u32 u33 u34 u35 u36 u37 u38 u39 u40 u41 u42 u43 u44 u45 u46 u47 u48 u49 u50 u51 u52 u53 u54 u55 u56 u57 u58 u59 u60 u61 u62 u63 u64 u65 u66 u67 u68 u69 u70 u71 u72 u73 u74 u75 u76 u77 u78 u79 u80 u81 u82 u83 u84 u85 u86 u87 u88 u89 u90 u91 u92 u93 u94 u95 u96 u97 u98 u99 u100 u101 u102 u103 u104 u105 u106 u107 u108 u109 u110 u111 u112 u113 u114 u115 u116 u117 u118 u119 u120 u121 u122 u123 u124 u125 u126 u127 u128 u129 u130 u131 u132 u133 u134 u135 u136 u137 u138 u139 u140 u141 u142 u143 u144 u145 u146 u147 u148 u149 u150 u151 u152 u153 u154 u155 u156 u157 u158 u159 u160 u161 u162 u163 u164 u165 u166 u167 u168 u169 u170 u171 u172 u173 u174 u175 u176 u177 u178 u179 u180 u181 u182 u183 u184 u185 u186 u187 u188 u189 u190 u191 u192 u193 u194 u195 u196 u197 u198 u199 u200 u201 u202 u203 u204 u205 u206 u207 u208 u209 u210 u211 u212 u213 u214 u215 u216 u217 u218 u219 u220 u221 u222 u223 u224 u225 u226 u227 u228 u229 u230 u231 u232 u233 u234 u235 u236 u237 u238 u239 u240 u241 u242 u243 u244 u245 u246 u247 u248 u249 u250 u251 u252 u253 u254 u255 u256 u257 u258 u259 u260 u261 u262 u263 u264 u265 u266 u267 u268 u269 u270 u271 u272 u273 u274 u275 u276 u277 u278 u279 u280 u281 u282 u283 u284 u285 u286 u287 u288 u289 u290 u291 u292 u293 u294 u295 u296 u297 u298 u299 u300 u301 u302 : Value) (pb : Nat) (f : Nat → Value) : (rowOfF 303 214 256 (fun j => (#[u0, u1, u2, u3, u4, u5, u6, u7, u8, u9, u10, u11, u12, u13, u14, u15, u16, u17, u18, u19, u20, u21, u22, u23, u24, .pointer (some ⟨pb, 0, none⟩), u26, u27, u28, u29, u30, u31, u32, u33, u34, u35, u36, u37, u38, u39, u40, u41, u42, u43, u44, u45, u46, u47, u48, u49, u50, u51, u52, u53, u54, u55, u56, u57, u58, u59, u60, u61, u62, u63, u64, u65, u66, u67, u68, u69, u70, u71, u72, u73, u74, u75, u76, u77, u78, u79, u80, u81, u82, u83, u84, u85, u86, u87, u88, u89, u90, u91, u92, u93, u94, u95, u96, u97, u98, u99, u100, u101, u102, u103, u104, u105, u106, u107, u108, u109, u110, u111, u112, u113, u114, u115, u116, u117, u118, u119, u120, u121, u122, u123, u124, u125, u126, u127, u128, u129, u130, u131, u132, u133, u134, u135, u136, u137, u138, u139, u140, u141, u142, u143, u144, u145, u146, u147, u148, u149, u150, u151, u152, u153, u154, u155, u156, u157, u158, u159, u160, u161, u162, u163, u164, u165, u166, u167, u168, u169, u170, u171, u172, u173, u174, u175, u176, u177, u178, u179, u180, u181, u182, u183, u184, u185, u186, u187, u188, u189, u190, u191, u192, u193, u194, u195, u196, u197, u198, u199, u200, u201, u202, u203, u204, u205, u206, u207, u208, u209, u210, u211, u212, u213, u214, u215, u216, u217, u218, u219, u220, u221, u222, u223, u224, u225, u226, u227, u228, u229, u230, u231, u232, u233, u234, u235, u236, u237, u238, u239, u240, u241, u242, u243, u244, u245, u246, u247, u248, u249, u250, u251, u252, u253, u254, u255, u256, u257, u258, u259, u260, u261, u262, u263, u264, u265, u266, u267, u268, u269, u270, u271, u272, u273, u274, u275, u276, u277, u278, u279, u280, u281, u282, u283, u284, u285, u286, u287, u288, u289, u290, u291, u292, u293, u294, u295, u296, u297, u298, u299, u300, u301, u302] : Array Value).getD j undef) f) = [u0, u1, u2, u3, u4, u5, u6, u7, u8, u9, u10, u11, u12, u13, u14, u15, u16, u17, u18, u19, u20, u21, u22, u23, u24, .pointer (some ⟨pb, 0, none⟩), u26, u27, u28, u29, u30, u31, u32, u33, u34, u35, u36, u37, u38, u39, u40, u41, u42, u43, u44, u45, u46, u47, u48, u49, u50, u51, u52, u53, u54, u55, u56, u57, u58, u59, u60, u61, u62, u63, u64, u65, u66, u67, u68, u69, u70, u71, u72, u73, u74, u75, u76, u77, u78, u79, u80, u81, u82, u83, u84, u85, u86, u87, u88, u89, u90, u91, u92, u93, u94, u95, u96, u97, u98, u99, u100, u101, u102, u103, u104, u105, u106, u107, u108, u109, u110, u111, u112, u113, u114, u115, u116, u117, u118, u119, u120, u121, u122, u123, u124, u125, u126, u127, u128, u129, u130, u131, u132, u133, u134, u135, u136, u137, u138, u139, u140, u141, u142, u143, u144, u145, u146, u147, u148, u149, u150, u151, u152, u153, u154, u155, u156, u157, u158, u159, u160, u161, u162, u163, u164, u165, u166, u167, u168, u169, u170, u171, u172, u173, u174, u175, u176, u177, u178, u179, u180, u181, u182, u183, u184, u185, u186, u187, u188, u189, u190, u191, u192, u193, u194, u195, u196, u197, u198, u199, u200, u201, u202, u203, u204, u205, u206, u207, u208, u209, u210, u211, u212, u213, f 214, f 215, f 216, f 217, f 218, f 219, f 220, f 221, f 222, f 223, f 224, f 225, f 226, f 227, f 228, f 229, f 230, f 231, f 232, f 233, f 234, f 235, f 236, f 237, f 238, f 239, f 240, f 241, f 242, f 243, f 244, f 245, f 246, f 247, f 248, f 249, f 250, f 251, f 252, f 253, f 254, f 255, u256, u257, u258, u259, u260, u261, u262, u263, u264, u265, u266, u267, u268, u269, u270, u271, u272, u273, u274, u275, u276, u277, u278, u279, u280, u281, u282, u283, u284, u285, u286, u287, u288, u289, u290, u291, u292, u293, u294, u295, u296, u297, u298, u299, u300, u301, u302] := by kernel_rfl
set_option maxRecDepth 100000 in
set_option maxHeartbeats 4000000 in
theorem tg12 (A : Option Addr) (k : Nat) (m : List Cl) (W' a b c' d : Int) (pb : Nat) (W9 : World) (hcs : CS W9 W9.heap.size (.slice A m.length k) m) (hml : m.length ≤ 60) (hsix : SixIn W9 pb (.slice A m.length k) W' a b c' d) (Q : Exit → Act → World → Prop)
    (u0 u1 u2 u3 u4 u5 u6 u7 u8 u9 u10 u11 u12 u13 u14 u15 u16 u17 u18 u19 u20 u21 u22 u23 u24 u26 u27 u28 u29 u30 u31 u32 u33 u34 u35 u36 u37 u38 u39 u40 u41 u42 u43 u44 u45 u46 u47 u48 u49 u50 u51 u52 u53 u54 u55 u56 u57 u58 u59 u60 u61 u62 u63 u64 u65 u66 u67 u68 u69 u70 u71 u72 u73 u74 u75 u76 u77 u78 u79 u80 u81 u82 u83 u84 u85 u86 u87 u88 u89 u90 u91 u92 u93 u94 u95 u96 u97 u98 u99 u100 u101 u102 u103 u104 u105 u106 u107 u108 u109 u110 u111 u112 u113 u114 u115 u116 u117 u118 u119 u120 u121 u122 u123 u124 u125 u126 u127 u128 u129 u130 u131 u132 u133 u134 u135 u136 u137 u138 u139 u140 u141 u142 u143 u144 u145 u146 u147 u148 u149 u150 u151 u152 u153 u154 u155 u156 u157 u158 u159 u160 u161 u162 u163 u164 u165 u166 u167 u168 u169 u170 u171 u172 u173 u174 u175 u176 u177 u178 u179 u180 u181 u182 u183 u184 u185 u186 u187 u188 u189 u190 u191 u192 u193 u194 u195 u196 u197 u198 u199 u200 u201 u202 u203 u204 u205 u206 u207 u208 u209 u210 u211 u212 u213 u214 u215 u216 u217 u218 u219 u220 u221 u222 u223 u224 u225 u226 u227 u228 u229 u230 u231 u232 u233 u234 u235 u236 u237 u238 u239 u240 u241 u242 u243 u244 u245 u246 u247 u248 u249 u250 u251 u252 u253 u254 u255 u256 u257 u258 u259 u260 u261 u262 u263 u264 u265 u266 u267 u268 u269 u270 u271 u272 u273 u274 u275 u276 u277 u278 u279 u280 u281 u282 u283 u284 u285 u286 u287 u288 u289 u290 u291 u292 u293 u294 u295 u296 u297 u298 u299 u300 u301 u302 : Value)
    (hQ : ∀ (f : Nat → Value) (wx : World), Below W9.heap.size W9 wx → Q .normal ⟨#[u0, u1, u2, u3, u4, u5, u6, u7, u8, u9, u10, u11, u12, u13, u14, u15, u16, u17, u18, u19, u20, u21, u22, u23, u24, .pointer (some ⟨pb, 0, none⟩), u26, u27, u28, u29, u30, u31, u32, u33, u34, u35, u36, u37, u38, u39, u40, u41, u42, u43, u44, u45, u46, u47, u48, u49, u50, u51, u52, u53, u54, u55, u56, u57, u58, u59, u60, u61, u62, u63, u64, u65, u66, u67, u68, u69, u70, u71, u72, u73, u74, u75, u76, u77, u78, u79, u80, u81, u82, u83, u84, u85, u86, u87, u88, u89, u90, u91, u92, u93, u94, u95, u96, u97, u98, u99, u100, u101, u102, u103, u104, u105, u106, u107, u108, u109, u110, u111, u112, u113, u114, u115, u116, u117, u118, u119, u120, u121, u122, u123, u124, u125, u126, u127, u128, u129, u130, u131, u132, u133, u134, u135, u136, u137, u138, u139, u140, u141, u142, u143, u144, u145, u146, u147, u148, u149, u150, u151, u152, u153, u154, u155, u156, u157, u158, u159, u160, u161, u162, u163, u164, u165, u166, u167, u168, u169, u170, u171, u172, u173, u174, u175, u176, u177, u178, u179, u180, u181, u182, u183, u184, u185, u186, u187, u188, u189, u190, u191, u192, u193, u194, u195, u196, u197, u198, u199, u200, u201, u202, u203, u204, u205, u206, u207, u208, u209, u210, u211, u212, u213, f 214, f 215, f 216, f 217, f 218, f 219, f 220, f 221, f 222, f 223, f 224, f 225, f 226, f 227, f 228, f 229, f 230, f 231, f 232, f 233, f 234, f 235, f 236, f 237, f 238, f 239, f 240, f 241, f 242, f 243, f 244, f 245, f 246, f 247, f 248, f 249, f 250, f 251, f 252, f 253, f 254, .bool false, u256, u257, u258, u259, u260, u261, u262, u263, u264, u265, u266, u267, u268, u269, u270, u271, u272, u273, u274, u275, u276, u277, u278, u279, u280, u281, u282, u283, u284, u285, u286, u287, u288, u289, u290, u291, u292, u293, u294, u295, u296, u297, u298, u299, u300, u301, u302], []⟩ wx) :
    Code.wp Try.prog tgReg12 Q ⟨#[u0, u1, u2, u3, u4, u5, u6, u7, u8, u9, u10, u11, u12, u13, u14, u15, u16, u17, u18, u19, u20, u21, u22, u23, u24, .pointer (some ⟨pb, 0, none⟩), u26, u27, u28, u29, u30, u31, u32, u33, u34, u35, u36, u37, u38, u39, u40, u41, u42, u43, u44, u45, u46, u47, u48, u49, u50, u51, u52, u53, u54, u55, u56, u57, u58, u59, u60, u61, u62, u63, u64, u65, u66, u67, u68, u69, u70, u71, u72, u73, u74, u75, u76, u77, u78, u79, u80, u81, u82, u83, u84, u85, u86, u87, u88, u89, u90, u91, u92, u93, u94, u95, u96, u97, u98, u99, u100, u101, u102, u103, u104, u105, u106, u107, u108, u109, u110, u111, u112, u113, u114, u115, u116, u117, u118, u119, u120, u121, u122, u123, u124, u125, u126, u127, u128, u129, u130, u131, u132, u133, u134, u135, u136, u137, u138, u139, u140, u141, u142, u143, u144, u145, u146, u147, u148, u149, u150, u151, u152, u153, u154, u155, u156, u157, u158, u159, u160, u161, u162, u163, u164, u165, u166, u167, u168, u169, u170, u171, u172, u173, u174, u175, u176, u177, u178, u179, u180, u181, u182, u183, u184, u185, u186, u187, u188, u189, u190, u191, u192, u193, u194, u195, u196, u197, u198, u199, u200, u201, u202, u203, u204, u205, u206, u207, u208, u209, u210, u211, u212, u213, u214, u215, u216, u217, u218, u219, u220, u221, u222, u223, u224, u225, u226, u227, u228, u229, u230, u231, u232, u233, u234, u235, u236, u237, u238, u239, u240, u241, u242, u243, u244, u245, u246, u247, u248, u249, u250, u251, u252, u253, u254, u255, u256, u257, u258, u259, u260, u261, u262, u263, u264, u265, u266, u267, u268, u269, u270, u271, u272, u273, u274, u275, u276, u277, u278, u279, u280, u281, u282, u283, u284, u285, u286, u287, u288, u289, u290, u291, u292, u293, u294, u295, u296, u297, u298, u299, u300, u301, u302], []⟩ W9 := by
  refine Code.wp_mono NoPanic.imp ?_
  rw [tgIs12]
  refine region_run (S := (fun x : World => Six x pb (.slice A m.length k) W' a b c' d)) tgOrd12 (by kernel_rfl) tgSel12 (fun _ _ _ _ _ h => h) tgSize12 tgLen12 tgOwn12 tgOk12 (hsix.below (Below.refl _ _).drew) ?_
  refine tgRun12 A k m W' a b c' d pb W9 hcs hml hsix _ _ ⟨rfl, Agree.refl, fun j v h => ?_⟩ fun b wx hag hv hb => NoPanic.normal ?_
  · rw [List.lookup_cons] at h
    split at h
    · rename_i e
      obtain rfl : j = 25 := by simpa using e
      injection h with h
      subst h
      rfl
    · cases h
  · have hu : ∀ j, j < 303 → (#[u0, u1, u2, u3, u4, u5, u6, u7, u8, u9, u10, u11, u12, u13, u14, u15, u16, u17, u18, u19, u20, u21, u22, u23, u24, .pointer (some ⟨pb, 0, none⟩), u26, u27, u28, u29, u30, u31, u32, u33, u34, u35, u36, u37, u38, u39, u40, u41, u42, u43, u44, u45, u46, u47, u48, u49, u50, u51, u52, u53, u54, u55, u56, u57, u58, u59, u60, u61, u62, u63, u64, u65, u66, u67, u68, u69, u70, u71, u72, u73, u74, u75, u76, u77, u78, u79, u80, u81, u82, u83, u84, u85, u86, u87, u88, u89, u90, u91, u92, u93, u94, u95, u96, u97, u98, u99, u100, u101, u102, u103, u104, u105, u106, u107, u108, u109, u110, u111, u112, u113, u114, u115, u116, u117, u118, u119, u120, u121, u122, u123, u124, u125, u126, u127, u128, u129, u130, u131, u132, u133, u134, u135, u136, u137, u138, u139, u140, u141, u142, u143, u144, u145, u146, u147, u148, u149, u150, u151, u152, u153, u154, u155, u156, u157, u158, u159, u160, u161, u162, u163, u164, u165, u166, u167, u168, u169, u170, u171, u172, u173, u174, u175, u176, u177, u178, u179, u180, u181, u182, u183, u184, u185, u186, u187, u188, u189, u190, u191, u192, u193, u194, u195, u196, u197, u198, u199, u200, u201, u202, u203, u204, u205, u206, u207, u208, u209, u210, u211, u212, u213, u214, u215, u216, u217, u218, u219, u220, u221, u222, u223, u224, u225, u226, u227, u228, u229, u230, u231, u232, u233, u234, u235, u236, u237, u238, u239, u240, u241, u242, u243, u244, u245, u246, u247, u248, u249, u250, u251, u252, u253, u254, u255, u256, u257, u258, u259, u260, u261, u262, u263, u264, u265, u266, u267, u268, u269, u270, u271, u272, u273, u274, u275, u276, u277, u278, u279, u280, u281, u282, u283, u284, u285, u286, u287, u288, u289, u290, u291, u292, u293, u294, u295, u296, u297, u298, u299, u300, u301, u302] : Array Value)[j]? = some ((#[u0, u1, u2, u3, u4, u5, u6, u7, u8, u9, u10, u11, u12, u13, u14, u15, u16, u17, u18, u19, u20, u21, u22, u23, u24, .pointer (some ⟨pb, 0, none⟩), u26, u27, u28, u29, u30, u31, u32, u33, u34, u35, u36, u37, u38, u39, u40, u41, u42, u43, u44, u45, u46, u47, u48, u49, u50, u51, u52, u53, u54, u55, u56, u57, u58, u59, u60, u61, u62, u63, u64, u65, u66, u67, u68, u69, u70, u71, u72, u73, u74, u75, u76, u77, u78, u79, u80, u81, u82, u83, u84, u85, u86, u87, u88, u89, u90, u91, u92, u93, u94, u95, u96, u97, u98, u99, u100, u101, u102, u103, u104, u105, u106, u107, u108, u109, u110, u111, u112, u113, u114, u115, u116, u117, u118, u119, u120, u121, u122, u123, u124, u125, u126, u127, u128, u129, u130, u131, u132, u133, u134, u135, u136, u137, u138, u139, u140, u141, u142, u143, u144, u145, u146, u147, u148, u149, u150, u151, u152, u153, u154, u155, u156, u157, u158, u159, u160, u161, u162, u163, u164, u165, u166, u167, u168, u169, u170, u171, u172, u173, u174, u175, u176, u177, u178, u179, u180, u181, u182, u183, u184, u185, u186, u187, u188, u189, u190, u191, u192, u193, u194, u195, u196, u197, u198, u199, u200, u201, u202, u203, u204, u205, u206, u207, u208, u209, u210, u211, u212, u213, u214, u215, u216, u217, u218, u219, u220, u221, u222, u223, u224, u225, u226, u227, u228, u229, u230, u231, u232, u233, u234, u235, u236, u237, u238, u239, u240, u241, u242, u243, u244, u245, u246, u247, u248, u249, u250, u251, u252, u253, u254, u255, u256, u257, u258, u259, u260, u261, u262, u263, u264, u265, u266, u267, u268, u269, u270, u271, u272, u273, u274, u275, u276, u277, u278, u279, u280, u281, u282, u283, u284, u285, u286, u287, u288, u289, u290, u291, u292, u293, u294, u295, u296, u297, u298, u299, u300, u301, u302] : Array Value).getD j undef) := fun j hj => by
      rw [Array.getD_eq_getD_getElem?, Array.getElem?_eq_getElem (show j < (#[u0, u1, u2, u3, u4, u5, u6, u7, u8, u9, u10, u11, u12, u13, u14, u15, u16, u17, u18, u19, u20, u21, u22, u23, u24, .pointer (some ⟨pb, 0, none⟩), u26, u27, u28, u29, u30, u31, u32, u33, u34, u35, u36, u37, u38, u39, u40, u41, u42, u43, u44, u45, u46, u47, u48, u49, u50, u51, u52, u53, u54, u55, u56, u57, u58, u59, u60, u61, u62, u63, u64, u65, u66, u67, u68, u69, u70, u71, u72, u73, u74, u75, u76, u77, u78, u79, u80, u81, u82, u83, u84, u85, u86, u87, u88, u89, u90, u91, u92, u93, u94, u95, u96, u97, u98, u99, u100, u101, u102, u103, u104, u105, u106, u107, u108, u109, u110, u111, u112, u113, u114, u115, u116, u117, u118, u119, u120, u121, u122, u123, u124, u125, u126, u127, u128, u129, u130, u131, u132, u133, u134, u135, u136, u137, u138, u139, u140, u141, u142, u143, u144, u145, u146, u147, u148, u149, u150, u151, u152, u153, u154, u155, u156, u157, u158, u159, u160, u161, u162, u163, u164, u165, u166, u167, u168, u169, u170, u171, u172, u173, u174, u175, u176, u177, u178, u179, u180, u181, u182, u183, u184, u185, u186, u187, u188, u189, u190, u191, u192, u193, u194, u195, u196, u197, u198, u199, u200, u201, u202, u203, u204, u205, u206, u207, u208, u209, u210, u211, u212, u213, u214, u215, u216, u217, u218, u219, u220, u221, u222, u223, u224, u225, u226, u227, u228, u229, u230, u231, u232, u233, u234, u235, u236, u237, u238, u239, u240, u241, u242, u243, u244, u245, u246, u247, u248, u249, u250, u251, u252, u253, u254, u255, u256, u257, u258, u259, u260, u261, u262, u263, u264, u265, u266, u267, u268, u269, u270, u271, u272, u273, u274, u275, u276, u277, u278, u279, u280, u281, u282, u283, u284, u285, u286, u287, u288, u289, u290, u291, u292, u293, u294, u295, u296, u297, u298, u299, u300, u301, u302] : Array Value).size from hj)]
      rfl
    obtain ⟨f, rfl, hf⟩ := hag.form 303 rfl _ hu
    have e : f 255 = .bool false := hf 255 _ (by decide) hv
    rw [tgForm12]
    have := hQ f wx hb
    rw [← e] at this
    exact this
end Go.Proofs.Ytejemcpkmfhenaa

namespace Go.Proofs.Ytejemcpkmfhenaa
open Go.RowKit
set_option linter.unusedVariables false
set_option linter.unusedSimpArgs false

noncomputable def tgReg14 : Code := (Try.f3.body.bind (findRegionG 14)).getD .skip
noncomputable def tgOps14 : Array Oper := match tgReg14 with
  | .region _ ops _ => ops
  | _ => #[]
def tgOrd14 : List (Nat × Bool × Nat) := [(0, true, 1), (1, true, 3), (2, true, 7), (3, true, 15), (4, true, 31), (5, true, 63), (6, true, 127), (7, true, 255), (8, true, 511), (9, true, 1023), (10, true, 2047), (11, true, 4095), (13, true, 12287), (14, true, 28671), (15, true, 61439), (16, true, 126975), (17, true, 258047), (18, true, 520191), (19, true, 1044479), (20, true, 2093055), (21, true, 4190207), (22, true, 8384511), (23, true, 16773119), (24, true, 33550335), (12, false, 33554431), (25, false, 67108863), (26, false, 134217727), (27, true, 268435455), (28, true, 536870911), (29, true, 1073741823), (30, true, 2147483647), (31, true, 4294967295), (32, true, 8589934591), (33, true, 17179869183), (34, true, 34359738367), (36, true, 103079215103), (37, true, 240518168575), (38, true, 515396075519), (39, true, 1065151889407), (40, true, 2164663517183), (41, true, 4363686772735), (35, false, 4398046511103), (42, false, 8796093022207), (43, false, 17592186044415), (44, true, 35184372088831), (45, true, 70368744177663)]
theorem tgIs14 : tgReg14 = .region 14 tgOps14 true := by kernel_rfl
theorem tgSize14 : tgOps14.size = 46 := by kernel_rfl
theorem tgOwn14 : okOwn tgOps14 256 46 = true := by kernel_rfl
theorem tgOk14 : okSteps tgOps14 46 tgOrd14 0 = true := by kernel_rfl
theorem tgSel14 : Region.noSelect tgOps14 = true := by kernel_rfl
theorem tgLen14 : Nat.ble tgOrd14.length 46 = true := by kernel_rfl
set_option maxRecDepth 100000 in
set_option maxHeartbeats 4000000 in
theorem tgRun14 (A : Option Addr) (k : Nat) (m : List Cl) (W' a b c' d : Int) (pb : Nat) (sb r : Nat) (W9 : World) (hcs : CS W9 W9.heap.size (.slice A m.length k) m) (hml : m.length ≤ 60) (hsix : SixIn W9 pb (.slice A m.length k) W' a b c' d) (hsc : ∀ x : World, Below W9.heap.size W9 x → x.cell? ⟨sb, 0, none⟩ = some (.int .i64 (r : Int))) (Q : Exit → Act → World → Prop)
    (act : Act) (hst : St 303 256 302 act act [(25, .pointer (some ⟨pb, 0, none⟩)), (19, .pointer (some ⟨sb, 0, none⟩))]) (hQ : ∀ b wx, Agree 256 302 act b → Has b 301 (.bool false) → Below W9.heap.size W9 wx → Q .normal b wx) :
    RunH Try.prog tgOps14 Q (fun x : World => Six x pb (.slice A m.length k) W' a b c' d ∧ x.cell? ⟨sb, 0, none⟩ = some (.int .i64 (r : Int))) (tgOrd14.map fun x => (x.1, x.2.1)) act W9.drew := by
  have HS := Lib.hid hsix
  have HC := Lib.hid hcs
  have hS0 : Below W9.heap.size W9 W9.drew := (Below.refl _ _).drew
  obtain ⟨Cq, hCq⟩ : ∃ Cq : Int, (if 40 < c' then 40 else c') = Cq := ⟨_, rfl⟩
  obtain ⟨Dq, hDq⟩ : ∃ Dq : Int, (if 40 < d then 40 else d) = Dq := ⟨_, rfl⟩
  obtain ⟨Aq, hAq⟩ : ∃ Aq : Int, (if 40 < a then 40 else a) = Aq := ⟨_, rfl⟩
  obtain ⟨Bq, hBq⟩ : ∃ Bq : Int, (if 40 < b then 40 else b) = Bq := ⟨_, rfl⟩
  have nC : Cq ≤ 40 := by rw [← hCq]; split <;> omega
  have nD : Dq ≤ 40 := by rw [← hDq]; split <;> omega
  have nA : Aq ≤ 40 := by rw [← hAq]; split <;> omega
  have nB : Bq ≤ 40 := by rw [← hBq]; split <;> omega
  have HS9 := Lib.hid (show ∀ x : World, Below W9.heap.size W9 x → Six x pb (.slice A m.length k) W' a b c' d ∧ x.cell? ⟨sb, 0, none⟩ = some (.int .i64 (r : Int)) from fun x hx => ⟨HS.out.below hx, hsc x hx⟩)
  have HU := Lib.hid (fun w' hb => at_cs (D := W9) hb (gsize_any (.slice A m.length k) m (r : Int) W' Cq Dq w' ((HC.out.below hb).more hb.size) (by omega)))
  have HUr := Lib.hid (fun w' hb => at_cs (D := W9) hb ((Size_any (.slice A m.length k) m (r : Int) W' Cq Dq w' ((HC.out.below hb).more hb.size) (by omega)).mono fun {_ _} h => h.toCs))
  have HD := Lib.hid (fun w' hb => at_cs (D := W9) hb ((gblank_any Aq Bq w').mono fun {_ _} h => h.toCs))
  have HDr := Lib.hid (fun w' hb => at_cs (D := W9) hb ((blankr_any Aq Bq w').mono fun {_ _} h => h.toCs))
  have HLU := Lib.hid (size40 m (r : Int) W' Cq Dq hml nC nD)
  have HLDn := Lib.hid (blank40 Aq Bq nA nB)
  have hSw := HS9.out _ hS0
  clear hcs hsix
  simp only [tgOrd14, List.map_cons, List.map_nil]
  refine hst.pure 0 256 (.fieldAddr 34 (.tmp 25) 0) none (.pointer (some ⟨pb, 0, none⟩)) (by kernel_rfl) trivial (fun o ho w _ => tx_field0 (hst.eval (by rfl)) o ho w) hSw (by decide) (by decide) (by decide) fun bt hst => ?_
  refine hst.pure 1 257 (.load 22 (.tmp 256)) none (Value.slice A m.length k) (by kernel_rfl) trivial (fun o ho w hw => tx_loadC (hst.eval (by rfl)) o ho w hw.1.1) hSw (by decide) (by decide) (by decide) fun bt hst => ?_
  refine hst.pure 2 258 (.fieldAddr 32 (.tmp 19) 0) none (.pointer (some ⟨sb, 0, none⟩)) (by kernel_rfl) trivial (fun o ho w _ => tx_rows (hst.eval (by rfl)) o ho w) hSw (by decide) (by decide) (by decide) fun bt hst => ?_
  refine hst.pure 3 259 (.load 3 (.tmp 258)) none (.int .i64 (r : Int)) (by kernel_rfl) trivial (fun o ho w hw => tx_loadI (hst.eval (by rfl)) o ho w hw.2) hSw (by decide) (by decide) (by decide) fun bt hst => ?_
  refine hst.pure 4 260 (.fieldAddr 34 (.tmp 25) 1) none (.pointer (some ⟨pb, 1, none⟩)) (by kernel_rfl) trivial (fun o ho w _ => tx_field1 (hst.eval (by rfl)) o ho w) hSw (by decide) (by decide) (by decide) fun bt hst => ?_
  refine hst.pure 5 261 (.load 3 (.tmp 260)) none (.int .i64 W') (by kernel_rfl) trivial (fun o ho w hw => tx_loadI (hst.eval (by rfl)) o ho w hw.1.2.1) hSw (by decide) (by decide) (by decide) fun bt hst => ?_
  refine hst.pure 6 262 (.fieldAddr 34 (.tmp 25) 4) none (.pointer (some ⟨pb, 4, none⟩)) (by kernel_rfl) trivial (fun o ho w _ => tx_field4 (hst.eval (by rfl)) o ho w) hSw (by decide) (by decide) (by decide) fun bt hst => ?_
  refine hst.pure 7 263 (.load 3 (.tmp 262)) none (.int .i64 c') (by kernel_rfl) trivial (fun o ho w hw => tx_loadI (hst.eval (by rfl)) o ho w hw.1.2.2.2.2.1) hSw (by decide) (by decide) (by decide) fun bt hst => ?_
  refine hst.pure 8 264 (.call { callee := .builtin .min, args := #[.tmp 263, .const (.int .i64 40)], argTypes := #[3, 3] }) none (.int .i64 Cq) (by kernel_rfl) trivial (fun o ho w _ => tx_min hCq (hst.eval (by rfl)) o ho rfl w) hSw (by decide) (by decide) (by decide) fun bt hst => ?_
  refine hst.pure 9 265 (.fieldAddr 34 (.tmp 25) 5) none (.pointer (some ⟨pb, 5, none⟩)) (by kernel_rfl) trivial (fun o ho w _ => tx_field5 (hst.eval (by rfl)) o ho w) hSw (by decide) (by decide) (by decide) fun bt hst => ?_
  refine hst.pure 10 266 (.load 3 (.tmp 265)) none (.int .i64 d) (by kernel_rfl) trivial (fun o ho w hw => tx_loadI (hst.eval (by rfl)) o ho w hw.1.2.2.2.2.2) hSw (by decide) (by decide) (by decide) fun bt hst => ?_
  refine hst.pure 11 267 (.call { callee := .builtin .min, args := #[.tmp 266, .const (.int .i64 40)], argTypes := #[3, 3] }) none (.int .i64 Dq) (by kernel_rfl) trivial (fun o ho w _ => tx_min hDq (hst.eval (by rfl)) o ho rfl w) hSw (by decide) (by decide) (by decide) fun bt hst => ?_
  refine hst.pure 13 269 (.fieldAddr 34 (.tmp 25) 0) none (.pointer (some ⟨pb, 0, none⟩)) (by kernel_rfl) trivial (fun o ho w _ => tx_field0 (hst.eval (by rfl)) o ho w) hSw (by decide) (by decide) (by decide) fun bt hst => ?_
  refine hst.pure 14 270 (.load 22 (.tmp 269)) none (Value.slice A m.length k) (by kernel_rfl) trivial (fun o ho w hw => tx_loadC (hst.eval (by rfl)) o ho w hw.1.1) hSw (by decide) (by decide) (by decide) fun bt hst => ?_
  refine hst.pure 15 271 (.fieldAddr 32 (.tmp 19) 0) none (.pointer (some ⟨sb, 0, none⟩)) (by kernel_rfl) trivial (fun o ho w _ => tx_rows (hst.eval (by rfl)) o ho w) hSw (by decide) (by decide) (by decide) fun bt hst => ?_
  refine hst.pure 16 272 (.load 3 (.tmp 271)) none (.int .i64 (r : Int)) (by kernel_rfl) trivial (fun o ho w hw => tx_loadI (hst.eval (by rfl)) o ho w hw.2) hSw (by decide) (by decide) (by decide) fun bt hst => ?_
  refine hst.pure 17 273 (.fieldAddr 34 (.tmp 25) 1) none (.pointer (some ⟨pb, 1, none⟩)) (by kernel_rfl) trivial (fun o ho w _ => tx_field1 (hst.eval (by rfl)) o ho w) hSw (by decide) (by decide) (by decide) fun bt hst => ?_
  refine hst.pure 18 274 (.load 3 (.tmp 273)) none (.int .i64 W') (by kernel_rfl) trivial (fun o ho w hw => tx_loadI (hst.eval (by rfl)) o ho w hw.1.2.1) hSw (by decide) (by decide) (by decide) fun bt hst => ?_
  refine hst.pure 19 275 (.fieldAddr 34 (.tmp 25) 4) none (.pointer (some ⟨pb, 4, none⟩)) (by kernel_rfl) trivial (fun o ho w _ => tx_field4 (hst.eval (by rfl)) o ho w) hSw (by decide) (by decide) (by decide) fun bt hst => ?_
  refine hst.pure 20 276 (.load 3 (.tmp 275)) none (.int .i64 c') (by kernel_rfl) trivial (fun o ho w hw => tx_loadI (hst.eval (by rfl)) o ho w hw.1.2.2.2.2.1) hSw (by decide) (by decide) (by decide) fun bt hst => ?_
  refine hst.pure 21 277 (.call { callee := .builtin .min, args := #[.tmp 276, .const (.int .i64 40)], argTypes := #[3, 3] }) none (.int .i64 Cq) (by kernel_rfl) trivial (fun o ho w _ => tx_min hCq (hst.eval (by rfl)) o ho rfl w) hSw (by decide) (by decide) (by decide) fun bt hst => ?_
  refine hst.pure 22 278 (.fieldAddr 34 (.tmp 25) 5) none (.pointer (some ⟨pb, 5, none⟩)) (by kernel_rfl) trivial (fun o ho w _ => tx_field5 (hst.eval (by rfl)) o ho w) hSw (by decide) (by decide) (by decide) fun bt hst => ?_
  refine hst.pure 23 279 (.load 3 (.tmp 278)) none (.int .i64 d) (by kernel_rfl) trivial (fun o ho w hw => tx_loadI (hst.eval (by rfl)) o ho w hw.1.2.2.2.2.2) hSw (by decide) (by decide) (by decide) fun bt hst => ?_
  refine hst.pure 24 280 (.call { callee := .builtin .min, args := #[.tmp 279, .const (.int .i64 40)], argTypes := #[3, 3] }) none (.int .i64 Dq) (by kernel_rfl) trivial (fun o ho w _ => tx_min hDq (hst.eval (by rfl)) o ho rfl w) hSw (by decide) (by decide) (by decide) fun bt hst => ?_
  refine hst.call 12 268 22 #[.tmp 257, .tmp 259, .tmp 261, .tmp 264, .tmp 267] #[22, 3, 3, 3, 3] none #[Value.slice A m.length k, .int .i64 (r : Int), .int .i64 W', .int .i64 Cq, .int .i64 Dq] (by kernel_rfl) trivial (map5 (hst.eval (by rfl)) (hst.eval (by rfl)) (hst.eval (by rfl)) (hst.eval (by rfl)) (hst.eval (by rfl))) (by kernel_rfl) (by decide) (by decide) (by decide) ?_
  refine (HU.out _ hS0).mono ?_
  rintro e w1 ⟨A1, k1, rfl, ha, bb1, -⟩
  refine ⟨_, rfl, HS9.out _ bb1, fun bt hst => ?_⟩
  have hSw := HS9.out _ bb1
  refine hst.call 25 281 23 #[.tmp 270, .tmp 272, .tmp 274, .tmp 277, .tmp 280] #[22, 3, 3, 3, 3] none #[Value.slice A m.length k, .int .i64 (r : Int), .int .i64 W', .int .i64 Cq, .int .i64 Dq] (by kernel_rfl) trivial (map5 (hst.eval (by rfl)) (hst.eval (by rfl)) (hst.eval (by rfl)) (hst.eval (by rfl)) (hst.eval (by rfl))) (by kernel_rfl) (by decide) (by decide) (by decide) ?_
  refine (HUr.out _ bb1).mono ?_
  rintro e w2 ⟨A2, k2, rfl, hb, bb2, bb'⟩
  have ha := (ha.below bb').more bb'.size
  refine ⟨_, rfl, HS9.out _ bb2, fun bt hst => ?_⟩
  have hSw := HS9.out _ bb2
  refine hst.call 26 282 9 #[.tmp 268, .tmp 281] #[22, 22] none #[.slice A1 _ k1, .slice A2 _ k2] (by kernel_rfl) trivial (map2 (hst.eval (by rfl)) (hst.eval (by rfl))) (by kernel_rfl) (by decide) (by decide) (by decide) ?_
  refine (sameAt (D := W9) bb2 ha hb (by first | exact HLU.out | exact HLDn.out)).mono ?_
  rintro e w3 ⟨rfl, bc3⟩
  refine ⟨_, rfl, HS9.out _ bc3, fun bt hst => ?_⟩
  have hSw := HS9.out _ bc3
  refine hst.pure 27 283 (.unOp .not 4 (.tmp 282)) none (.bool (!true)) (by kernel_rfl) trivial (fun o ho w _ => exec_not true (hst.eval (by rfl)) o ho w) hSw (by decide) (by decide) (by decide) fun bt hst => ?_
  refine hst.pure 28 284 (.move (.tmp 283)) none (.bool false) (by kernel_rfl) trivial (fun o ho w _ => exec_move _ (hst.eval (by rfl)) o ho w) hSw (by decide) (by decide) (by decide) fun bt hst => ?_
  refine hst.pure 29 285 (.fieldAddr 34 (.tmp 25) 2) (some (28, false)) (.pointer (some ⟨pb, 2, none⟩)) (by kernel_rfl) (hst.asked 28 false 284 (by kernel_rfl) (by rfl)) (fun o ho w _ => tx_field2 (hst.eval (by rfl)) o ho w) hSw (by decide) (by decide) (by decide) fun bt hst => ?_
  refine hst.pure 30 286 (.load 3 (.tmp 285)) (some (28, false)) (.int .i64 a) (by kernel_rfl) (hst.asked 28 false 284 (by kernel_rfl) (by rfl)) (fun o ho w hw => tx_loadI (hst.eval (by rfl)) o ho w hw.1.2.2.1) hSw (by decide) (by decide) (by decide) fun bt hst => ?_
  refine hst.pure 31 287 (.call { callee := .builtin .min, args := #[.tmp 286, .const (.int .i64 40)], argTypes := #[3, 3] }) (some (28, false)) (.int .i64 Aq) (by kernel_rfl) (hst.asked 28 false 284 (by kernel_rfl) (by rfl)) (fun o ho w _ => tx_min hAq (hst.eval (by rfl)) o ho rfl w) hSw (by decide) (by decide) (by decide) fun bt hst => ?_
  refine hst.pure 32 288 (.fieldAddr 34 (.tmp 25) 3) (some (28, false)) (.pointer (some ⟨pb, 3, none⟩)) (by kernel_rfl) (hst.asked 28 false 284 (by kernel_rfl) (by rfl)) (fun o ho w _ => tx_field3 (hst.eval (by rfl)) o ho w) hSw (by decide) (by decide) (by decide) fun bt hst => ?_
  refine hst.pure 33 289 (.load 3 (.tmp 288)) (some (28, false)) (.int .i64 b) (by kernel_rfl) (hst.asked 28 false 284 (by kernel_rfl) (by rfl)) (fun o ho w hw => tx_loadI (hst.eval (by rfl)) o ho w hw.1.2.2.2.1) hSw (by decide) (by decide) (by decide) fun bt hst => ?_
  refine hst.pure 34 290 (.call { callee := .builtin .min, args := #[.tmp 289, .const (.int .i64 40)], argTypes := #[3, 3] }) (some (28, false)) (.int .i64 Bq) (by kernel_rfl) (hst.asked 28 false 284 (by kernel_rfl) (by rfl)) (fun o ho w _ => tx_min hBq (hst.eval (by rfl)) o ho rfl w) hSw (by decide) (by decide) (by decide) fun bt hst => ?_
  refine hst.pure 36 292 (.fieldAddr 34 (.tmp 25) 2) (some (28, false)) (.pointer (some ⟨pb, 2, none⟩)) (by kernel_rfl) (hst.asked 28 false 284 (by kernel_rfl) (by rfl)) (fun o ho w _ => tx_field2 (hst.eval (by rfl)) o ho w) hSw (by decide) (by decide) (by decide) fun bt hst => ?_
  refine hst.pure 37 293 (.load 3 (.tmp 292)) (some (28, false)) (.int .i64 a) (by kernel_rfl) (hst.asked 28 false 284 (by kernel_rfl) (by rfl)) (fun o ho w hw => tx_loadI (hst.eval (by rfl)) o ho w hw.1.2.2.1) hSw (by decide) (by decide) (by decide) fun bt hst => ?_
  refine hst.pure 38 294 (.call { callee := .builtin .min, args := #[.tmp 293, .const (.int .i64 40)], argTypes := #[3, 3] }) (some (28, false)) (.int .i64 Aq) (by kernel_rfl) (hst.asked 28 false 284 (by kernel_rfl) (by rfl)) (fun o ho w _ => tx_min hAq (hst.eval (by rfl)) o ho rfl w) hSw (by decide) (by decide) (by decide) fun bt hst => ?_
  refine hst.pure 39 295 (.fieldAddr 34 (.tmp 25) 3) (some (28, false)) (.pointer (some ⟨pb, 3, none⟩)) (by kernel_rfl) (hst.asked 28 false 284 (by kernel_rfl) (by rfl)) (fun o ho w _ => tx_field3 (hst.eval (by rfl)) o ho w) hSw (by decide) (by decide) (by decide) fun bt hst => ?_
  refine hst.pure 40 296 (.load 3 (.tmp 295)) (some (28, false)) (.int .i64 b) (by kernel_rfl) (hst.asked 28 false 284 (by kernel_rfl) (by rfl)) (fun o ho w hw => tx_loadI (hst.eval (by rfl)) o ho w hw.1.2.2.2.1) hSw (by decide) (by decide) (by decide) fun bt hst => ?_
  refine hst.pure 41 297 (.call { callee := .builtin .min, args := #[.tmp 296, .const (.int .i64 40)], argTypes := #[3, 3] }) (some (28, false)) (.int .i64 Bq) (by kernel_rfl) (hst.asked 28 false 284 (by kernel_rfl) (by rfl)) (fun o ho w _ => tx_min hBq (hst.eval (by rfl)) o ho rfl w) hSw (by decide) (by decide) (by decide) fun bt hst => ?_
  refine hst.call 35 291 24 #[.tmp 287, .tmp 290] #[3, 3] (some (28, false)) #[.int .i64 Aq, .int .i64 Bq] (by kernel_rfl) (hst.asked 28 false 284 (by kernel_rfl) (by rfl)) (map2 (hst.eval (by rfl)) (hst.eval (by rfl))) (by kernel_rfl) (by decide) (by decide) (by decide) ?_
  refine (HD.out _ bc3).mono ?_
  rintro e w4 ⟨A4, k4, rfl, ha, bb4, -⟩
  refine ⟨_, rfl, HS9.out _ bb4, fun bt hst => ?_⟩
  have hSw := HS9.out _ bb4
  refine hst.call 42 298 25 #[.tmp 294, .tmp 297] #[3, 3] (some (28, false)) #[.int .i64 Aq, .int .i64 Bq] (by kernel_rfl) (hst.asked 28 false 284 (by kernel_rfl) (by rfl)) (map2 (hst.eval (by rfl)) (hst.eval (by rfl))) (by kernel_rfl) (by decide) (by decide) (by decide) ?_
  refine (HDr.out _ bb4).mono ?_
  rintro e w5 ⟨A5, k5, rfl, hb, bb5, bb'⟩
  have ha := (ha.below bb').more bb'.size
  refine ⟨_, rfl, HS9.out _ bb5, fun bt hst => ?_⟩
  have hSw := HS9.out _ bb5
  refine hst.call 43 299 9 #[.tmp 291, .tmp 298] #[22, 22] (some (28, false)) #[.slice A4 _ k4, .slice A5 _ k5] (by kernel_rfl) (hst.asked 28 false 284 (by kernel_rfl) (by rfl)) (map2 (hst.eval (by rfl)) (hst.eval (by rfl))) (by kernel_rfl) (by decide) (by decide) (by decide) ?_
  refine (sameAt (D := W9) bb5 ha hb (by first | exact HLU.out | exact HLDn.out)).mono ?_
  rintro e w6 ⟨rfl, bc6⟩
  refine ⟨_, rfl, HS9.out _ bc6, fun bt hst => ?_⟩
  have hSw := HS9.out _ bc6
  refine hst.pure 44 300 (.unOp .not 4 (.tmp 299)) (some (28, false)) (.bool (!true)) (by kernel_rfl) (hst.asked 28 false 284 (by kernel_rfl) (by rfl)) (fun o ho w _ => exec_not true (hst.eval (by rfl)) o ho w) hSw (by decide) (by decide) (by decide) fun bt hst => ?_
  refine hst.pure 45 301 (.pick (.tmp 284) (.const (.bool true)) (.tmp 300)) none (.bool false) (by kernel_rfl) trivial (fun o ho w _ => exec_pickF _ (hst.eval (by rfl)) (hst.eval (by rfl)) o ho w) hSw (by decide) (by decide) (by decide) fun bt hst => ?_
  exact hQ _ _ hst.agree (hst.holds 301 _ (by rfl)) bc6
set_option maxRecDepth 100000 in
theorem tgForm14 (u0 u1 u2 u3 u4 u5 u6 u7 u8 u9 u10 u11 u12 u13 u14 u15 u16 u17 u18 u20 u21 u22 u23 u24 u26 u27 u28 u29 u30 u31 u32 u33 u34 u35 u36 u37 u38 u39 u40 u41 u42 u43 u44 u45 u46 u47 u48 u49 u50 u51 u52 u53 u54 u55 u56 u57 u58 u59 u60 u61 u62 u63 u64 u65 u66 u67 u68 u69 u70 u71 u72 u73 u74 u75 u76 u77 u78 u79 u80 u81 u82 u83 u84 u85 u86 u87 u88 u89 u90 u91 u92 u93 u94 u95 u96 u97 u98 u99 u100 u101 u102 u103 u104 u105 u106 u107 u108 u109 u110 u111 u112 u113 u114 u115 u116 u117 u118 u119 u120 u121 u122 u123 u124 u125 u126 u127 u128 u129 u130 u131 u132 u133 u134 u135 u136 u137 u138 u139 u140 u141 u142 u143 u144 u145 u146 u147 u148 u149 u150 u151 u152 u153 u154 u155 u156 u157 u158 u159 u160 u161 u162 u163 u164 u165 u166 u167 u168 u169 u170 u171 u172 u173 u174 u175 u176 u177 u178 u179 u180 u181 u182 u183 u184 u185 u186 u187 u188 u189 u190 u191 u192 u193 u194 u195 u196 u197 u198 u199 u200 u201 u202 u203 u204 u205 u206 u207 u208 u209 u210 u211 u212 u213 u214 u215 u216 u217 u218 u219 u220 u221 u222 u223 u224 u225 u226 u227 u228 u229 u230 u231 u232 u233 u234 u235 u236 u237 u238 u239 u240 u241 u242 u243 u244 u245 u246 u247 u248 u249 u250 u251 u252 u253 u254 u255 u256 u257 u258 u259 u260 u261 u262 u263 u264 u265 u266 u267 u268 u269 u270 u271 u272 u273 u274 u275 u276 u277 u278 u279 u280 u281 u282 u283 u284 u285 u286 u287 u288 u289 u290 u291 u292 u293 u294 u295 u296 u297 u298 u299 u300 u301 u302 : Value) (pb sb : Nat) (f : Nat → Value) : (rowOfF 303 256 302 (fun j => (#[u0, u1, u2, u3, u4, u5, u6, u7, u8, u9, u10, u11, u12, u13, u14, u15, u16, u17, u18, .pointer (some ⟨sb, 0, none⟩), u20, u21, u22, u23, u24, .pointer (some ⟨pb, 0, none⟩), u26, u27, u28, u29, u30, u31, u32, u33, u34, u35, u36, u37, u38, u39, u40, u41, u42, u43, u44, u45, u46, u47, u48, u49, u50, u51, u52, u53, u54, u55, u56, u57, u58, u59, u60, u61, u62, u63, u64, u65, u66, u67, u68, u69, u70, u71, u72, u73, u74, u75, u76, u77, u78, u79, u80, u81, u82, u83, u84, u85, u86, u87, u88, u89, u90, u91, u92, u93, u94, u95, u96, u97, u98, u99, u100, u101, u102, u103, u104, u105, u106, u107, u108, u109, u110, u111, u112, u113, u114, u115, u116, u117, u118, u119, u120, u121, u122, u123, u124, u125, u126, u127, u128, u129, u130, u131, u132, u133, u134, u135, u136, u137, u138, u139, u140, u141, u142, u143, u144, u145, u146, u147, u148, u149, u150, u151, u152, u153, u154, u155, u156, u157, u158, u159, u160, u161, u162, u163, u164, u165, u166, u167, u168, u169, u170, u171, u172, u173, u174, u175, u176, u177, u178, u179, u180, u181, u182, u183, u184, u185, u186, u187, u188, u189, u190, u191, u192, u193, u194, u195, u196, u197, u198, u199, u200, u201, u202, u203, u204, u205, u206, u207, u208, u209, u210, u211, u212, u213, u214, u215, u216, u217, u218, u219, u220, u221, u222, u223, u224, u225, u226, u227, u228, u229, u230, u231, u232, u233, u234, u235, u236, u237, u238, u239, u240, u241, u242, u243, u244, u245, u246, u247, u248, u249, u250, u251, u252, u253, u254, u255, u256, u257, u258, u259, u260, u261, u262, u263, u264, u265, u266, u267, u268, u269, u270, u271, u272, u273, u274, u275, u276, u277, u278, u279, u280, u281, u282, u283, u284, u285, u286, u287, u288, u289, u290, u291, u292, u293, u294, u295, u296, u297, u298, u299, u300, u301, u302] : Array Value).getD j undef) f) = [u0, u1, u2, u3, u4, u5, u6, u7, u8, u9, u10, u11, u12, u13, u14, u15, u16, u17, u18, .pointer (some ⟨sb, 0, none⟩), u20, u21, u22, u23, u24, .pointer (some ⟨pb, 0, none⟩), u26, u27, u28, u29, u30, u31, u32, u33, u34, u35, u36, u37, u38, u39, u40, u41, u42, u43, u44, u45, u46, u47, u48, u49, u50, u51, u52, u53, u54, u55, u56, u57, u58, u59, u60, u61, u62, u63, u64, u65, u66, u67, u68, u69, u70, u71, u72, u73, u74, u75, u76, u77, u78, u79, u80, u81, u82, u83, u84, u85, u86, u87, u88, u89, u90, u91, u92, u93, u94, u95, u96, u97, u98, u99, u100, u101, u102, u103, u104, u105, u106, u107, u108, u109, u110, u111, u112, u113, u114, u115, u116, u117, u118, u119, u120, u121, u122, u123, u124, u125, u126, u127, u128, u129, u130, u131, u132, u133, u134, u135, u136, u137, u138, u139, u140, u141, u142, u143, u144, u145, u146, u147, u148, u149, u150, u151, u152, u153, u154, u155, u156, u157, u158, u159, u160, u161, u162, u163, u164, u165, u166, u167, u168, u169, u170, u171, u172, u173, u174, u175, u176, u177, u178, u179, u180, u181, u182, u183, u184, u185, u186, u187, u188, u189, u190, u191, u192, u193, u194, u195, u196, u197, u198, u199, u200, u201, u202, u203, u204, u205, u206, u207, u208, u209, u210, u211, u212, u213, u214, u215, u216, u217, u218, u219, u220, u221, u222, u223, u224, u225, u226, u227, u228, u229, u230, u231, u232, u233, u234, u235, u236, u237, u238, u239, u240, u241, u242, u243, u244, u245, u246, u247, u248, u249, u250, u251, u252, u253, u254, u255, f 256, f 257, f 258, f 259, f 260, f 261, f 262, f 263, f 264, f 265, f 266, f 267, f 268, f 269, f 270, f 271, f 272, f 273, f 274, f 275, f 276, f 277, f 278, f 279, f 280, f 281, f 282, f 283, f 284, f 285, f 286, f 287, f 288, f 289, f 290, f 291, f 292, f 293, f 294, f 295, f 296, f 297, f 298, f 299, f 300, f 301, u302] := by kernel_rfl
set_option maxRecDepth 100000 in
set_option maxHeartbeats 4000000 in
theorem tg14 (A : Option Addr) (k : Nat) (m : List Cl) (W' a b c' d : Int) (pb : Nat) (sb r : Nat) (W9 : World) (hcs : CS W9 W9.heap.size (.slice A m.length k) m) (hml : m.length ≤ 60) (hsix : SixIn W9 pb (.slice A m.length k) W' a b c' d) (hsc : ∀ x : World, Below W9.heap.size W9 x → x.cell? ⟨sb, 0, none⟩ = some (.int .i64 (r : Int))) (Q : Exit → Act → World → Prop)
    (u0 u1 u2 u3 u4 u5 u6 u7 u8 u9 u10 u11 u12 u13 u14 u15 u16 u17 u18 u20 u21 u22 u23 u24 u26 u27 u28 u29 u30 u31 u32 u33 u34 u35 u36 u37 u38 u39 u40 u41 u42 u43 u44 u45 u46 u47 u48 u49 u50 u51 u52 u53 u54 u55 u56 u57 u58 u59 u60 u61 u62 u63 u64 u65 u66 u67 u68 u69 u70 u71 u72 u73 u74 u75 u76 u77 u78 u79 u80 u81 u82 u83 u84 u85 u86 u87 u88 u89 u90 u91 u92 u93 u94 u95 u96 u97 u98 u99 u100 u101 u102 u103 u104 u105 u106 u107 u108 u109 u110 u111 u112 u113 u114 u115 u116 u117 u118 u119 u120 u121 u122 u123 u124 u125 u126 u127 u128 u129 u130 u131 u132 u133 u134 u135 u136 u137 u138 u139 u140 u141 u142 u143 u144 u145 u146 u147 u148 u149 u150 u151 u152 u153 u154 u155 u156 u157 u158 u159 u160 u161 u162 u163 u164 u165 u166 u167 u168 u169 u170 u171 u172 u173 u174 u175 u176 u177 u178 u179 u180 u181 u182 u183 u184 u185 u186 u187 u188 u189 u190 u191 u192 u193 u194 u195 u196 u197 u198 u199 u200 u201 u202 u203 u204 u205 u206 u207 u208 u209 u210 u211 u212 u213 u214 u215 u216 u217 u218 u219 u220 u221 u222 u223 u224 u225 u226 u227 u228 u229 u230 u231 u232 u233 u234 u235 u236 u237 u238 u239 u240 u241 u242 u243 u244 u245 u246 u247 u248 u249 u250 u251 u252 u253 u254 u255 u256 u257 u258 u259 u260 u261 u262 u263 u264 u265 u266 u267 u268 u269 u270 u271 u272 u273 u274 u275 u276 u277 u278 u279 u280 u281 u282 u283 u284 u285 u286 u287 u288 u289 u290 u291 u292 u293 u294 u295 u296 u297 u298 u299 u300 u301 u302 : Value)
    (hQ : ∀ (f : Nat → Value) (wx : World), Below W9.heap.size W9 wx → Q .normal ⟨#[u0, u1, u2, u3, u4, u5, u6, u7, u8, u9, u10, u11, u12, u13, u14, u15, u16, u17, u18, .pointer (some ⟨sb, 0, none⟩), u20, u21, u22, u23, u24, .pointer (some ⟨pb, 0, none⟩), u26, u27, u28, u29, u30, u31, u32, u33, u34, u35, u36, u37, u38, u39, u40, u41, u42, u43, u44, u45, u46, u47, u48, u49, u50, u51, u52, u53, u54, u55, u56, u57, u58, u59, u60, u61, u62, u63, u64, u65, u66, u67, u68, u69, u70, u71, u72, u73, u74, u75, u76, u77, u78, u79, u80, u81, u82, u83, u84, u85, u86, u87, u88, u89, u90, u91, u92, u93, u94, u95, u96, u97, u98, u99, u100, u101, u102, u103, u104, u105, u106, u107, u108, u109, u110, u111, u112, u113, u114, u115, u116, u117, u118, u119, u120, u121, u122, u123, u124, u125, u126, u127, u128, u129, u130, u131, u132, u133, u134, u135, u136, u137, u138, u139, u140, u141, u142, u143, u144, u145, u146, u147, u148, u149, u150, u151, u152, u153, u154, u155, u156, u157, u158, u159, u160, u161, u162, u163, u164, u165, u166, u167, u168, u169, u170, u171, u172, u173, u174, u175, u176, u177, u178, u179, u180, u181, u182, u183, u184, u185, u186, u187, u188, u189, u190, u191, u192, u193, u194, u195, u196, u197, u198, u199, u200, u201, u202, u203, u204, u205, u206, u207, u208, u209, u210, u211, u212, u213, u214, u215, u216, u217, u218, u219, u220, u221, u222, u223, u224, u225, u226, u227, u228, u229, u230, u231, u232, u233, u234, u235, u236, u237, u238, u239, u240, u241, u242, u243, u244, u245, u246, u247, u248, u249, u250, u251, u252, u253, u254, u255, f 256, f 257, f 258, f 259, f 260, f 261, f 262, f 263, f 264, f 265, f 266, f 267, f 268, f 269, f 270, f 271, f 272, f 273, f 274, f 275, f 276, f 277, f 278, f 279, f 280, f 281, f 282, f 283, f 284, f 285, f 286, f 287, f 288, f 289, f 290, f 291, f 292, f 293, f 294, f 295, f 296, f 297, f 298, f 299, f 300, .bool false, u302], []⟩ wx) :
    Code.wp Try.prog tgReg14 Q ⟨#[u0, u1, u2, u3, u4, u5, u6, u7, u8, u9, u10, u11, u12, u13, u14, u15, u16, u17, u18, .pointer (some ⟨sb, 0, none⟩), u20, u21, u22, u23, u24, .pointer (some ⟨pb, 0, none⟩), u26, u27, u28, u29, u30, u31, u32, u33, u34, u35, u36, u37, u38, u39, u40, u41, u42, u43, u44, u45, u46, u47, u48, u49, u50, u51, u52, u53, u54, u55, u56, u57, u58, u59, u60, u61, u62, u63, u64, u65, u66, u67, u68, u69, u70, u71, u72, u73, u74, u75, u76, u77, u78, u79, u80, u81, u82, u83, u84, u85, u86, u87, u88, u89, u90, u91, u92, u93, u94, u95, u96, u97, u98, u99, u100, u101, u102, u103, u104, u105, u106, u107, u108, u109, u110, u111, u112, u113, u114, u115, u116, u117, u118, u119, u120, u121, u122, u123, u124, u125, u126, u127, u128, u129, u130, u131, u132, u133, u134, u135, u136, u137, u138, u139, u140, u141, u142, u143, u144, u145, u146, u147, u148, u149, u150, u151, u152, u153, u154, u155, u156, u157, u158, u159, u160, u161, u162, u163, u164, u165, u166, u167, u168, u169, u170, u171, u172, u173, u174, u175, u176, u177, u178, u179, u180, u181, u182, u183, u184, u185, u186, u187, u188, u189, u190, u191, u192, u193, u194, u195, u196, u197, u198, u199, u200, u201, u202, u203, u204, u205, u206, u207, u208, u209, u210, u211, u212, u213, u214, u215, u216, u217, u218, u219, u220, u221, u222, u223, u224, u225, u226, u227, u228, u229, u230, u231, u232, u233, u234, u235, u236, u237, u238, u239, u240, u241, u242, u243, u244, u245, u246, u247, u248, u249, u250, u251, u252, u253, u254, u255, u256, u257, u258, u259, u260, u261, u262, u263, u264, u265, u266, u267, u268, u269, u270, u271, u272, u273, u274, u275, u276, u277, u278, u279, u280, u281, u282, u283, u284, u285, u286, u287, u288, u289, u290, u291, u292, u293, u294, u295, u296, u297, u298, u299, u300, u301, u302], []⟩ W9 := by
  refine Code.wp_mono NoPanic.imp ?_
  rw [tgIs14]
  refine region_run (S := (fun x : World => Six x pb (.slice A m.length k) W' a b c' d ∧ x.cell? ⟨sb, 0, none⟩ = some (.int .i64 (r : Int)))) tgOrd14 (by kernel_rfl) tgSel14 (fun _ _ _ _ _ h => h) tgSize14 tgLen14 tgOwn14 tgOk14 ⟨hsix.below (Below.refl _ _).drew, hsc _ (Below.refl _ _).drew⟩ ?_
  refine tgRun14 A k m W' a b c' d pb sb r W9 hcs hml hsix hsc _ _ ⟨rfl, Agree.refl, fun j v h => ?_⟩ fun b wx hag hv hb => NoPanic.normal ?_
  · rw [List.lookup_cons] at h
    split at h
    · rename_i e
      obtain rfl : j = 25 := by simpa using e
      injection h with h
      subst h
      rfl
    · rw [List.lookup_cons] at h
      split at h
      · rename_i e
        obtain rfl : j = 19 := by simpa using e
        injection h with h
        subst h
        rfl
      · cases h
  · have hu : ∀ j, j < 303 → (#[u0, u1, u2, u3, u4, u5, u6, u7, u8, u9, u10, u11, u12, u13, u14, u15, u16, u17, u18, .pointer (some ⟨sb, 0, none⟩), u20, u21, u22, u23, u24, .pointer (some ⟨pb, 0, none⟩), u26, u27, u28, u29, u30, u31, u32, u33, u34, u35, u36, u37, u38, u39, u40, u41, u42, u43, u44, u45, u46, u47, u48, u49, u50, u51, u52, u53, u54, u55, u56, u57, u58, u59, u60, u61, u62, u63, u64, u65, u66, u67, u68, u69, u70, u71, u72, u73, u74, u75, u76, u77, u78, u79, u80, u81, u82, u83, u84, u85, u86, u87, u88, u89, u90, u91, u92, u93, u94, u95, u96, u97, u98, u99, u100, u101, u102, u103, u104, u105, u106, u107, u108, u109, u110, u111, u112, u113, u114, u115, u116, u117, u118, u119, u120, u121, u122, u123, u124, u125, u126, u127, u128, u129, u130, u131, u132, u133, u134, u135, u136, u137, u138, u139, u140, u141, u142, u143, u144, u145, u146, u147, u148, u149, u150, u151, u152, u153, u154, u155, u156, u157, u158, u159, u160, u161, u162, u163, u164, u165, u166, u167, u168, u169, u170, u171, u172, u173, u174, u175, u176, u177, u178, u179, u180, u181, u182, u183, u184, u185, u186, u187, u188, u189, u190, u191, u192, u193, u194, u195, u196, u197, u198, u199, u200, u201, u202, u203, u204, u205, u206, u207, u208, u209, u210, u211, u212, u213, u214, u215, u216, u217, u218, u219, u220, u221, u222, u223, u224, u225, u226, u227, u228, u229, u230, u231, u232, u233, u234, u235, u236, u237, u238, u239, u240, u241, u242, u243, u244, u245, u246, u247, u248, u249, u250, u251, u252, u253, u254, u255, u256, u257, u258, u259, u260, u261, u262, u263, u264, u265, u266, u267, u268, u269, u270, u271, u272, u273, u274, u275, u276, u277, u278, u279, u280, u281, u282, u283, u284, u285, u286, u287, u288, u289, u290, u291, u292, u293, u294, u295, u296, u297, u298, u299, u300, u301, u302] : Array Value)[j]? = some ((#[u0, u1, u2, u3, u4, u5, u6, u7, u8, u9, u10, u11, u12, u13, u14, u15, u16, u17, u18, .pointer (some ⟨sb, 0, none⟩), u20, u21, u22, u23, u24, .pointer (some ⟨pb, 0, none⟩), u26, u27, u28, u29, u30, u31, u32, u33, u34, u35, u36, u37, u38, u39, u40, u41, u42, u43, u44, u45, u46, u47, u48, u49, u50, u51, u52, u53, u54, u55, u56, u57, u58, u59, u60, u61, u62, u63, u64, u65, u66, u67, u68, u69, u70, u71, u72, u73, u74, u75, u76, u77, u78, u79, u80, u81, u82, u83, u84, u85, u86, u87, u88, u89, u90, u91, u92, u93, u94, u95, u96, u97, u98, u99, u100, u101, u102, u103, u104, u105, u106, u107, u108, u109, u110, u111, u112, u113, u114, u115, u116, u117, u118, u119, u120, u121, u122, u123, u124, u125, u126, u127, u128, u129, u130, u131, u132, u133, u134, u135, u136, u137, u138, u139, u140, u141, u142, u143, u144, u145, u146, u147, u148, u149, u150, u151, u152, u153, u154, u155, u156, u157, u158, u159, u160, u161, u162, u163, u164, u165, u166, u167, u168, u169, u170, u171, u172, u173, u174, u175, u176, u177, u178, u179, u180, u181, u182, u183, u184, u185, u186, u187, u188, u189, u190, u191, u192, u193, u194, u195, u196, u197, u198, u199, u200, u201, u202, u203, u204, u205, u206, u207, u208, u209, u210, u211, u212, u213, u214, u215, u216, u217, u218, u219, u220, u221, u222, u223, u224, u225, u226, u227, u228, u229, u230, u231, u232, u233, u234, u235, u236, u237, u238, u239, u240, u241, u242, u243, u244, u245, u246, u247, u248, u249, u250, u251, u252, u253, u254, u255, u256, u257, u258, u259, u260, u261, u262, u263, u264, u265, u266, u267, u268, u269, u270, u271, u272, u273, u274, u275, u276, u277, u278, u279, u280, u281, u282, u283, u284, u285, u286, u287, u288, u289, u290, u291, u292, u293, u294, u295, u296, u297, u298, u299, u300, u301, u302] : Array Value).getD j undef) := fun j hj => by
      rw [Array.getD_eq_getD_getElem?, Array.getElem?_eq_getElem (show j < (#[u0, u1, u2, u3, u4, u5, u6, u7, u8, u9, u10, u11, u12, u13, u14, u15, u16, u17, u18, .pointer (some ⟨sb, 0, none⟩), u20, u21, u22, u23, u24, .pointer (some ⟨pb, 0, none⟩), u26, u27, u28, u29, u30, u31, u32, u33, u34, u35, u36, u37, u38, u39, u40, u41, u42, u43, u44, u45, u46, u47, u48, u49, u50, u51, u52, u53, u54, u55, u56, u57, u58, u59, u60, u61, u62, u63, u64, u65, u66, u67, u68, u69, u70, u71, u72, u73, u74, u75, u76, u77, u78, u79, u80, u81, u82, u83, u84, u85, u86, u87, u88, u89, u90, u91, u92, u93, u94, u95, u96, u97, u98, u99, u100, u101, u102, u103, u104, u105, u106, u107, u108, u109, u110, u111, u112, u113, u114, u115, u116, u117, u118, u119, u120, u121, u122, u123, u124, u125, u126, u127, u128, u129, u130, u131, u132, u133, u134, u135, u136, u137, u138, u139, u140, u141, u142, u143, u144, u145, u146, u147, u148, u149, u150, u151, u152, u153, u154, u155, u156, u157, u158, u159, u160, u161, u162, u163, u164, u165, u166, u167, u168, u169, u170, u171, u172, u173, u174, u175, u176, u177, u178, u179, u180, u181, u182, u183, u184, u185, u186, u187, u188, u189, u190, u191, u192, u193, u194, u195, u196, u197, u198, u199, u200, u201, u202, u203, u204, u205, u206, u207, u208, u209, u210, u211, u212, u213, u214, u215, u216, u217, u218, u219, u220, u221, u222, u223, u224, u225, u226, u227, u228, u229, u230, u231, u232, u233, u234, u235, u236, u237, u238, u239, u240, u241, u242, u243, u244, u245, u246, u247, u248, u249, u250, u251, u252, u253, u254, u255, u256, u257, u258, u259, u260, u261, u262, u263, u264, u265, u266, u267, u268, u269, u270, u271, u272, u273, u274, u275, u276, u277, u278, u279, u280, u281, u282, u283, u284, u285, u286, u287, u288, u289, u290, u291, u292, u293, u294, u295, u296, u297, u298, u299, u300, u301, u302] : Array Value).size from hj)]
      rfl
    obtain ⟨f, rfl, hf⟩ := hag.form 303 rfl _ hu
    have e : f 301 = .bool false := hf 301 _ (by decide) hv
    rw [tgForm14]
    have := hQ f wx hb
    rw [← e] at this
    exact this
end Go.Proofs.Ytejemcpkmfhenaa

namespace Go.Proofs.Ytejemcpkmfhenaa
open Go.RowKit
set_option linter.unusedVariables false
set_option linter.unusedSimpArgs false

set_option maxHeartbeats 4000000 in
set_option maxRecDepth 100000 in
theorem gridTells_walk (a0 : Option Addr) (len0 cap0 : Nat) (z0 : List Cl) (a1 : Option Addr) (len1 cap1 : Nat) (z1 : List UInt8) (a2 a3 a4 a5 a6 a7 b0 b1 b2 b3 : Int) (w : World) (w0 : CS w w.heap.size (.slice a0 len0 cap0) z0) (w1 : BS w w.heap.size (.slice a1 len1 cap1) z1) (w2 : (Lit.int .u8 a2).wf = true)
    (v0 : (Lit.int .u8 b0).wf = true) (v1 : (Lit.int .u8 b1).wf = true) (v2 : (Lit.int .u8 b2).wf = true) (v3 : (Lit.int .u8 b3).wf = true) :
    Calls Try.prog 3 #[.slice a0 len0 cap0, .slice a1 len1 cap1, .int .u8 a2, .int .i64 a3, .int .i64 a4, .int .i64 a5, .int .i64 a6, .int .i64 a7, .agg #[.int .u8 b0, .int .u8 b1, .int .u8 b2, .int .u8 b3]] w fun e w' => e = .returned (.bool true) ∧ Below w.heap.size w w' := by
  obtain ⟨_, _, hv0, g01, g02⟩ := w0.form
  simp only [Value.slice.injEq] at hv0
  obtain ⟨-, rfl, rfl⟩ := hv0
  obtain ⟨_, _, hv1, -⟩ := w1.at_
  simp only [Value.slice.injEq] at hv1
  obtain ⟨-, rfl, -⟩ := hv1
  have W0 := Lib.hid w0
  have W1 := Lib.hid w1
  have hb2 := bounds_u8 w2
  have hv0 := bounds_u8 v0
  have hv1 := bounds_u8 v1
  have hv2 := bounds_u8 v2
  have hv3 := bounds_u8 v3
  obtain ⟨k, rfl⟩ : ∃ k : Nat, a2 = (k : Int) := ⟨a2.toNat, by omega⟩
  obtain ⟨m0, rfl⟩ : ∃ k : Nat, b0 = (k : Int) := ⟨b0.toNat, by omega⟩
  obtain ⟨m1, rfl⟩ : ∃ k : Nat, b1 = (k : Int) := ⟨b1.toNat, by omega⟩
  obtain ⟨m2, rfl⟩ : ∃ k : Nat, b2 = (k : Int) := ⟨b2.toNat, by omega⟩
  obtain ⟨m3, rfl⟩ : ∃ k : Nat, b3 = (k : Int) := ⟨b3.toNat, by omega⟩
  have k1 : k < 256 := by omega
  have n0 : m0 < 256 := by omega
  have n1 : m1 < 256 := by omega
  have n2 : m2 < 256 := by omega
  have n3 : m3 < 256 := by omega
  have hal : Below w.heap.size w (w.alloc (.cells #[.int .u8 (m0 : Int), .int .u8 (m1 : Int), .int .u8 (m2 : Int), .int .u8 (m3 : Int)] 24)) := (Below.refl _ _).alloc (Nat.le_refl _) _
  have hz : (w.alloc (.cells #[.int .u8 (m0 : Int), .int .u8 (m1 : Int), .int .u8 (m2 : Int), .int .u8 (m3 : Int)] 24)).heap.size = w.heap.size + 1 := by simp
  have HV := Lib.hid (heap_oneG w (.cells #[.int .u8 (m0 : Int), .int .u8 (m1 : Int), .int .u8 (m2 : Int), .int .u8 (m3 : Int)] 24))
  have HAL := Lib.hid hal
  clear w0 w1 w2 v0 v1 v2 v3 hb2 hv0 hv1 hv2 hv3 hal
  by_cases t0 : 60 < (z0.length : Int)
  · clear hz
    go_enter Try.func3, Try.ntmps3
    go_wp2_with (go_at_call 7; refine (knownG_any _).mono ?_; rintro e wk ⟨rfl, hbk⟩; have HBK := Lib.hid hbk; clear hbk)
    go_ret
    exact ⟨rfl, HAL.out.trans (HBK.out.mono HAL.out.size)⟩
  have t0' : decide (60 < (z0.length : Int)) = false := by simp; omega
  by_cases t1 : 30 < (z1.length : Int)
  · clear hz
    go_enter Try.func3, Try.ntmps3
    go_wp2_with (go_at_call 7; refine (knownG_any _).mono ?_; rintro e wk ⟨rfl, hbk⟩; have HBK := Lib.hid hbk; clear hbk)
    go_ret
    exact ⟨rfl, HAL.out.trans (HBK.out.mono HAL.out.size)⟩
  have t1' : decide (30 < (z1.length : Int)) = false := by simp; omega
  obtain ⟨q, hq⟩ : ∃ q : Nat, (k : Int) / 6 = (q : Int) := ⟨k / 6, by omega⟩
  have q1 : q < 256 := by omega
  have HZ := Lib.hid hz
  clear hz
  go_enter Try.func3, Try.ntmps3
  go_wp2_with fail
  refine (knownG_any _).mono ?_
  rintro e w1 ⟨rfl, hb1⟩
  have HB1 := Lib.hid (HAL.out.trans (hb1.mono HAL.out.size))
  have HV1 := Lib.hid ((hb1.block w.heap.size (by rw [HZ.out]; omega)).trans HV.out)
  have hvb : w.heap.size < w1.heap.size := by have := hb1.size; rw [HZ.out] at this; omega
  clear hb1
  go_wp2_with fail
  refine (seatScreenW_any k q k1 q1 _ z1 w1 ((W1.out.below HB1.out).more HB1.out.size) (by omega)).mono ?_
  rintro e w2 ⟨v2, s, r, c, rfl, hv2, ⟨hi, hw⟩, hr, hc, b2⟩
  obtain ⟨uc, ut, uo, up, ui, uu, rfl, hs2⟩ := hv2
  have HLS := Lib.hid (laidG b2 hs2 hi hw hr hc zG rfl)
  have k2 := heap_oneG w2 (.cells zG 32)
  rename_i K hK
  refine hK _ _ ?_
  clear hK
  iterate 1 (refine wpList_plain rfl fun K hK => ?_; go_simp; refine hK _ _ ?_; clear hK K)
  refine wpl_storeS rfl (.tmp 19) (.tmp 40) rfl rfl rfl k2 rfl rfl hs2.one ?_
  clear k2 hs2 b2 hi hw hr hc hq t0' t1'
  generalize World.setRow _ _ _ = W at HLS ⊢
  generalize vS s uc ut uo up ui uu = vs at *
  generalize s.cells = l at *
  generalize hsb : w2.heap.size = sb at *
  clear hsb
  go_simp
  obtain ⟨l1, l2⟩ := HLS.out.len
  have hr6 := HLS.out.r6
  have hc9 := HLS.out.c9
  have hr1 := HLS.out.g.r1
  have hc1 := HLS.out.g.c1
  have HVW := Lib.hid ((HLS.out.bel.block w.heap.size hvb).trans HV1.out)
  have c0 := cellG HVW.out 0 rfl
  have c1 := cellG HVW.out 1 rfl
  have c2 := cellG HVW.out 2 rfl
  have c3 := cellG HVW.out 3 rfl
  obtain ⟨A0, hA0⟩ : ∃ A : Nat, (m0 : Int).tmod 8 = (A : Int) := ⟨m0 % 8, by rw [Int.tmod_eq_emod_of_nonneg (by omega)]; omega⟩
  obtain ⟨A1, hA1⟩ : ∃ A : Nat, (m1 : Int).tmod 12 = (A : Int) := ⟨m1 % 12, by rw [Int.tmod_eq_emod_of_nonneg (by omega)]; omega⟩
  obtain ⟨A2, hA2⟩ : ∃ A : Nat, (m2 : Int).tmod 8 = (A : Int) := ⟨m2 % 8, by rw [Int.tmod_eq_emod_of_nonneg (by omega)]; omega⟩
  obtain ⟨A3, hA3⟩ : ∃ A : Nat, (m3 : Int).tmod 12 = (A : Int) := ⟨m3 % 12, by rw [Int.tmod_eq_emod_of_nonneg (by omega)]; omega⟩
  obtain ⟨A4, hA4⟩ : ∃ A : Nat, (m0 : Int) % 6 = (A : Int) := ⟨m0 % 6, by omega⟩
  have a0' : A0 < 8 := by rw [Int.tmod_eq_emod_of_nonneg (by omega)] at hA0; omega
  have a1' : A1 < 12 := by rw [Int.tmod_eq_emod_of_nonneg (by omega)] at hA1; omega
  have a2' : A2 < 8 := by rw [Int.tmod_eq_emod_of_nonneg (by omega)] at hA2; omega
  have a3' : A3 < 12 := by rw [Int.tmod_eq_emod_of_nonneg (by omega)] at hA3; omega
  have a4' : A4 < 6 := by omega
  have i0 : IntKind.i64.wrap (A0 : Int) = (A0 : Int) := by rw [IntKind.wrap_i64]; omega
  have i1 : IntKind.i64.wrap (A1 : Int) = (A1 : Int) := by rw [IntKind.wrap_i64]; omega
  have i2 : IntKind.i64.wrap (A2 : Int) = (A2 : Int) := by rw [IntKind.wrap_i64]; omega
  have i3 : IntKind.i64.wrap (A3 : Int) = (A3 : Int) := by rw [IntKind.wrap_i64]; omega
  obtain ⟨y, hy⟩ : ∃ y : Int, IntKind.i64.wrap ((A0 : Int) - 1) = y := ⟨_, rfl⟩
  obtain ⟨x, hx⟩ : ∃ x : Int, IntKind.i64.wrap ((A1 : Int) - 1) = x := ⟨_, rfl⟩
  obtain ⟨z, hz⟩ : ∃ z : Int, IntKind.i64.wrap ((A2 : Int) - 1) = z := ⟨_, rfl⟩
  obtain ⟨n, hn⟩ : ∃ n : Int, IntKind.i64.wrap ((A3 : Int) - 1) = n := ⟨_, rfl⟩
  go_wp2
  go_quiet (fail)
  have HL6 := Lib.hid (HLS.out.below (below_drewW (Below.refl _ W) nq))
  have HB6 := Lib.hid (HB1.out.trans ((HLS.out.bel.trans ((below_drewW (Below.refl _ W) nq).mono HLS.out.bel.size)).mono HB1.out.size))
  have HV6 := Lib.hid (((below_drewW (Below.refl W.heap.size W) nq).block w.heap.size (Nat.lt_of_lt_of_le hvb HLS.out.bel.size)).trans HVW.out)
  clear hA0 hA1 hA2 hA3 i0 i1 i2 i3 hy hx hz hn c0 c1 c2 c3 HVW HLS
  generalize World.drewN W nq = W6 at HL6 HB6 HV6 ⊢
  have c0 := cellG HV6.out 0 rfl
  obtain ⟨uA, uk, hu, e1, e2⟩ := HL6.out.cs.form
  subst hu
  obtain ⟨s0, s1, s2⟩ := HL6.out.cell
  obtain ⟨L, hL⟩ : ∃ L : Nat, (A4 : Int) + 1 = (L : Int) := ⟨A4 + 1, by omega⟩
  obtain ⟨R1, hR1⟩ : ∃ R1 : Nat, (r : Int) - 1 = (R1 : Int) := ⟨r - 1, by omega⟩
  go_wp2
  clear hL hR1 c0 s0 s1 s2 hA4
  have hal : Below W6.heap.size W6 (W6.alloc (.cells #[.slice a0 z0.length cap0, .int .i64 a3, .int .i64 a4, .int .i64 a5, .int .i64 a6, .int .i64 a7, .slice uA l.length uk, .int .i64 (c : Int), .int .i64 y, .int .i64 z, .int .i64 n, .int .i64 x, .slice uA l.length uk, .int .i64 (c : Int), .int .i64 y, .int .i64 x, .int .i64 n, .int .i64 z, .slice a0 z0.length cap0, .int .i64 (L : Int), .int .i64 y, .int .i64 x, .int .i64 n, .int .i64 z, .slice uA l.length uk, .int .i64 (c : Int), .int .i64 0, .int .i64 (R1 : Int), .int .i64 n, .int .i64 0] 34)) := (Below.refl _ _).alloc (Nat.le_refl _) _
  have hk := heap_oneG W6 (.cells #[.slice a0 z0.length cap0, .int .i64 a3, .int .i64 a4, .int .i64 a5, .int .i64 a6, .int .i64 a7, .slice uA l.length uk, .int .i64 (c : Int), .int .i64 y, .int .i64 z, .int .i64 n, .int .i64 x, .slice uA l.length uk, .int .i64 (c : Int), .int .i64 y, .int .i64 x, .int .i64 n, .int .i64 z, .slice a0 z0.length cap0, .int .i64 (L : Int), .int .i64 y, .int .i64 x, .int .i64 n, .int .i64 z, .slice uA l.length uk, .int .i64 (c : Int), .int .i64 0, .int .i64 (R1 : Int), .int .i64 n, .int .i64 0] 34)
  have HDB := Lib.hid (HB6.out.trans (hal.mono HB6.out.size))
  have HLD := Lib.hid (HL6.out.below hal)
  have HF := Lib.hid (fiveAt hk (((W0.out.below HB6.out).below (hal.mono HB6.out.size)).more (HB6.out.trans (hal.mono HB6.out.size)).size) HLD.out.cs (by omega) (by omega))
  clear hk
  generalize World.alloc W6 _ = D at hal HDB HLD HF ⊢
  have hgD : W6.heap.size < D.heap.size := HF.out.lt
  generalize W6.heap.size = g at *
  clear hal
  go_loopw [108] (fun i wr => TlRel D i wr) (fun i _ => 5 - (intOf i).toNat)
  case atStart => exact ⟨0, Nat.zero_le _, rfl, Below.refl _ _⟩
  case round =>
    obtain ⟨j, hj, rfl, hbr⟩ := hrel
    have HBR := Lib.hid hbr
    have HWR := Lib.hid (HDB.out.trans (hbr.mono HDB.out.size))
    have hzr := hbr.size
    clear hbr
    by_cases hj5 : j < 5
    · have hji : (j : Int) < 5 := by omega
      obtain ⟨A, k, m, W', a, b, c', d, hcs, hml, q0, q1, q2, q3, q4, q5⟩ := HF.out.at_ j hj5 HBR.out
      have HCS := Lib.hid hcs
      clear hcs
      go_wp2_with fail
      have hal : Below wr.heap.size wr (wr.alloc (.cells #[.slice A m.length k, .int .i64 W', .int .i64 a, .int .i64 b, .int .i64 c', .int .i64 d] 34)) := (Below.refl _ _).alloc (Nat.le_refl _) _
      have hk := heap_oneG wr (.cells #[.slice A m.length k, .int .i64 W', .int .i64 a, .int .i64 b, .int .i64 c', .int .i64 d] 34)
      have HCS9 := Lib.hid ((HCS.out.below hal).more hal.size)
      have HLD9 := Lib.hid ((HLD.out.below HBR.out).below hal)
      have HBR9 := Lib.hid (HBR.out.trans (hal.mono hzr))
      have HWR9 := Lib.hid (HWR.out.trans (hal.mono HWR.out.size))
      generalize World.alloc wr _ = W9 at hal hk HCS9 HLD9 HBR9 HWR9 ⊢
      generalize wr.heap.size = pb at *
      have HS := Lib.hid (sixAt hk)
      clear hal hk q0 q1 q2 q3 q4 q5
      refine tg10 A k m W' a b c' d pb W9 HCS9.out hml HS.out _ _ _ _ _ _ _ _ _ _ _ _ _ _ _ _ _ _ _ _ _ _ _ _ _ _ _ _ _ _ _ _ _ _ _ _ _ _ _ _ _ _ _ _ _ _ _ _ _ _ _ _ _ _ _ _ _ _ _ _ _ _ _ _ _ _ _ _ _ _ _ _ _ _ _ _ _ _ _ _ _ _ _ _ _ _ _ _ _ _ _ _ _ _ _ _ _ _ _ _ _ _ _ _ _ _ _ _ _ _ _ _ _ _ _ _ _ _ _ _ _ _ _ _ _ _ _ _ _ _ _ _ _ _ _ _ _ _ _ _ _ _ _ _ _ _ _ _ _ _ _ _ _ _ _ _ _ _ _ _ _ _ _ _ _ _ _ _ _ _ _ _ _ _ _ _ _ _ _ _ _ _ _ _ _ _ _ _ _ _ _ _ _ _ _ _ _ _ _ _ _ _ _ _ _ _ _ _ _ _ _ _ _ _ _ _ _ _ _ _ _ _ _ _ _ _ _ _ _ _ _ _ _ _ _ _ _ _ _ _ _ _ _ _ _ _ _ _ _ _ _ _ _ _ _ _ _ _ _ _ _ _ _ _ _ _ _ _ _ _ _ _ _ _ _ _ _ _ _ _ _ _ _ _ _ _ _ _ _ _ _ _ _ _ _ _ _ _ _ _ _ _ _ fun f10 wa hba => ?_
      have HBa := Lib.hid hba
      have HCSa := Lib.hid ((HCS9.out.below hba).more hba.size)
      have HSa := Lib.hid (HS.out.at_ hba)
      clear hba
      go_simp
      go_wp2_with fail
      refine tg12 A k m W' a b c' d pb wa HCSa.out hml HSa.out _ _ _ _ _ _ _ _ _ _ _ _ _ _ _ _ _ _ _ _ _ _ _ _ _ _ _ _ _ _ _ _ _ _ _ _ _ _ _ _ _ _ _ _ _ _ _ _ _ _ _ _ _ _ _ _ _ _ _ _ _ _ _ _ _ _ _ _ _ _ _ _ _ _ _ _ _ _ _ _ _ _ _ _ _ _ _ _ _ _ _ _ _ _ _ _ _ _ _ _ _ _ _ _ _ _ _ _ _ _ _ _ _ _ _ _ _ _ _ _ _ _ _ _ _ _ _ _ _ _ _ _ _ _ _ _ _ _ _ _ _ _ _ _ _ _ _ _ _ _ _ _ _ _ _ _ _ _ _ _ _ _ _ _ _ _ _ _ _ _ _ _ _ _ _ _ _ _ _ _ _ _ _ _ _ _ _ _ _ _ _ _ _ _ _ _ _ _ _ _ _ _ _ _ _ _ _ _ _ _ _ _ _ _ _ _ _ _ _ _ _ _ _ _ _ _ _ _ _ _ _ _ _ _ _ _ _ _ _ _ _ _ _ _ _ _ _ _ _ _ _ _ _ _ _ _ _ _ _ _ _ _ _ _ _ _ _ _ _ _ _ _ _ _ _ _ _ _ _ _ _ _ _ _ _ _ _ _ _ _ _ _ _ _ _ _ _ _ _ _ _ _ _ fun f12 wb hbb => ?_
      have HBb := Lib.hid (HBa.out.trans (hbb.mono HBa.out.size))
      have HCSb := Lib.hid ((HCSa.out.below hbb).more hbb.size)
      have HSb := Lib.hid (HSa.out.at_ hbb)
      have HLb := Lib.hid (HLD9.out.below HBb.out)
      clear hbb
      go_simp
      go_wp2_with fail
      refine tg14 A k m W' a b c' d pb sb r wb HCSb.out hml HSb.out (fun x hx => (HLb.out.below hx).cell.1) _ _ _ _ _ _ _ _ _ _ _ _ _ _ _ _ _ _ _ _ _ _ _ _ _ _ _ _ _ _ _ _ _ _ _ _ _ _ _ _ _ _ _ _ _ _ _ _ _ _ _ _ _ _ _ _ _ _ _ _ _ _ _ _ _ _ _ _ _ _ _ _ _ _ _ _ _ _ _ _ _ _ _ _ _ _ _ _ _ _ _ _ _ _ _ _ _ _ _ _ _ _ _ _ _ _ _ _ _ _ _ _ _ _ _ _ _ _ _ _ _ _ _ _ _ _ _ _ _ _ _ _ _ _ _ _ _ _ _ _ _ _ _ _ _ _ _ _ _ _ _ _ _ _ _ _ _ _ _ _ _ _ _ _ _ _ _ _ _ _ _ _ _ _ _ _ _ _ _ _ _ _ _ _ _ _ _ _ _ _ _ _ _ _ _ _ _ _ _ _ _ _ _ _ _ _ _ _ _ _ _ _ _ _ _ _ _ _ _ _ _ _ _ _ _ _ _ _ _ _ _ _ _ _ _ _ _ _ _ _ _ _ _ _ _ _ _ _ _ _ _ _ _ _ _ _ _ _ _ _ _ _ _ _ _ _ _ _ _ _ _ _ _ _ _ _ _ _ _ _ _ _ _ _ _ _ _ _ _ _ _ _ _ _ _ _ _ _ _ _ _ _ fun f14 wc hbc => ?_
      have HBc := Lib.hid (HBb.out.trans (hbc.mono HBb.out.size))
      clear hbc
      go_simp
      go_wp2
      go_roundw
      case rel =>
        have hend : TlRel D (.int .i64 ((j : Int) + 1)) wc := ⟨j + 1, hj5, by go_num, HBR9.out.trans (HBc.out.mono HBR9.out.size)⟩
        exact hend
      case measure => simp [intOf]; omega
    · obtain rfl : j = 5 := by omega
      go_wp2
      go_ret
      exact ⟨rfl, HWR.out⟩
end Go.Proofs.Ytejemcpkmfhenaa

namespace Go.Proofs.Ytejemcpkmfhenaa
open Go.RowKit
set_option linter.unusedVariables false
set_option linter.unusedSimpArgs false

/-- A list out of what holds at each place. -/
theorem list_ofG {α : Type} {p : Nat → α → Prop} (n : Nat) (h : ∀ i, i < n → ∃ x, p i x) : ∃ l : List α, l.length = n ∧ ∀ i x, l[i]? = some x → p i x := by
  induction n with
  | zero => exact ⟨[], rfl, fun i x hx => by simp at hx⟩
  | succ n ih =>
    obtain ⟨l, hl, hp⟩ := ih fun i hi => h i (by omega)
    obtain ⟨y, hy⟩ := h n (by omega)
    refine ⟨l ++ [y], by simp [hl], fun i x hx => ?_⟩
    rcases Nat.lt_or_ge i l.length with hi | hi
    · rw [List.getElem?_append_left hi] at hx
      exact hp i x hx
    · rw [List.getElem?_append_right hi] at hx
      obtain ⟨h1, h2⟩ := List.getElem?_eq_some_iff.1 hx
      simp only [List.length_singleton] at h1
      have e : i = n := by omega
      subst e
      have : [y][i - l.length]? = some y := by rw [show i - l.length = 0 by omega]; rfl
      rw [this] at hx
      injection hx with hx
      rw [← hx]
      exact hy
section
variable {H : Type} {enc : TypeId × Value → H} {w : World} {base : Nat} {spare : Nat → Bool} {held : Bool}
theorem cell_openG {n : Nat} {cs : List Value} {x : DataW H × List MemPlace} (h : DataW.trod enc Try.prog w base spare held n 42 cs = some x) : ∃ c : Cl, cs = vC c := by
  obtain ⟨y0, y1, y2, m, -, hl, h0, h1, h2⟩ := Go.Deep.trod_struct3 Try.underlying42 h
  have hc : Try.prog.cellsOf 42 = 3 := by kernel_rfl
  have c0 : Try.prog.cellsOf 21 = 1 := by kernel_rfl
  have c1 : Try.prog.cellsOf 26 = 1 := by kernel_rfl
  have c2 : Try.prog.cellsOf 5 = 1 := by kernel_rfl
  rw [hc] at hl
  simp only [c0, c1, c2] at h0 h1 h2
  obtain ⟨r, e0, -, f0⟩ := DataW.trod_int Try.underlying21 h0
  obtain ⟨a, e1, -, f1⟩ := DataW.trod_int Try.underlying26 h1
  obtain ⟨b, e2, -, f2⟩ := DataW.trod_int Try.underlying5 h2
  match cs, hl with
  | [v0, v1, v2], _ =>
    simp only [List.drop_zero, List.drop_succ_cons, List.take_succ_cons, List.take_zero, List.cons.injEq, and_true] at e0 e1 e2
    have g0 := bounds_i32 f0
    have g1 := bounds_u16 f1
    have g2 := bounds_u8 f2
    refine ⟨⟨r, a.toNat, b.toNat⟩, ?_⟩
    unfold vC
    simp only [List.cons.injEq, and_true]
    rw [e0, e1, e2, show ((a.toNat : Nat) : Int) = a by omega, show ((b.toNat : Nat) : Int) = b by omega]
    exact ⟨rfl, rfl, rfl⟩
theorem cs_openG {fuel : Nat} {a : Option Addr} {len cap : Nat} {x : DataW H × List MemPlace} (h : DataW.trod enc Try.prog w base spare held fuel 22 [.slice a len cap] = some x) : ∃ l, CS w w.heap.size (.slice a len cap) l := by
  have hc : Try.prog.cellsOf 42 = 3 := by kernel_rfl
  rcases Go.Deep.open_slice Try.underlying22 h with ⟨hcs, -⟩ | ⟨ad, len', cap', m, n, D, Pl, hcs, hb, hl, hm, hmm, -, hi⟩
  · simp only [List.cons.injEq, Value.slice.injEq, and_true] at hcs
    obtain ⟨rfl, rfl, rfl⟩ := hcs
    exact ⟨[], CS.nil _ _⟩
  · simp only [List.cons.injEq, Value.slice.injEq, and_true] at hcs
    obtain ⟨rfl, rfl, rfl⟩ := hcs
    have hml : len ≤ m := by rw [hmm]; split <;> omega
    obtain ⟨l, hll, hp⟩ := list_ofG (p := fun i (c : Cl) => ThreeAt w (ad.add (i * 3)) c) len (fun i hlt => by
      obtain ⟨cs', h1, h2⟩ := hi i (by omega)
      rw [hc] at h1
      obtain ⟨c, rfl⟩ := cell_openG h2
      obtain ⟨-, -, hat⟩ := World.cells?_some h1
      have t0 := hat 0 (by omega)
      have t1 := hat 1 (by omega)
      have t2 := hat 2 (by omega)
      rw [add_add] at t0 t1 t2
      rw [add_at3 _ _ _ (by omega)] at t1 t2
      exact ⟨c, t0, t1, t2⟩)
    refine ⟨l, _, cap, by rw [hll], by omega, hm, fun hpos => ⟨ad, rfl, ?_, fun j c hj => hp j c hj⟩⟩
    · obtain ⟨c, hc0⟩ : ∃ c, l[0]? = some c := ⟨_, List.getElem?_eq_getElem hpos⟩
      have t := (hp 0 c hc0).1
      rw [Nat.zero_mul, show ad.add 0 = ad from by simp [Addr.add]] at t
      rcases Nat.lt_or_ge ad.block w.heap.size with hh | hh
      · exact hh
      · simp [World.cell?, Array.getElem?_eq_none hh] at t
/-- An argument that is an array of four bytes. -/
theorem arr4_open {r : Reach} {b0 : Nat} {v : Value} {d : DataW H} {p : List MemPlace} (hv : Value.okWide Try.prog w r b0 24 v) (h : DataW.Trod enc Try.prog w base spare held 24 v d p) :
    ∃ x0 x1 x2 x3 : Int, v = .agg #[.int .u8 x0, .int .u8 x1, .int .u8 x2, .int .u8 x3] ∧ (Lit.int .u8 x0).wf = true ∧ (Lit.int .u8 x1).wf = true ∧ (Lit.int .u8 x2).wf = true ∧ (Lit.int .u8 x3).wf = true := by
  have hc4 : Try.prog.cellsOf 24 = 4 := by kernel_rfl
  have hc1 : Try.prog.cellsOf 5 = 1 := by kernel_rfl
  obtain ⟨cs, rfl, hsz, _⟩ : ∃ cs, v = .agg cs ∧ cs.size = Try.prog.cellsOf 24 ∧ Row.okWide Try.prog w r b0 24 cs := by
    simpa [Value.okWide, Try.underlying24] using hv
  rw [hc4] at hsz
  obtain ⟨l⟩ := cs
  match l, hsz with
  | [c0, c1, c2, c3], _ =>
    obtain ⟨fuel, hf⟩ := h
    obtain ⟨y0, y1, y2, y3, m, hx, hy0, hy1, hy2, hy3⟩ := Go.ChangeShapes.trod_array4 Try.underlying24 hc1 hf
    obtain ⟨x0, e0, -, w0⟩ := DataW.trod_int Try.underlying5 hy0
    obtain ⟨x1, e1, -, w1⟩ := DataW.trod_int Try.underlying5 hy1
    obtain ⟨x2, e2, -, w2⟩ := DataW.trod_int Try.underlying5 hy2
    obtain ⟨x3, e3, -, w3⟩ := DataW.trod_int Try.underlying5 hy3
    simp only [List.cons.injEq, and_true] at e0 e1 e2 e3
    exact ⟨x0, x1, x2, x3, by rw [e0, e1, e2, e3], w0, w1, w2, w3⟩
end
end Go.Proofs.Ytejemcpkmfhenaa

namespace Go.Proofs.Ytejemcpkmfhenaa
open Go.ChangeShapes Go.WideShapes Go.ChangeAt Go.RowKit
open Go.ChangeMaps (open_string shut_string)
set_option linter.unusedVariables false

theorem gridTells_own : ownKnob Try.prog.godebug = none := by kernel_rfl
theorem gridTells_laidOut : laidOutB Try.prog = true := by kernel_rfl

set_option maxRecDepth 100000 in
theorem gridTells_lifted (os : Os) (started : os.Started) (H : Type) (enc : TypeId × Value → H) :
    ReturnsInHanded {} Try.checked os 3 .any (Rows.gridTellsSpec.pre6 enc Try.prog Try.f3 Rows.gridTellsRow.domain false) (Rows.gridTellsSpec.post enc Try.prog Try.f3 false true false false) := by
  refine returnsInHanded_of_change (C := Try.checked) gridTells_own started (by kernel_rfl) Try.func3
    (ChangeSpec.witness6 (enc := enc) (C := Try.checked) false ⟨#[], #[.slice none 0 0, .slice none 0 0, .int .u8 0, .int .i64 0, .int .i64 0, .int .i64 0, .int .i64 0, .int .i64 0, .agg #[.int .u8 0, .int .u8 0, .int .u8 0, .int .u8 0]], []⟩ 8 (by kernel_rfl) (by kernel_rfl) (by kernel_rfl) (by kernel_rfl)) ?_
  intro W base args ds gs before hval0 hW hcnd _
  have hval : ∀ (j : Nat) t v, Try.f3.params[j]? = some t → args[j]? = some v → Value.okWide Try.prog W .any base t v := hval0
  have hW' := hW
  obtain ⟨p, q, hA0, hV, rfl, hfz, hnd⟩ := hW
  have hA : DataW.TrodAll enc Try.prog W 0 (fun _ => true) true Try.f3.params.toList args.toList ds p := hA0
  rw [Try.params3] at hA hval
  obtain ⟨v0, vs0, d0, ds0, p0, q0, hargs, rfl, rfl, h0, r0⟩ := trodAll_cons hA
  obtain ⟨v1, vs1, d1, ds1, p1, q1, rfl, rfl, rfl, h1, r1⟩ := trodAll_cons r0
  obtain ⟨v2, vs2, d2, ds2, p2, q2, rfl, rfl, rfl, h2, r2⟩ := trodAll_cons r1
  obtain ⟨v3, vs3, d3, ds3, p3, q3, rfl, rfl, rfl, h3, r3⟩ := trodAll_cons r2
  obtain ⟨v4, vs4, d4, ds4, p4, q4, rfl, rfl, rfl, h4, r4⟩ := trodAll_cons r3
  obtain ⟨v5, vs5, d5, ds5, p5, q5, rfl, rfl, rfl, h5, r5⟩ := trodAll_cons r4
  obtain ⟨v6, vs6, d6, ds6, p6, q6, rfl, rfl, rfl, h6, r6⟩ := trodAll_cons r5
  obtain ⟨v7, vs7, d7, ds7, p7, q7, rfl, rfl, rfl, h7, r7⟩ := trodAll_cons r6
  obtain ⟨v8, vs8, d8, ds8, p8, q8, rfl, rfl, rfl, h8, r8⟩ := trodAll_cons r7
  obtain ⟨rfl, rfl, rfl⟩ := trodAll_nil r8
  obtain rfl : args = #[v0, v1, v2, v3, v4, v5, v6, v7, v8] := by cases args; simp_all
  obtain ⟨rfl, rfl⟩ := trodVars_none hV
  obtain ⟨a0, len0, cap0, rfl⟩ := okWide_slice Try.underlying22 (hval 0 22 v0 rfl rfl)
  have k0 := h0
  have lt0 : ∀ x ∈ p0, x.block < W.heap.size := by obtain ⟨m, hm⟩ := k0; exact DataW.trod_lt m _ _ _ hm
  obtain ⟨z0, w0⟩ : ∃ l, CS W W.heap.size (.slice a0 len0 cap0) l := by
    obtain ⟨fuel, hf⟩ := h0
    exact cs_openG hf
  obtain ⟨a1, len1, cap1, rfl⟩ := okWide_slice Try.underlying23 (hval 1 23 v1 rfl rfl)
  have k1 := h1
  have lt1 : ∀ x ∈ p1, x.block < W.heap.size := by obtain ⟨m, hm⟩ := k1; exact DataW.trod_lt m _ _ _ hm
  obtain ⟨z1, w1⟩ : ∃ l, BS W W.heap.size (.slice a1 len1 cap1) l := by
    obtain ⟨fuel, hf⟩ := h1
    rcases open_ints Try.underlying23 Try.underlying5 (by kernel_rfl) hf with ⟨hcs, _⟩ | ⟨x, l, c, zs, hcs, _, hl, hm, hz, _, hcell, hwz⟩
    · simp [Value.cells] at hcs
      obtain ⟨rfl, rfl, rfl⟩ := hcs
      exact ⟨[], BS.nil _ _⟩
    · simp [Value.cells] at hcs
      obtain ⟨rfl, rfl, rfl⟩ := hcs
      exact bs_row hl hm (by simpa using hz) hcell hwz
  obtain ⟨a2, rfl, rfl, rfl, w2⟩ := open_int Try.underlying5 (hval 2 5 v2 rfl rfl) h2
  obtain ⟨a3, rfl, rfl, rfl, w3⟩ := open_int Try.underlying3 (hval 3 3 v3 rfl rfl) h3
  obtain ⟨a4, rfl, rfl, rfl, w4⟩ := open_int Try.underlying3 (hval 4 3 v4 rfl rfl) h4
  obtain ⟨a5, rfl, rfl, rfl, w5⟩ := open_int Try.underlying3 (hval 5 3 v5 rfl rfl) h5
  obtain ⟨a6, rfl, rfl, rfl, w6⟩ := open_int Try.underlying3 (hval 6 3 v6 rfl rfl) h6
  obtain ⟨a7, rfl, rfl, rfl, w7⟩ := open_int Try.underlying3 (hval 7 3 v7 rfl rfl) h7
  have k8 := h8
  have lt8 : ∀ x ∈ p8, x.block < W.heap.size := by obtain ⟨m, hm⟩ := k8; exact DataW.trod_lt m _ _ _ hm
  obtain ⟨b0, b1, b2, b3, rfl, x0, x1, x2, x3⟩ := arr4_open (hval 8 24 v8 rfl rfl) h8
  clear hA0 hval0
  refine (gridTells_walk a0 len0 cap0 z0 a1 len1 cap1 z1 a2 a3 a4 a5 a6 a7 b0 b1 b2 b3 W w0 w1 w2 x0 x1 x2 x3).mono fun e W' ⟨he, bel⟩ => ?_
  subst he
  exact ⟨_, rfl, _, _, _, [], _, [], hW', trodAll_mk1 (shut_bool Try.underlying4 _), (trodAll_cons_mk (Below.trod gridTells_laidOut (by kernel_rfl) (of_decide_eq_true (by kernel_rfl)) k0 bel lt0) (trodAll_cons_mk (Below.trod gridTells_laidOut (by kernel_rfl) (of_decide_eq_true (by kernel_rfl)) k1 bel lt1) (trodAll_cons_mk (shut_int Try.underlying5 w2) (trodAll_cons_mk (shut_int Try.underlying3 w3) (trodAll_cons_mk (shut_int Try.underlying3 w4) (trodAll_cons_mk (shut_int Try.underlying3 w5) (trodAll_cons_mk (shut_int Try.underlying3 w6) (trodAll_cons_mk (shut_int Try.underlying3 w7) (trodAll_cons_mk (Below.trod gridTells_laidOut (by kernel_rfl) (of_decide_eq_true (by kernel_rfl)) k8 bel lt8) trodAll_mk0))))))))), rfl, bel.frame _, fun h => by cases h⟩

theorem gridTells_over : Rows.gridTellsRow.holds Try.pinned (OpenSpec.ofChange Rows.gridTellsSpec) :=
  OpenClaim.holds_of_wide 3 Try.f3 rfl rfl rfl rfl rfl rfl rfl ⟨rfl, rfl, rfl, rfl, rfl⟩ rfl rfl rfl rfl rfl (by kernel_rfl) Try.func3 (by kernel_rfl)
    (of_decide_eq_true (by kernel_rfl)) (by unfold Func.isWrapper; first | (rw [if_pos (by decide +kernel)]; kernel_rfl) | (rw [if_neg (by decide +kernel)]; exact ⟨rfl, rfl⟩))
    (fun os started H enc _ => gridTells_lifted os started H enc)

theorem gridTells_holds : Rows.GridTellsSaid := gridTells_over
#print axioms gridTells_holds
end Go.Proofs.Ytejemcpkmfhenaa
