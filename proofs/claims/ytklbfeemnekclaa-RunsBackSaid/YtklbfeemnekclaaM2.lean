/- What is proved here: words for slices of cells in memory over this translation (a slice that reads as a list of cells; a row of cells of the call's own), how they are kept, what append makes of them, what a store makes of them; the contract of the document's word on which cells may be; contracts of the two Put functions: each number below 2^64 comes to its bytes, in new memory. -/
import Derived.Test.YtklbfeemnekclaaM1
namespace Go.Proofs.Ytklbfeemnekclaa
open Go.RowKit
set_option linter.unusedVariables false

/-- A cell as three values. -/
def vC (c : Cl) : List Value := [.int .i32 c.r, .int .u16 (c.a : Int), .int .u8 (c.h : Int)]
def vCs (l : List Cl) : List Value := l.flatMap vC
/-- A cell as one value. -/
def aC (c : Cl) : Value := .agg #[.int .i32 c.r, .int .u16 (c.a : Int), .int .u8 (c.h : Int)]

theorem vCs_len (l : List Cl) : (vCs l).length = l.length * 3 := by
  induction l with
  | nil => rfl
  | cons c l ih => simp only [vCs, List.flatMap_cons, List.length_append] at ih ⊢; rw [ih]; simp [vC]; omega
theorem vCs_app (l m : List Cl) : vCs (l ++ m) = vCs l ++ vCs m := by simp [vCs, List.flatMap_append]
theorem vCs_get (l : List Cl) (k : Nat) (c : Cl) (h : l[k]? = some c) : (vCs l)[k * 3]? = some (.int .i32 c.r) ∧ (vCs l)[k * 3 + 1]? = some (.int .u16 (c.a : Int)) ∧ (vCs l)[k * 3 + 2]? = some (.int .u8 (c.h : Int)) := by
  induction l generalizing k with
  | nil => simp at h
  | cons d l ih =>
    have e : vCs (d :: l) = vC d ++ vCs l := rfl
    rw [e]
    match k, h with
    | 0, h =>
      simp at h
      subst h
      simp [vC]
    | k + 1, h =>
      have h' : l[k]? = some c := by simpa using h
      obtain ⟨a1, a2, a3⟩ := ih k h'
      have hl : (vC d).length = 3 := rfl
      rw [List.getElem?_append_right (by omega), List.getElem?_append_right (by omega), List.getElem?_append_right (by omega), hl]
      rw [show (k + 1) * 3 - 3 = k * 3 by omega, show (k + 1) * 3 + 1 - 3 = k * 3 + 1 by omega, show (k + 1) * 3 + 2 - 3 = k * 3 + 2 by omega]
      exact ⟨a1, a2, a3⟩
theorem vCs_set (l : List Cl) (k : Nat) (c : Cl) (h : k < l.length) : vCs (l.set k c) = (((vCs l).set (k * 3) (.int .i32 c.r)).set (k * 3 + 1) (.int .u16 (c.a : Int))).set (k * 3 + 2) (.int .u8 (c.h : Int)) := by
  induction l generalizing k with
  | nil => simp at h
  | cons d l ih =>
    match k, h with
    | 0, h => simp [vCs, vC]
    | k + 1, h =>
      have e : vCs ((d :: l).set (k + 1) c) = vC d ++ vCs (l.set k c) := by simp [vCs]
      have e2 : vCs (d :: l) = vC d ++ vCs l := rfl
      rw [e, ih k (by simpa using h), e2]
      have hl : (vC d).length = 3 := rfl
      rw [List.set_append_right _ _ (by omega), List.set_append_right _ _ (by omega), List.set_append_right _ _ (by omega), hl]
      rw [show (k + 1) * 3 - 3 = k * 3 by omega, show (k + 1) * 3 + 1 - 3 = k * 3 + 1 by omega, show (k + 1) * 3 + 2 - 3 = k * 3 + 2 by omega]
theorem vCs_one (l : List Cl) : ∀ u ∈ vCs l, u.oneCell' = true := by
  intro u hu
  unfold vCs at hu
  rw [List.mem_flatMap] at hu
  obtain ⟨c, _, hc⟩ := hu
  simp only [vC, List.mem_cons, List.not_mem_nil, or_false] at hc
  rcases hc with rfl | rfl | rfl <;> rfl
theorem vCs_rep (n : Nat) (c : Cl) : vCs (List.replicate n c) = (List.replicate n (vC c)).flatten := by
  simp [vCs, List.flatMap]

/-- The address xa is where a cell's three values begin. -/
def ThreeAt (w : World) (xa : Addr) (c : Cl) : Prop :=
  w.cell? xa = some (.int .i32 c.r) ∧ w.cell? ⟨xa.block, xa.off + 1, none⟩ = some (.int .u16 (c.a : Int)) ∧ w.cell? ⟨xa.block, xa.off + 2, none⟩ = some (.int .u8 (c.h : Int))
theorem add_at3 (ad : Addr) (n i : Nat) (hi : 0 < i) : ad.add (n + i) = ⟨(ad.add n).block, (ad.add n).off + i, none⟩ := by
  unfold Addr.add
  rw [if_neg (by omega)]
  split
  · next h => subst h; simp
  · simp [Nat.add_assoc]
theorem ThreeAt.keep {w w' : World} {xa : Addr} {c : Cl} (h : ThreeAt w xa c) (hk : ∀ p : Addr, p.block = xa.block → w'.cell? p = w.cell? p) : ThreeAt w' xa c :=
  ⟨(hk xa rfl).trans h.1, (hk ⟨xa.block, xa.off + 1, none⟩ rfl).trans h.2.1, (hk ⟨xa.block, xa.off + 2, none⟩ rfl).trans h.2.2⟩

/-- A row of cells of the call's own, from block 'base' on. -/
def OC (w : World) (base : Nat) (v : Value) (l : List Cl) : Prop := w.ownsRow base 41 3 v l.length (vCs l)
/-- A slice that reads as the cells l; it lies below block B. -/
def CS (w : World) (B : Nat) (v : Value) (l : List Cl) : Prop :=
  ∃ A c, v = .slice A l.length c ∧ l.length ≤ c ∧ c ≤ maxLen ∧
    (0 < l.length → ∃ ad, A = some ad ∧ ad.block < B ∧ ∀ j b, l[j]? = some b → ThreeAt w (ad.add (j * 3)) b)
section
variable {w w' : World} {B B' base : Nat} {v : Value} {l : List Cl}
theorem CS.keep (h : CS w B v l) (hk : ∀ p : Addr, p.block < B → w'.cell? p = w.cell? p) : CS w' B v l := by
  obtain ⟨A, c, hv, h1, h2, h3⟩ := h
  refine ⟨A, c, hv, h1, h2, fun hl => ?_⟩
  obtain ⟨ad, hA, hb, hc⟩ := h3 hl
  exact ⟨ad, hA, hb, fun j b hj => (hc j b hj).keep fun p hp => hk p (by rw [hp, block_add]; exact hb)⟩
theorem CS.below (h : CS w B v l) (hb : Below B w w') : CS w' B v l := h.keep fun _ hp => hb.cell hp
theorem CS.more (h : CS w B v l) (hB : B ≤ B') : CS w B' v l := by
  obtain ⟨A, c, hv, h1, h2, h3⟩ := h
  refine ⟨A, c, hv, h1, h2, fun hl => ?_⟩
  obtain ⟨ad, hA, hb, hc⟩ := h3 hl
  exact ⟨ad, hA, by omega, hc⟩
theorem CS.alloc (h : CS w B v l) (hB : B ≤ w.heap.size) (o : Obj) : CS (w.alloc o) B v l := h.keep fun p hp => World.cell?_alloc_lt w o p (by omega)
theorem CS.nil (w : World) (B : Nat) : CS w B (.slice none 0 0) [] := ⟨none, 0, rfl, by simp, by simp [maxLen], fun h => absurd h (by simp)⟩
theorem CS.form (h : CS w B v l) : ∃ A c, v = .slice A l.length c ∧ l.length ≤ c ∧ c ≤ 9223372036854775807 := by
  obtain ⟨A, c, hv, h1, h2, _⟩ := h
  unfold maxLen at h2
  exact ⟨A, c, hv, h1, by omega⟩
theorem CS.get {A : Option Addr} {n c : Nat} (h : CS w B (.slice A n c) l) (k : Nat) (x : Cl) (hx : l[k]? = some x) : ∃ ad, A = some ad ∧ ad.block < B ∧ ThreeAt w (ad.add (k * 3)) x := by
  obtain ⟨A', c', hv, _, _, h3⟩ := h
  simp only [Value.slice.injEq] at hv
  have hk : k < l.length := (List.getElem?_eq_some_iff.1 hx).1
  obtain ⟨ad, hA, hb, hc⟩ := h3 (by omega)
  exact ⟨ad, hv.1.trans hA, hb, hc k x hx⟩

theorem OC.nil (w : World) (base : Nat) : OC w base (.slice none 0 0) [] := World.ownsRow_nil w base _ _
theorem OC.alloc (h : OC w base v l) (o : Obj) : OC (w.alloc o) base v l := World.ownsRow.alloc h o
theorem OC.below (h : OC w base v l) (hb : Below w.heap.size w w') : OC w' base v l := by
  have hg : w.grownBy w' none := ⟨hb.os, hb.tape, hb.output, hb.size, fun i hi _ => hb.block i hi⟩
  unfold OC at h ⊢
  refine h.kept hg ?_
  cases hv : v.ownBlock with
  | none => exact Or.inl rfl
  | some k => exact Or.inr (by simp)
theorem OC.cs (h : OC w base v l) : CS w w.heap.size v l := by
  unfold OC at h
  rcases h.2 with ⟨rfl, hn⟩ | ⟨g, cap, cur, rfl, hbg, hg, hnc, hcm, hcs, htake⟩
  · have : l = [] := List.eq_nil_of_length_eq_zero hn
    subst this
    exact CS.nil w _
  · have hlt : g < w.heap.size := by
      rcases Nat.lt_or_ge g w.heap.size with hh | hh
      · exact hh
      · rw [Array.getElem?_eq_none hh] at hg; cases hg
    refine ⟨_, cap, rfl, hnc, hcm, fun _ => ⟨_, rfl, hlt, fun j b hj => ?_⟩⟩
    obtain ⟨e0, e1, e2⟩ := vCs_get l j b hj
    refine ⟨h.cells (g := g) rfl _ _ e0, ?_, ?_⟩
    · rw [← add_at3 _ _ _ (by omega)]; exact h.cells (g := g) rfl _ _ e1
    · rw [← add_at3 _ _ _ (by omega)]; exact h.cells (g := g) rfl _ _ e2
theorem OC.lower {b2 : Nat} (h : OC w base v l) (hb : b2 ≤ base) : OC w b2 v l := by
  obtain ⟨a1, a2⟩ := h
  refine ⟨a1, ?_⟩
  rcases a2 with a2 | ⟨g, cap, cur, hv, hg, hr⟩
  · exact .inl a2
  · exact .inr ⟨g, cap, cur, hv, Nat.le_trans hb hg, hr⟩
/-- A row of the call's own that has cells: where it lies. -/
theorem OC.open_ (h : OC w base v l) (hl : 0 < l.length) : ∃ g cap, v = .slice (some ⟨g, 0, none⟩) l.length cap ∧ base ≤ g ∧ g < w.heap.size ∧ l.length ≤ cap ∧ cap ≤ 9223372036854775807 := by
  have hh := h
  unfold OC at h
  rcases h.2 with ⟨rfl, hn⟩ | ⟨g, cap, cur, rfl, hbg, hg, hnc, hcm, hcs, htake⟩
  · omega
  · unfold maxLen at hcm
    exact ⟨g, cap, rfl, hbg, (World.ownsRow.lt hh g rfl).2, hnc, by omega⟩
end
section
variable {w : World} {base g n cap : Nat} {l : List Cl}
theorem OC.threeAt (h : OC w base (.slice (some ⟨g, 0, none⟩) l.length cap) l) (k : Nat) (c : Cl) (hc : l[k]? = some c) : w.cell? ⟨g, k * 3, none⟩ = some (.int .i32 c.r) ∧ w.cell? ⟨g, k * 3 + 1, none⟩ = some (.int .u16 (c.a : Int)) ∧ w.cell? ⟨g, k * 3 + 2, none⟩ = some (.int .u8 (c.h : Int)) := by
  obtain ⟨e0, e1, e2⟩ := vCs_get l k c hc
  have hk : k < l.length := (List.getElem?_eq_some_iff.1 hc).1
  unfold OC at h
  exact ⟨(World.ownsRow.cellAt h _ (by omega)).trans e0, (World.ownsRow.cellAt h _ (by omega)).trans e1, (World.ownsRow.cellAt h _ (by omega)).trans e2⟩
theorem OC.frozenAt (h : OC w base (.slice (some ⟨g, 0, none⟩) l.length cap) l) (j : Nat) : w.frozen? ⟨g, j, none⟩ = false := World.ownsRow.frozenAt h j
theorem OC.stored (h : OC w base (.slice (some ⟨g, 0, none⟩) l.length cap) l) (k : Nat) (hk : k < l.length) (c : Cl) :
    OC (((w.setCell ⟨g, k * 3, none⟩ (.int .i32 c.r)).setCell ⟨g, k * 3 + 1, none⟩ (.int .u16 (c.a : Int))).setCell ⟨g, k * 3 + 2, none⟩ (.int .u8 (c.h : Int))) base (.slice (some ⟨g, 0, none⟩) l.length cap) (l.set k c) := by
  have := (World.ownsRow.stored (World.ownsRow.stored (World.ownsRow.stored h (k * 3) (.int .i32 c.r)).1 (k * 3 + 1) (.int .u16 (c.a : Int))).1 (k * 3 + 2) (.int .u8 (c.h : Int))).1
  unfold OC
  rw [List.length_set, vCs_set l k c hk]
  exact this
end
section
variable {w : World} {base g n cap : Nat} {l : List Cl}
theorem OC.len (h : OC w base (.slice (some ⟨g, 0, none⟩) n cap) l) : n = l.length := by
  unfold OC at h
  rcases h.2 with ⟨hv, _⟩ | ⟨g', cap', cur, hv, _⟩
  · cases hv
  · simp only [Value.slice.injEq] at hv
    exact hv.2.1
/-- The three values of a place, whatever they are, and that they may be written. -/
theorem OC.spot (h : OC w base (.slice (some ⟨g, 0, none⟩) n cap) l) (k : Nat) (hk : k < n) : ∃ x y z, w.cell? ⟨g, k * 3, none⟩ = some x ∧ w.cell? ⟨g, k * 3 + 1, none⟩ = some y ∧ w.cell? ⟨g, k * 3 + 2, none⟩ = some z ∧ w.frozen? ⟨g, k * 3, none⟩ = false ∧ w.frozen? ⟨g, k * 3 + 1, none⟩ = false ∧ w.frozen? ⟨g, k * 3 + 2, none⟩ = false := by
  obtain rfl := h.len
  obtain ⟨c, hc⟩ : ∃ c, l[k]? = some c := ⟨_, List.getElem?_eq_getElem hk⟩
  obtain ⟨a, b, d⟩ := h.threeAt k c hc
  exact ⟨_, _, _, a, b, d, h.frozenAt _, h.frozenAt _, h.frozenAt _⟩
theorem OC.put (h : OC w base (.slice (some ⟨g, 0, none⟩) n cap) l) (k : Nat) (hk : k < n) (c : Cl) :
    OC (((w.setCell ⟨g, k * 3, none⟩ (.int .i32 c.r)).setCell ⟨g, k * 3 + 1, none⟩ (.int .u16 (c.a : Int))).setCell ⟨g, k * 3 + 2, none⟩ (.int .u8 (c.h : Int))) base (.slice (some ⟨g, 0, none⟩) n cap) (l.set k c) := by
  obtain rfl := h.len
  exact h.stored k hk c
theorem OC.block (h : OC w base (.slice (some ⟨g, 0, none⟩) n cap) l) : base ≤ g ∧ g < w.heap.size := World.ownsRow.lt h g rfl
end
theorem below_put {B : Nat} {w w' : World} (h : Below B w w') {g : Nat} (hg : B ≤ g) (k : Nat) (x y z : Value) : Below B w (((w'.setCell ⟨g, k, none⟩ x).setCell ⟨g, k + 1, none⟩ y).setCell ⟨g, k + 2, none⟩ z) :=
  ((h.setCell hg x).setCell hg y).setCell hg z
theorem cellInfo : (Try.prog.info? 41).map (fun i => (i.zero, i.size, i.bytes)) = some (some (.agg #[.int .i32 0, .int .u16 0, .int .u8 0]), 3, 8) := by kernel_rfl

/-- append onto a row of the call's own, of whatever cells. -/
theorem run_appC (w : World) (ty : TypeId) {base B : Nat} {v u : Value} {l m : List Cl} (hown : OC w base v l) (hr : CS w B u m) (hlen : l.length + m.length ≤ 1099511627776) (hbase : base ≤ w.heap.size) :
    ∃ v' w', (Builtin.append_ #[22, 22] ty #[v, u]).run Try.prog w = .ok v' w' ∧ OC w' base v' (l ++ m) ∧ w.grownBy w' v.ownBlock ∧ Below base w w' ∧ (v'.ownBlock = v.ownBlock ∨ v'.ownBlock = some w.heap.size) := by
  obtain ⟨i0, hi0, hz0, hz1, hz2⟩ := info_parts cellInfo
  have hlt := World.ownsRow.lt hown
  have hfin : ∀ v' w', w'.ownsRow base 41 3 v' (l.length + m.length) (vCs l ++ vCs m) → OC w' base v' (l ++ m) := by
    intro v' w' h
    unfold OC
    rw [List.length_append, vCs_app]
    exact h
  obtain ⟨A, c, rfl, h1, h2, h3⟩ := hr
  rcases Nat.eq_zero_or_pos m.length with h0 | h0
  · have hm : m = [] := List.eq_nil_of_length_eq_zero h0
    subst hm
    refine ⟨v, w, ?_, by simpa using hown, World.grownBy.refl w _, Below.refl _ _, .inl rfl⟩
    rcases hown.2 with ⟨rfl, hn⟩ | ⟨g, cap, cur, rfl, _, _, hnc, _⟩
    · cases A <;> simp [Builtin.append_, run_underlying Try.underlying22, sizeOf, typeInfo, hi0, Builtin.lenOf, Builtin.firstCells, loadCells, loadCellsFrom]
    · cases A <;> simp [Builtin.append_, run_underlying Try.underlying22, sizeOf, typeInfo, hi0, Builtin.lenOf, Builtin.firstCells, hnc, storeCells, loadCells, loadCellsFrom]
  · obtain ⟨ad, rfl, hb, hc⟩ := h3 h0
    have hcell : ∀ (j : Nat) (u : Value), (vCs m)[j]? = some u → w.cell? (ad.add j) = some u := by
      intro j u hj
      have hj3 : j < m.length * 3 := by
        have := (List.getElem?_eq_some_iff.1 hj).1
        rw [vCs_len] at this
        exact this
      obtain ⟨x, hx⟩ : ∃ x, m[j / 3]? = some x := ⟨_, List.getElem?_eq_getElem (by omega)⟩
      obtain ⟨e0, e1, e2⟩ := vCs_get m (j / 3) x hx
      obtain ⟨f0, f1, f2⟩ := hc _ x hx
      have hmod : j % 3 = 0 ∨ j % 3 = 1 ∨ j % 3 = 2 := by omega
      rcases hmod with h | h | h
      · have e : j / 3 * 3 = j := by omega
        rw [e] at e0 f0
        rw [e0] at hj
        rw [f0, hj]
      · have e : j / 3 * 3 + 1 = j := by omega
        rw [← add_at3 _ _ _ (by omega), e] at f1
        rw [e] at e1
        rw [e1] at hj
        rw [f1, hj]
      · have e : j / 3 * 3 + 2 = j := by omega
        rw [← add_at3 _ _ _ (by omega), e] at f2
        rw [e] at e2
        rw [e2] at hj
        rw [f2, hj]
    obtain ⟨v', w', hrun, h4, h5, _, h6⟩ := run_append_own_at (P := Try.prog) w base 22 ty 41 i0 _ 3 8 Try.underlying22 hi0 hz0 hz1 hz2 rfl (by omega) v l.length (vCs l) hown ad m.length c (vCs m) (by rw [vCs_len]) hcell
      (vCs_one m) (by simp only [maxLen]; omega) (by omega) hbase
    exact ⟨v', w', hrun, hfin v' w' h4, h5, (Below.refl _ _).grown h5 hbase (fun k hk => (hlt k hk).1), h6⟩

/-- The same at the operation, for the walk. -/
theorem wpl_appC (w : World) {ops : Array Oper} {rest : List Oper} {o : Oper} {a : Act} {Q : Exit → Act → World → Prop} (hgd : o.guard = none) (s x : Operand)
    (ho : o.op = .call { callee := .builtin .append, args := #[s, x], argTypes := #[22, 22] })
    (base B : Nat) (v u : Value) (l m : List Cl) (hs : a.eval s = v) (hx : a.eval x = u) (hown : OC w base v l) (hr : CS w B u m) (hlen : l.length + m.length ≤ 1099511627776) (hbase : base ≤ w.heap.size)
    (h : ∀ v' w', OC w' base v' (l ++ m) → w.grownBy w' v.ownBlock → Below base w w' → (v'.ownBlock = v.ownBlock ∨ v'.ownBlock = some w.heap.size) → wpList Try.prog ops Q rest (a.put o.dst v') w') :
    wpList Try.prog ops Q (o :: rest) a w := by
  refine wpList_plain hgd fun K hK => ?_
  obtain ⟨v', w', hrun, h2, h3, h4, h5⟩ := run_appC w o.type hown hr hlen hbase
  unfold Oper.wp execOp
  simp only [ho, resolve, invoke, builtin, Sem.run_bind, Sem.run_pure, Result.andThen_ok, List.map_toArray, List.map_cons, List.map_nil, hs, hx, hrun]
  exact hK _ _ (h v' w' h2 h3 h4 h5)
end Go.Proofs.Ytklbfeemnekclaa

namespace Go.Proofs.Ytklbfeemnekclaa
open Go.RowKit
set_option linter.unusedVariables false
set_option linter.unusedSimpArgs false
theorem andT8 : (List.range 4096).all (fun a => bits BinOp.and IntKind.u16 (a : Int) 8 == ((a / 8 % 2 * 8 : Nat) : Int)) = true := by kernel_rfl
theorem andT4 : (List.range 4096).all (fun a => bits BinOp.and IntKind.u16 ((a : Int) / 16) 15 == ((a / 16 % 16 : Nat) : Int)) = true := by kernel_rfl
theorem andT2 : (List.range 4096).all (fun a => bits BinOp.and IntKind.u16 ((a : Int) / 256) 15 == ((a / 256 % 16 : Nat) : Int)) = true := by kernel_rfl
theorem andU {f : Nat → Bool} (h : (List.range 4096).all f = true) (a : Nat) (ha : a < 4096) : f a = true := (List.all_eq_true.1 h) a (List.mem_range.2 ha)
set_option maxHeartbeats 1000000 in
set_option maxRecDepth 100000 in
theorem cellr_x (c : Cl) (r0 : -2147483648 ≤ c.r) (r1 : c.r ≤ 2147483647) (ha : c.a < 4096) (hh : c.h < 256) (w : World) (hm : mayR c.r = true) : Calls Try.prog 11 #[aC c] w fun e w' => e = .returned (.bool (cellB c)) ∧ Below w.heap.size w w' := by
  unfold aC
  have hai : (c.a : Int) < 4096 := by omega
  have H8 := Lib.hid (eq_of_beq (andU andT8 c.a ha))
  have H4 := Lib.hid (eq_of_beq (andU andT4 c.a ha))
  have H2 := Lib.hid (eq_of_beq (andU andT2 c.a ha))
  go_enter Try.func11, Try.ntmps11
  go_wp2_with ((with_reducible refine (mayr_any _ r0 r1 _).mono ?_); rintro e w' ⟨rfl, rfl⟩)
  all_goals
    go_ret
    have h8 := H8.out
    have h4 := H4.out
    have h2 := H2.out
    refine ⟨congrArg (fun b => Ending.returned (.bool b)) ?_, (Below.refl _ _).alloc (Nat.le_refl _) _⟩
    unfold cellB attrB
    rw [hm, Bool.eq_iff_iff]
    simp
    first | omega | (rw [Bool.eq_iff_iff, beq_iff_eq, beq_iff_eq]; omega)
theorem cellr_no (c : Cl) (r0 : -2147483648 ≤ c.r) (r1 : c.r ≤ 2147483647) (w : World) (hm : mayR c.r = false ∨ 4096 ≤ c.a) : Calls Try.prog 11 #[aC c] w fun e w' => e = .returned (.bool (cellB c)) ∧ Below w.heap.size w w' := by
  have hc : cellB c = false := by
    unfold cellB attrB
    rcases hm with h | h
    · simp [h]
    · simp [show ¬ c.a < 4096 by omega]
  rw [hc]
  unfold aC
  cases hmm : mayR c.r with
  | false =>
    clear hm hc
    go_enter Try.func11, Try.ntmps11
    go_wp2_with ((with_reducible refine (mayr_any _ r0 r1 _).mono ?_); rintro e w' ⟨rfl, rfl⟩)
    go_ret
    exact ⟨rfl, (Below.refl _ _).alloc (Nat.le_refl _) _⟩
  | true =>
    have h4 : 4096 ≤ c.a := hm.elim (fun h => by rw [hmm] at h; cases h) id
    have hai : ¬ (c.a : Int) < 4096 := by omega
    have hab : decide ((c.a : Int) < 4096) = false := by simpa using hai
    clear hm hc
    go_enter Try.func11, Try.ntmps11
    go_wp2_with ((with_reducible refine (mayr_any _ r0 r1 _).mono ?_); rintro e w' ⟨rfl, rfl⟩)
    go_ret
    exact ⟨rfl, (Below.refl _ _).alloc (Nat.le_refl _) _⟩
theorem cellr_any (c : Cl) (r0 : -2147483648 ≤ c.r) (r1 : c.r ≤ 2147483647) (hh : c.h < 256) (w : World) : Calls Try.prog 11 #[aC c] w fun e w' => e = .returned (.bool (cellB c)) ∧ Below w.heap.size w w' := by
  by_cases ha : c.a < 4096
  · cases hm : mayR c.r with
    | true => exact cellr_x c r0 r1 ha hh w hm
    | false => exact cellr_no c r0 r1 w (.inl hm)
  · exact cellr_no c r0 r1 w (.inr (by omega))
end Go.Proofs.Ytklbfeemnekclaa

namespace Go.Proofs.Ytklbfeemnekclaa
open Go.RowKit

theorem or128_nat : ∀ a : Nat, a < 256 → a ||| 128 = a % 128 + 128 := by decide +kernel
theorem or128 (a : Int) (h0 : 0 ≤ a) (h1 : a < 256) : bits .or .u8 a 128 = a % 128 + 128 := by
  rw [u8_or a 128 h0 h1 (by omega) (by omega), show (128 : Int).toNat = 128 from rfl, or128_nat _ (by omega)]
  omega
theorem and127 (a : Int) (h0 : 0 ≤ a) (h1 : a < 18446744073709551616) : bits .and .u64 a 127 = a % 128 := by
  rw [u64_and a 127 h0 h1 (by omega) (by omega), show (127 : Int).toNat = 127 from rfl, nat_mask7]
  omega

theorem mul_pow_lt (m : Int) (k : Nat) (_h0 : 0 ≤ m) (h : m.toNat * 2 ^ (7 * k) < 2 ^ 64) : m < 18446744073709551616 := by
  have := Nat.le_mul_of_pos_right m.toNat (Nat.two_pow_pos (7 * k))
  omega

/-- What stands at the head of a round: l is written, m is left. -/
def PutRel (n : Int) (base : Nat) (w0 : World) (t v : Value) (w : World) : Prop :=
  ∃ (m : Int) (f : Nat) (l : List UInt8), 0 ≤ m ∧ t = .int .u64 m ∧ l.length + f = 9 ∧ m.toNat * 2 ^ (7 * l.length) < 2 ^ 64 ∧ l ++ lebF f m.toNat = lebP n.toNat ∧ OB w base v l ∧ Below base w0 w
def PutPost (n : Int) (w : World) (e : Ending) (w' : World) : Prop := ∃ v, e = .returned v ∧ OB w' w.heap.size v (lebP n.toNat) ∧ Below w.heap.size w w'

theorem put_step {n m : Int} {f base : Nat} {l : List UInt8} {w0 w1 : World} {v1 : Value} (_hm0 : 0 ≤ m) (hlt : ¬ m < 128) (hf : l.length + f = 9) (hm : m.toNat * 2 ^ (7 * l.length) < 2 ^ 64) (hl : l ++ lebF f m.toNat = lebP n.toNat)
    (hown : OB w1 base v1 (l ++ [UInt8.ofNat (m % 128 + 128).toNat])) (hb : Below base w0 w1) : PutRel n base w0 (.int .u64 (m / 128)) v1 w1 := by
  have hf1 : 1 ≤ f := by
    rcases Nat.eq_zero_or_pos f with h | h
    · have : l.length = 9 := by omega
      rw [this] at hm
      omega
    · exact h
  obtain ⟨f, rfl⟩ : ∃ g, f = g + 1 := ⟨f - 1, by omega⟩
  have e1 : (m / 128).toNat = m.toNat / 128 := by omega
  have e2 : (m % 128 + 128).toNat = m.toNat % 128 + 128 := by omega
  refine ⟨m / 128, f, _, by omega, rfl, by simp; omega, ?_, ?_, hown, hb⟩
  · rw [e1, List.length_append, List.length_singleton]
    have e3 : 2 ^ (7 * (l.length + 1)) = 128 * 2 ^ (7 * l.length) := by rw [Nat.mul_add, Nat.pow_add, Nat.mul_comm]
    rw [e3, ← Nat.mul_assoc]
    have : m.toNat / 128 * 128 * 2 ^ (7 * l.length) ≤ m.toNat * 2 ^ (7 * l.length) := Nat.mul_le_mul_right _ (by omega)
    omega
  · rw [e1, e2, List.append_assoc, ← hl, lebF_big _ _ (by omega)]
    rfl
theorem put_last {n m : Int} {f base : Nat} {l : List UInt8} {w1 : World} {v1 : Value} (hlt : m < 128) (hl : l ++ lebF f m.toNat = lebP n.toNat)
    (hown : OB w1 base v1 (l ++ [UInt8.ofNat m.toNat])) : OB w1 base v1 (lebP n.toNat) := by
  rw [← hl, lebF_small _ _ (by omega)]
  exact hown

set_option maxHeartbeats 400000 in
theorem put_any (n : Int) (hn0 : 0 ≤ n) (hn : n < 18446744073709551616) (w : World) : Calls Try.prog 30 #[.int .u64 n] w (PutPost n w) := by
  go_enter Try.func30, Try.ntmps30
  go_wp2
  go_loopw [0, 3] (fun t v wr => PutRel n w.heap.size w t v wr) (fun t _ _ => (intOf t).toNat)
  case atStart => exact ⟨n, 9, [], hn0, rfl, rfl, by simp; omega, rfl, OB.nil _ _, Below.refl _ _⟩
  case round =>
    obtain ⟨m, f, l, hm0, rfl, hf, hm, hl, hown, hbel⟩ := hrel
    have hmb := mul_pow_lt m _ hm0 hm
    have hll : l.length ≤ 9 := by omega
    have HF := Lib.hid hf
    have HM := Lib.hid hm
    have HL := Lib.hid hl
    clear hf hm hl hn hn0
    have hs := hbel.size
    by_cases hlt : m < 128
    · go_wp2_with (at_builtin; refine wpl_app _ rfl (.tmp 15) (.tmp 18) rfl w.heap.size _ _ _ l _ rfl rfl (hown.alloc _) (BS.one' wr m hm0 (by omega) _) (by simp; omega) (by simp; omega) ?_; intro v1 w1 hown1 hg1 hbel1 _)
      go_ret
      exact ⟨v1, rfl, put_last hlt HL.out hown1, (hbel.alloc hs _).trans hbel1⟩
    · have e1 := and127 m hm0 hmb
      have e2 := or128 (m % 128) (by omega) (by omega)
      rw [show m % 128 % 128 = m % 128 from by omega] at e2
      have b1 : 0 ≤ m % 128 := by omega
      have b2 : m % 128 < 128 := by omega
      go_wp2_with (at_builtin; refine wpl_app _ rfl (.tmp 6) (.tmp 11) rfl w.heap.size _ _ _ l _ rfl rfl (hown.alloc _) (BS.one' wr (m % 128 + 128) (by omega) (by omega) _) (by simp; omega) (by simp; omega) ?_; intro v1 w1 hown1 hg1 hbel1 _)
      go_roundw
      case rel => exact put_step hm0 hlt HF.out HM.out HL.out hown1 ((hbel.alloc hs _).trans hbel1)
      case measure => simp [intOf]; omega

set_option maxHeartbeats 400000 in
theorem putr_any (n : Int) (hn0 : 0 ≤ n) (hn : n < 18446744073709551616) (w : World) : Calls Try.prog 20 #[.int .u64 n] w (PutPost n w) := by
  go_enter Try.func20, Try.ntmps20
  go_wp2
  go_loopw [0, 3] (fun t v wr => PutRel n w.heap.size w t v wr) (fun t _ _ => (intOf t).toNat)
  case atStart => exact ⟨n, 9, [], hn0, rfl, rfl, by simp; omega, rfl, OB.nil _ _, Below.refl _ _⟩
  case round =>
    obtain ⟨m, f, l, hm0, rfl, hf, hm, hl, hown, hbel⟩ := hrel
    have hmb := mul_pow_lt m _ hm0 hm
    have hll : l.length ≤ 9 := by omega
    have HF := Lib.hid hf
    have HM := Lib.hid hm
    have HL := Lib.hid hl
    clear hf hm hl hn hn0
    have hs := hbel.size
    by_cases hlt : m < 128
    · go_wp2_with (at_builtin; refine wpl_app _ rfl (.tmp 14) (.tmp 17) rfl w.heap.size _ _ _ l _ rfl rfl (hown.alloc _) (BS.one' wr m hm0 (by omega) _) (by simp; omega) (by simp; omega) ?_; intro v1 w1 hown1 hg1 hbel1 _)
      go_ret
      exact ⟨v1, rfl, put_last hlt HL.out hown1, (hbel.alloc hs _).trans hbel1⟩
    · have e2 : bits .or .u8 (m % 256) 128 = m % 128 + 128 := by
        rw [or128 _ (by omega) (by omega)]
        omega
      have b1 : 0 ≤ m % 128 := by omega
      have b2 : m % 128 < 128 := by omega
      go_wp2_with (at_builtin; refine wpl_app _ rfl (.tmp 6) (.tmp 10) rfl w.heap.size _ _ _ l _ rfl rfl (hown.alloc _) (BS.one' wr (m % 128 + 128) (by omega) (by omega) _) (by simp; omega) (by simp; omega) ?_; intro v1 w1 hown1 hg1 hbel1 _)
      go_roundw
      case rel => exact put_step hm0 hlt HF.out HM.out HL.out hown1 ((hbel.alloc hs _).trans hbel1)
      case measure => simp [intOf]; omega
end Go.Proofs.Ytklbfeemnekclaa
