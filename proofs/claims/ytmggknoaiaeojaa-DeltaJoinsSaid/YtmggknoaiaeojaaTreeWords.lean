/- What is proved here: words for a suffix tree in memory over this translation: a row of nodes of the call's own, a map of the call's own, the tree, how they are kept, what a store makes of them. -/
import Derived.Test.YtmggknoaiaeojaaTreeGrow
import Derived.Test.YtmggknoaiaeojaaBytesOwn
import Derived.Maps.OwnSet
import Derived.Laws.Rows
namespace Go.Proofs.Ytmggknoaiaeojaa
open Go.RowKit
set_option linter.unusedVariables false

/-- A node: start, end, link. -/
abbrev Nd := Nat × Nat × Nat
def vN (x : Nd) : List Value := [.int .i64 (x.1 : Int), .int .i64 (x.2.1 : Int), .int .i64 (x.2.2 : Int)]
def vNs (l : List Nd) : List Value := l.flatMap vN
theorem vNs_len (l : List Nd) : (vNs l).length = l.length * 3 := by
  induction l with
  | nil => rfl
  | cons c l ih => simp only [vNs, List.flatMap_cons, List.length_append] at ih ⊢; rw [ih]; simp [vN]; omega
theorem vNs_app (l m : List Nd) : vNs (l ++ m) = vNs l ++ vNs m := by simp [vNs, List.flatMap_append]
theorem vNs_get (l : List Nd) (k : Nat) (c : Nd) (h : l[k]? = some c) : (vNs l)[k * 3]? = some (.int .i64 (c.1 : Int)) ∧ (vNs l)[k * 3 + 1]? = some (.int .i64 (c.2.1 : Int)) ∧ (vNs l)[k * 3 + 2]? = some (.int .i64 (c.2.2 : Int)) := by
  induction l generalizing k with
  | nil => simp at h
  | cons d l ih =>
    have e : vNs (d :: l) = vN d ++ vNs l := rfl
    rw [e]
    match k, h with
    | 0, h =>
      simp at h
      subst h
      simp [vN]
    | k + 1, h =>
      have h' : l[k]? = some c := by simpa using h
      obtain ⟨a1, a2, a3⟩ := ih k h'
      have hl : (vN d).length = 3 := rfl
      rw [List.getElem?_append_right (by omega), List.getElem?_append_right (by omega), List.getElem?_append_right (by omega), hl]
      rw [show (k + 1) * 3 - 3 = k * 3 by omega, show (k + 1) * 3 + 1 - 3 = k * 3 + 1 by omega, show (k + 1) * 3 + 2 - 3 = k * 3 + 2 by omega]
      exact ⟨a1, a2, a3⟩
theorem vNs_set0 (l : List Nd) (k : Nat) (c : Nd) (h : l[k]? = some c) (x : Nat) : vNs (l.set k (x, c.2.1, c.2.2)) = (vNs l).set (k * 3) (.int .i64 (x : Int)) := by
  induction l generalizing k with
  | nil => simp at h
  | cons d l ih =>
    match k, h with
    | 0, h =>
      simp at h
      subst h
      simp [vNs, vN]
    | k + 1, h =>
      have e : vNs ((d :: l).set (k + 1) (x, c.2.1, c.2.2)) = vN d ++ vNs (l.set k (x, c.2.1, c.2.2)) := by simp [vNs]
      have e2 : vNs (d :: l) = vN d ++ vNs l := rfl
      rw [e, ih k (by simpa using h), e2]
      have hl : (vN d).length = 3 := rfl
      rw [List.set_append_right _ _ (by omega), hl, show (k + 1) * 3 - 3 = k * 3 by omega]
theorem vNs_set2 (l : List Nd) (k : Nat) (c : Nd) (h : l[k]? = some c) (x : Nat) : vNs (l.set k (c.1, c.2.1, x)) = (vNs l).set (k * 3 + 2) (.int .i64 (x : Int)) := by
  induction l generalizing k with
  | nil => simp at h
  | cons d l ih =>
    match k, h with
    | 0, h =>
      simp at h
      subst h
      simp [vNs, vN]
    | k + 1, h =>
      have e : vNs ((d :: l).set (k + 1) (c.1, c.2.1, x)) = vN d ++ vNs (l.set k (c.1, c.2.1, x)) := by simp [vNs]
      have e2 : vNs (d :: l) = vN d ++ vNs l := rfl
      rw [e, ih k (by simpa using h), e2]
      have hl : (vN d).length = 3 := rfl
      rw [List.set_append_right _ _ (by omega), hl, show (k + 1) * 3 + 2 - 3 = k * 3 + 2 by omega]
theorem vNs_one (l : List Nd) : ∀ u ∈ vNs l, u.oneCell' = true := by
  intro u hu
  unfold vNs at hu
  rw [List.mem_flatMap] at hu
  obtain ⟨c, _, hc⟩ := hu
  simp only [vN, List.mem_cons, List.not_mem_nil, or_false] at hc
  rcases hc with rfl | rfl | rfl <;> rfl

/-- A row of nodes of the call's own, from block 'base' on. -/
def ON (w : World) (base : Nat) (v : Value) (l : List Nd) : Prop := w.ownsRow base 56 3 v l.length (vNs l)
section
variable {w w' : World} {base g n cap : Nat} {v : Value} {l : List Nd}
theorem ON.kept {row : Option Nat} (h : ON w base v l) (hg : w.grownBy w' row) (hne : v.ownBlock = none ∨ v.ownBlock ≠ row) : ON w' base v l := World.ownsRow.kept h hg hne
theorem ON.below (h : ON w base v l) (hb : Below w.heap.size w w') : ON w' base v l := by
  have hg : w.grownBy w' none := ⟨hb.os, hb.tape, hb.output, hb.size, fun i hi _ => hb.block i hi⟩
  refine h.kept hg ?_
  cases hv : v.ownBlock with
  | none => exact Or.inl rfl
  | some k => exact Or.inr (by simp)
theorem ON.open_ (h : ON w base v l) (hl : 0 < l.length) : ∃ g cap cur, v = .slice (some ⟨g, 0, none⟩) l.length cap ∧ base ≤ g ∧ g < w.heap.size ∧ l.length ≤ cap ∧ cap ≤ 9223372036854775807 ∧ w.heap[g]? = some (.cells cur 56) := by
  have hh := h
  unfold ON at h
  rcases h.2 with ⟨rfl, hn⟩ | ⟨g, cap, cur, rfl, hbg, hg, hnc, hcm, hcs, htake⟩
  · omega
  · unfold maxLen at hcm
    exact ⟨g, cap, cur, rfl, hbg, (World.ownsRow.lt hh g rfl).2, hnc, by omega, hg⟩
theorem ON.threeAt (h : ON w base (.slice (some ⟨g, 0, none⟩) l.length cap) l) (k : Nat) (c : Nd) (hc : l[k]? = some c) : w.cell? ⟨g, k * 3, none⟩ = some (.int .i64 (c.1 : Int)) ∧ w.cell? ⟨g, k * 3 + 1, none⟩ = some (.int .i64 (c.2.1 : Int)) ∧ w.cell? ⟨g, k * 3 + 2, none⟩ = some (.int .i64 (c.2.2 : Int)) := by
  obtain ⟨e0, e1, e2⟩ := vNs_get l k c hc
  have hk : k < l.length := (List.getElem?_eq_some_iff.1 hc).1
  unfold ON at h
  exact ⟨(World.ownsRow.cellAt h _ (by omega)).trans e0, (World.ownsRow.cellAt h _ (by omega)).trans e1, (World.ownsRow.cellAt h _ (by omega)).trans e2⟩
theorem ON.frozenAt (h : ON w base (.slice (some ⟨g, 0, none⟩) l.length cap) l) (j : Nat) : w.frozen? ⟨g, j, none⟩ = false := World.ownsRow.frozenAt h j
theorem ON.put0 (h : ON w base (.slice (some ⟨g, 0, none⟩) l.length cap) l) (k : Nat) (c : Nd) (hc : l[k]? = some c) (x : Nat) : ON (w.setCell ⟨g, k * 3, none⟩ (.int .i64 (x : Int))) base (.slice (some ⟨g, 0, none⟩) l.length cap) (l.set k (x, c.2.1, c.2.2)) := by
  have := (World.ownsRow.stored h (k * 3) (.int .i64 (x : Int))).1
  unfold ON
  rw [List.length_set, vNs_set0 l k c hc]
  exact this
theorem ON.put2 (h : ON w base (.slice (some ⟨g, 0, none⟩) l.length cap) l) (k : Nat) (c : Nd) (hc : l[k]? = some c) (x : Nat) : ON (w.setCell ⟨g, k * 3 + 2, none⟩ (.int .i64 (x : Int))) base (.slice (some ⟨g, 0, none⟩) l.length cap) (l.set k (c.1, c.2.1, x)) := by
  have := (World.ownsRow.stored h (k * 3 + 2) (.int .i64 (x : Int))).1
  unfold ON
  rw [List.length_set, vNs_set2 l k c hc]
  exact this
end
theorem nodeInfo : (Try.prog.info? 56).map (fun i => (i.zero, i.size, i.bytes)) = some (some (.agg #[.int .i64 0, .int .i64 0, .int .i64 0]), 3, 24) := by kernel_rfl

/-- append of one node, laid in a block of its own, onto a row of the call's own. -/
theorem run_appN (w : World) (ty : TypeId) {base : Nat} {v : Value} {l : List Nd} {x : Nd} {ad : Addr} (hown : ON w base v l) (hr : ∀ j u, (vN x)[j]? = some u → w.cell? (ad.add j) = some u) (hlen : l.length + 1 ≤ 1099511627776) (hbase : base ≤ w.heap.size) :
    ∃ v' w', (Builtin.append_ #[54, 54] ty #[v, .slice (some ad) 1 1]).run Try.prog w = .ok v' w' ∧ ON w' base v' (l ++ [x]) ∧ w.grownBy w' v.ownBlock ∧ Below base w w' ∧ (v'.ownBlock = v.ownBlock ∨ v'.ownBlock = some w.heap.size) := by
  obtain ⟨i0, hi0, hz0, hz1, hz2⟩ := info_parts nodeInfo
  have hlt := World.ownsRow.lt hown
  have e : vNs [x] = vN x := by simp [vNs]
  obtain ⟨v', w', hrun, h4, h5, _, h6⟩ := run_append_own_at (P := Try.prog) w base 54 ty 56 i0 _ 3 24 Try.underlying54 hi0 hz0 hz1 hz2 rfl (by omega) v l.length (vNs l) hown ad 1 1 (vNs [x]) (by rw [vNs_len]; rfl) (by rw [e]; exact hr)
    (vNs_one [x]) (by simp only [maxLen]; omega) (by omega) hbase
  refine ⟨v', w', hrun, ?_, h5, (Below.refl _ _).grown h5 hbase (fun k hk => (hlt k hk).1), h6⟩
  unfold ON
  rw [List.length_append, vNs_app]
  exact h4
theorem wpl_appN (w : World) {ops : Array Oper} {rest : List Oper} {o : Oper} {a : Act} {Q : Exit → Act → World → Prop} (hgd : o.guard = none) (s y : Operand)
    (ho : o.op = .call { callee := .builtin .append, args := #[s, y], argTypes := #[54, 54] })
    (base : Nat) (v : Value) (ad : Addr) (l : List Nd) (x : Nd) (hs : a.eval s = v) (hx : a.eval y = .slice (some ad) 1 1) (hown : ON w base v l) (hr : ∀ j u, (vN x)[j]? = some u → w.cell? (ad.add j) = some u) (hlen : l.length + 1 ≤ 1099511627776) (hbase : base ≤ w.heap.size)
    (h : ∀ v' w', ON w' base v' (l ++ [x]) → w.grownBy w' v.ownBlock → Below base w w' → (v'.ownBlock = v.ownBlock ∨ v'.ownBlock = some w.heap.size) → wpList Try.prog ops Q rest (a.put o.dst v') w') :
    wpList Try.prog ops Q (o :: rest) a w := by
  refine wpList_plain hgd fun K hK => ?_
  obtain ⟨v', w', hrun, h2, h3, h4, h5⟩ := run_appN w o.type hown hr hlen hbase
  unfold Oper.wp execOp
  simp only [ho, resolve, invoke, builtin, Sem.run_bind, Sem.run_pure, Result.andThen_ok, List.map_toArray, List.map_cons, List.map_nil, hs, hx, hrun]
  exact hK _ _ (h v' w' h2 h3 h4 h5)

/-! ### the map -/
/-- The key of a node and a byte. -/
def keyI (u : Nat) (c : UInt8) : Int := (u : Int) * 256 + (c.toNat : Int)
theorem u8lt (c : UInt8) : c.toNat < 256 := c.toNat_lt
theorem keyI_bd (u : Nat) (c : UInt8) (hu : u ≤ 4294967296) : 0 ≤ keyI u c ∧ keyI u c < 18446744073709551616 := by
  have := u8lt c
  unfold keyI
  omega
theorem keyI_inj {u u' : Nat} {c c' : UInt8} (h : keyI u c = keyI u' c') : u = u' ∧ c = c' := by
  have h1 := u8lt c
  have h2 := u8lt c'
  unfold keyI at h
  have e1 : u = u' := by omega
  have e2 : c.toNat = c'.toNat := by omega
  exact ⟨e1, UInt8.toNat_inj.1 e2⟩
theorem key_wf (u : Nat) (c : UInt8) (hu : u ≤ 4294967296) : (Lit.int .u64 (keyI u c)).wf = true := by
  obtain ⟨h1, h2⟩ := keyI_bd u c hu
  have e1 : IntKind.u64.min = 0 := rfl
  have e2 : IntKind.u64.max = 18446744073709551615 := rfl
  simp only [Lit.wf, e1, e2, Bool.and_eq_true, decide_eq_true_eq]
  omega
theorem i64_wf (v : Nat) (hv : v ≤ 4294967296) : (Lit.int .i64 (v : Int)).wf = true := by
  have e1 : IntKind.i64.min = -9223372036854775808 := rfl
  have e2 : IntKind.i64.max = 9223372036854775807 := rfl
  simp only [Lit.wf, e1, e2, Bool.and_eq_true, decide_eq_true_eq]
  omega
theorem lawU : Maps.Keyed Try.prog 49 := Maps.int_keyed Try.underlying49
theorem zeroI (w : World) : (zeroValue 3).run Try.prog w = .ok (.int .i64 0) w := by kernel_rfl
/-- Block b is a map that tells f. -/
def OM (w : World) (b n : Nat) (f : Nat → UInt8 → Option Nat) : Prop :=
  ∃ D : DataW Unit, w.ownsMap Try.prog 49 (plainElem Try.prog 3) b n D ∧ ∀ u c, u ≤ 4294967296 → Maps.has D (.int .u64 (keyI u c)) = (f u c).isSome ∧ ∀ v, f u c = some v → D.atKey (.int .u64 (keyI u c)) (.lit (.int .i64 0)) = .lit (.int .i64 (v : Int))
theorem IsKeyInt (q : IntKind) (a : Int) : WideAt.IsKeyLit (.int q a) := by
  first | exact ⟨_, rfl⟩ | trivial | (unfold WideAt.IsKeyLit; trivial)
section
variable {w w' : World} {b n : Nat} {f : Nat → UInt8 → Option Nat}
theorem OM.kept {row : Option Nat} (h : OM w b n f) (hg : w.grownBy w' row) (hne : some b ≠ row) : OM w' b n f := by
  obtain ⟨D, h1, h2⟩ := h
  exact ⟨D, h1.kept hg hne, h2⟩
theorem OM.setCell (h : OM w b n f) {a : Addr} (ha : b ≠ a.block) (u : Value) : OM (w.setCell a u) b n f := by
  obtain ⟨D, h1, h2⟩ := h
  exact ⟨D, h1.setCell ha u, h2⟩
theorem OM.lt (h : OM w b n f) : b < w.heap.size := by
  obtain ⟨D, h1, h2⟩ := h
  exact h1.lt
theorem OM.obj (h : OM w b n f) : ∃ es k, w.heap[b]? = some (.map es k) := by
  obtain ⟨D, ⟨es, k, h1, -⟩, h2⟩ := h
  exact ⟨es, k, h1⟩
theorem OM.made (w : World) : OM (w.alloc (.map #[] 0)) w.heap.size 0 (fun _ _ => none) :=
  ⟨.map [], World.ownsMap_made w _ _ _, fun u c _ => ⟨rfl, fun v h => by cases h⟩⟩
theorem OM.look_some (h : OM w b n f) {u v : Nat} {c : UInt8} (hu : u ≤ 4294967296) (hf : f u c = some v) : (Instr.lookup 57 (.map (some b)) (.int .u64 (keyI u c)) true).run Try.prog w = .ok (.tuple #[.int .i64 (v : Int), .bool true]) w := by
  obtain ⟨D, h1, h2⟩ := h
  obtain ⟨e1, e2⟩ := h2 u c hu
  have hw0 : (Lit.int .i64 0).wf = true := by decide
  obtain ⟨x, ps, hrun, hx⟩ := h1.look_ok (t := 57) lawU Try.underlying57 (zeroI w) (plainElem_int Try.underlying3 hw0) (Maps.keyOf_int_mk Try.underlying49 (key_wf u c hu))
  rw [e1, hf] at hrun
  rw [e2 v hf] at hx
  obtain ⟨a, rfl, ha, -⟩ := plainElem_int_inv Try.underlying3 hx
  simp only [Prod.mk.injEq, DataW.lit.injEq, Lit.int.injEq, true_and] at ha
  rw [← ha.1] at hrun
  exact hrun
theorem OM.look_none (h : OM w b n f) {u : Nat} {c : UInt8} (hu : u ≤ 4294967296) (hf : f u c = none) : (Instr.lookup 57 (.map (some b)) (.int .u64 (keyI u c)) true).run Try.prog w = .ok (.tuple #[.int .i64 0, .bool false]) w := by
  obtain ⟨D, h1, h2⟩ := h
  obtain ⟨e1, e2⟩ := h2 u c hu
  have hw0 : (Lit.int .i64 0).wf = true := by decide
  obtain ⟨x, ps, hrun, hx⟩ := h1.look_ok (t := 57) lawU Try.underlying57 (zeroI w) (plainElem_int Try.underlying3 hw0) (Maps.keyOf_int_mk Try.underlying49 (key_wf u c hu))
  rw [e1, hf] at hrun
  rw [Maps.atKey_of_not_has (by rw [e1, hf]; rfl)] at hx
  obtain ⟨a, rfl, ha, -⟩ := plainElem_int_inv Try.underlying3 hx
  simp only [Prod.mk.injEq, DataW.lit.injEq, Lit.int.injEq, true_and] at ha
  rw [← ha.1] at hrun
  exact hrun
theorem OM.store (h : OM w b n f) (hn : n ≤ 4294967296) {u v : Nat} (c : UInt8) (hu : u ≤ 4294967296) (hv : v ≤ 4294967296) : ∃ w', (Instr.mapUpdate 57 (.map (some b)) (.int .u64 (keyI u c)) (.int .i64 (v : Int))).run Try.prog w = .ok () w' ∧ OM w' b (n + 1) (updB f u c v) ∧ w.grownBy w' (some b) := by
  obtain ⟨D, h1, h2⟩ := h
  obtain ⟨w', hrun, h3, h4⟩ := h1.update (t := 57) lawU Try.underlying57 (by simp only [maxLen]; omega) (Maps.keyOf_int_mk Try.underlying49 (key_wf u c hu)) (plainElem_int Try.underlying3 (i64_wf v hv))
  refine ⟨w', hrun, ⟨_, h3, fun u' c' hu' => ?_⟩, h4⟩
  unfold updB
  by_cases e : u' = u ∧ c' = c
  · obtain ⟨rfl, rfl⟩ := e
    rw [if_pos ⟨rfl, rfl⟩]
    refine ⟨Maps.has_put_same h1.isMap (IsKeyInt _ _) _, fun x hx => ?_⟩
    injection hx with hx
    subst hx
    exact Maps.atKey_put_same h1.isMap (IsKeyInt _ _) _ _
  · have hne : Lit.int .u64 (keyI u' c') ≠ Lit.int .u64 (keyI u c) := by
      intro e2
      simp only [Lit.int.injEq, true_and] at e2
      exact e (keyI_inj e2)
    rw [if_neg e, Maps.has_put_other hne]
    refine ⟨(h2 u' c' hu').1, fun x hx => ?_⟩
    rw [Maps.atKey_put_other hne]
    exact (h2 u' c' hu').2 x hx
end
theorem wpl_upd (w : World) {ops : Array Oper} {rest : List Oper} {o : Oper} {a : Act} {Q : Exit → Act → World → Prop} (hg : o.guard = none) (m x v : Operand) (hop : o.op = Op.mapUpdate 57 m x v)
    (b n u y : Nat) (c : UInt8) (f : Nat → UInt8 → Option Nat) (hm : a.eval m = .map (some b)) (hx : a.eval x = .int .u64 (keyI u c)) (hv : a.eval v = .int .i64 (y : Int)) (h : OM w b n f) (hn : n ≤ 4294967296) (hu : u ≤ 4294967296) (hy : y ≤ 4294967296)
    (hK : ∀ w', OM w' b (n + 1) (updB f u c y) → w.grownBy w' (some b) → wpList Try.prog ops Q rest (a.put o.dst undef) w') : wpList Try.prog ops Q (o :: rest) a w := by
  refine wpList_plain hg fun K' hK' => ?_
  obtain ⟨w', hrun, r1, r2⟩ := h.store hn c hu hy
  unfold Oper.wp
  simp [execOp, hop, hm, hx, hv, hrun, Result.andThen]
  exact hK' _ _ (hK w' r1 r2)

/-! ### the tree -/
/-- The tree in memory: its block tb, its map's block mb, its row of nodes. -/
structure TT (T : List UInt8) (sv : Value) (base : Nat) (w : World) (tb mb : Nat) (nv : Value) (ns : List Nd) (f : Nat → UInt8 → Option Nat) (n : Nat) : Prop where
  bs : BS w base sv T
  blk : w.heap[tb]? = some (.cells #[sv, nv, .map (some mb)] 59)
  row : ON w base nv ns
  map : OM w mb n f
  tlo : base ≤ tb
  mlo : base ≤ mb
/-- The grower in memory. -/
def GV (w : World) (gb : Nat) (a b c d : Int) : Prop := w.heap[gb]? = some (.cells #[.int .i64 a, .int .i64 b, .int .i64 c, .int .i64 d] 61)
/-- All growers are as they were. -/
def KeptG (w w' : World) : Prop := ∀ (b : Nat) (xs : Array Value), w.heap[b]? = some (.cells xs 61) → w'.heap[b]? = some (.cells xs 61)
theorem KeptG.refl (w : World) : KeptG w w := fun _ _ h => h
theorem KeptG.trans {w w' w'' : World} (h : KeptG w w') (h' : KeptG w' w'') : KeptG w w'' := fun b xs hb => h' b xs (h b xs hb)
theorem lt_of_heap {w : World} {b : Nat} {o : Obj} (h : w.heap[b]? = some o) : b < w.heap.size := by
  rcases Nat.lt_or_ge b w.heap.size with c | c
  · exact c
  · rw [Array.getElem?_eq_none c] at h; cases h
theorem KeptG.below {w w' : World} (h : Below w.heap.size w w') : KeptG w w' := fun b xs hb => (h.block b (lt_of_heap hb)).trans hb
theorem KeptG.alloc (w : World) (o : Obj) : KeptG w (w.alloc o) := fun b xs hb => (Below.heap_alloc w o b (lt_of_heap hb)).trans hb
theorem KeptG.grown {w w' : World} {r : Nat} (h : w.grownBy w' (some r)) {o : Obj} (hr : w.heap[r]? = some o) (ho : ∀ xs, o ≠ .cells xs 61) : KeptG w w' := fun b xs hb => by
  have hne : b ≠ r := fun e => by
    subst e
    rw [hr] at hb
    injection hb with hb
    exact ho xs hb
  exact (h.block b (lt_of_heap hb) (by simpa using hne)).trans hb
theorem KeptG.setCell {w : World} {a : Addr} {o : Obj} (hr : w.heap[a.block]? = some o) (ho : ∀ xs, o ≠ .cells xs 61) (v : Value) : KeptG w (w.setCell a v) := fun b xs hb => by
  have hne : b ≠ a.block := fun e => by
    subst e
    rw [hr] at hb
    injection hb with hb
    exact ho xs hb
  exact (Below.heap_setCell w a v b hne).trans hb
section
variable {T : List UInt8} {sv nv : Value} {base tb mb n : Nat} {w w' : World} {ns : List Nd} {f : Nat → UInt8 → Option Nat}
theorem TT.size (h : TT T sv base w tb mb nv ns f n) : base ≤ w.heap.size := Nat.le_of_lt (Nat.lt_of_le_of_lt h.tlo (lt_of_heap h.blk))
theorem TT.below (h : TT T sv base w tb mb nv ns f n) (hb : Below w.heap.size w w') : TT T sv base w' tb mb nv ns f n := by
  refine ⟨h.bs.below (hb.mono h.size), (hb.block tb (lt_of_heap h.blk)).trans h.blk, h.row.below hb, ?_, h.tlo, h.mlo⟩
  exact h.map.kept (row := none) ⟨hb.os, hb.tape, hb.output, hb.size, fun i hi _ => hb.block i hi⟩ (by simp)
theorem TT.alloc (h : TT T sv base w tb mb nv ns f n) (o : Obj) : TT T sv base (w.alloc o) tb mb nv ns f n := h.below ((Below.refl _ _).alloc (Nat.le_refl _) o)
theorem TT.cells (h : TT T sv base w tb mb nv ns f n) : (w.cell? ⟨tb, 0, none⟩ = some sv ∧ w.cell? ⟨tb, 1, none⟩ = some nv ∧ w.cell? ⟨tb, 2, none⟩ = some (.map (some mb))) ∧ w.frozen? ⟨tb, 1, none⟩ = false := by
  refine ⟨⟨?_, ?_, ?_⟩, ?_⟩
  · rw [cell_of_row w tb 0 _ _ _ h.blk]; rfl
  · rw [cell_of_row w tb 1 _ _ _ h.blk]; rfl
  · rw [cell_of_row w tb 2 _ _ _ h.blk]; rfl
  · simp [World.frozen?, h.blk]
/-- The row's block is neither the tree's nor the map's. -/
theorem TT.apart (h : TT T sv base w tb mb nv ns f n) : (∀ g, nv.ownBlock = some g → g ≠ tb ∧ g ≠ mb) ∧ mb ≠ tb := by
  obtain ⟨es, k, hm⟩ := h.map.obj
  constructor
  · intro g hg
    have hr := h.row
    unfold ON World.ownsRow at hr
    rcases hr.2 with ⟨rfl, hn⟩ | ⟨g', cap, cur, rfl, hbg, hg', -⟩
    · cases hg
    · simp only [Value.ownBlock, Option.some.injEq] at hg
      subst hg
      constructor
      · intro e
        subst e
        rw [h.blk] at hg'
        injection hg' with hg'
        injection hg' with _ e2
        exact absurd e2 (by decide)
      · intro e
        subst e
        rw [hm] at hg'
        injection hg' with hg'
        cases hg'
  · intro e
    subst e
    rw [h.blk] at hm
    injection hm with hm
    cases hm
/-- The row has grown, and the tree holds the new one. -/
theorem TT.grow (h : TT T sv base w tb mb nv ns f n) {nv' : Value} {ns' : List Nd} (hr : ON w' base nv' ns') (hg : w.grownBy w' nv.ownBlock) (hb : Below base w w') (hat : nv'.ownBlock = nv.ownBlock ∨ nv'.ownBlock = some w.heap.size) :
    TT T sv base (w'.setCell ⟨tb, 1, none⟩ nv') tb mb nv' ns' f n := by
  obtain ⟨hap, hmt⟩ := h.apart
  have hlt := lt_of_heap h.blk
  have hmlt := h.map.lt
  have e1 : w'.heap[tb]? = some (.cells #[sv, nv, .map (some mb)] 59) := by
    refine (hg.block tb hlt ?_).trans h.blk
    intro e
    exact (hap tb e.symm).1 rfl
  have hne : ∀ g, nv'.ownBlock = some g → g ≠ tb := by
    intro g hg2
    rcases hat with e | e
    · exact (hap g (e ▸ hg2)).1
    · rw [e] at hg2
      injection hg2 with hg2
      omega
  refine ⟨(h.bs.below hb).below ((Below.refl _ _).setCell h.tlo _), ?_, ?_, ?_, h.tlo, h.mlo⟩
  · rw [heap_setCell_same w' tb 1 _ _ nv' e1]
    rfl
  · refine hr.kept (row := some tb) ⟨rfl, rfl, rfl, by simp [World.setCell], fun i _ hi => Below.heap_setCell _ _ _ _ (fun e => hi (by rw [e]))⟩ ?_
    cases hv : nv'.ownBlock with
    | none => exact .inl rfl
    | some g => exact .inr (fun e => by injection e with e; exact hne g hv e)
  · refine (h.map.kept hg ?_).setCell hmt _
    intro e
    exact (hap mb e.symm).2 rfl
theorem TT.upd (h : TT T sv base w tb mb nv ns f n) {f' : Nat → UInt8 → Option Nat} {n' : Nat} (hm : OM w' mb n' f') (hg : w.grownBy w' (some mb)) : TT T sv base w' tb mb nv ns f' n' := by
  obtain ⟨hap, hmt⟩ := h.apart
  have hb : Below base w w' := (Below.refl _ _).grown hg h.size (fun k hk => by injection hk with hk; subst hk; exact h.mlo)
  refine ⟨h.bs.below hb, (hg.block tb (lt_of_heap h.blk) (fun e => hmt (by injection e with e; exact e.symm))).trans h.blk, h.row.kept hg ?_, hm, h.tlo, h.mlo⟩
  cases hv : nv.ownBlock with
  | none => exact .inl rfl
  | some g => exact .inr (fun e => by injection e with e; exact (hap g hv).2 e)
/-- A node's field has been written. -/
theorem TT.put (h : TT T sv base w tb mb nv ns f n) {g o : Nat} {x : Value} {ns' : List Nd} (hnv : nv.ownBlock = some g) (hr : ON (w.setCell ⟨g, o, none⟩ x) base nv ns') : TT T sv base (w.setCell ⟨g, o, none⟩ x) tb mb nv ns' f n := by
  obtain ⟨hap, hmt⟩ := h.apart
  obtain ⟨h1, h2⟩ := hap g hnv
  have hbg := (World.ownsRow.lt h.row g hnv).1
  exact ⟨h.bs.below ((Below.refl _ _).setCell hbg _), (Below.heap_setCell _ _ _ _ (Ne.symm h1)).trans h.blk, hr, h.map.setCell (Ne.symm h2) _, h.tlo, h.mlo⟩
/-- A grower's field has been written. -/
theorem TT.far (h : TT T sv base w tb mb nv ns f n) {g o : Nat} {x : Value} {xs : Array Value} (hg : w.heap[g]? = some (.cells xs 61)) (hb : base ≤ g) : TT T sv base (w.setCell ⟨g, o, none⟩ x) tb mb nv ns f n := by
  have h1 : tb ≠ g := by
    intro e
    subst e
    rw [h.blk] at hg
    injection hg with hg
    injection hg with _ e2
    exact absurd e2 (by decide)
  have h2 : mb ≠ g := by
    intro e
    subst e
    obtain ⟨es, k, hm⟩ := h.map.obj
    rw [hm] at hg
    injection hg with hg
    cases hg
  refine ⟨h.bs.below ((Below.refl _ _).setCell hb _), (Below.heap_setCell _ _ _ _ h1).trans h.blk, ?_, h.map.setCell h2 _, h.tlo, h.mlo⟩
  refine h.row.kept (row := some g) ⟨rfl, rfl, rfl, by simp [World.setCell], fun i _ hi => Below.heap_setCell _ _ _ _ (fun e => hi (by rw [e]))⟩ ?_
  have hr := h.row
  unfold ON World.ownsRow at hr
  rcases hr.2 with ⟨rfl, hn⟩ | ⟨g', cap, cur, rfl, hbg, hg', -⟩
  · exact .inl rfl
  · refine .inr (fun e => ?_)
    simp only [Value.ownBlock, Option.some.injEq] at e
    subst e
    rw [hg] at hg'
    injection hg' with hg'
    injection hg' with _ e2
    exact absurd e2 (by decide)
end
section
variable {w : World} {gb : Nat} {a b c d : Int}
theorem GV.cells (h : GV w gb a b c d) : (w.cell? ⟨gb, 0, none⟩ = some (.int .i64 a) ∧ w.cell? ⟨gb, 1, none⟩ = some (.int .i64 b) ∧ w.cell? ⟨gb, 2, none⟩ = some (.int .i64 c) ∧ w.cell? ⟨gb, 3, none⟩ = some (.int .i64 d)) ∧ ∀ i, w.frozen? ⟨gb, i, none⟩ = false := by
  unfold GV at h
  refine ⟨⟨?_, ?_, ?_, ?_⟩, fun i => ?_⟩
  · rw [cell_of_row w gb 0 _ _ _ h]; rfl
  · rw [cell_of_row w gb 1 _ _ _ h]; rfl
  · rw [cell_of_row w gb 2 _ _ _ h]; rfl
  · rw [cell_of_row w gb 3 _ _ _ h]; rfl
  · simp [World.frozen?, h]
theorem GV.kept {w' : World} (h : GV w gb a b c d) (hk : KeptG w w') : GV w' gb a b c d := hk _ _ h
theorem GV.set0 (h : GV w gb a b c d) (x : Int) : GV (w.setCell ⟨gb, 0, none⟩ (.int .i64 x)) gb x b c d := by
  unfold GV at h ⊢
  rw [heap_setCell_same w gb 0 _ _ _ h]; rfl
theorem GV.set1 (h : GV w gb a b c d) (x : Int) : GV (w.setCell ⟨gb, 1, none⟩ (.int .i64 x)) gb a x c d := by
  unfold GV at h ⊢
  rw [heap_setCell_same w gb 1 _ _ _ h]; rfl
theorem GV.set2 (h : GV w gb a b c d) (x : Int) : GV (w.setCell ⟨gb, 2, none⟩ (.int .i64 x)) gb a b x d := by
  unfold GV at h ⊢
  rw [heap_setCell_same w gb 2 _ _ _ h]; rfl
theorem GV.set3 (h : GV w gb a b c d) (x : Int) : GV (w.setCell ⟨gb, 3, none⟩ (.int .i64 x)) gb a b c x := by
  unfold GV at h ⊢
  rw [heap_setCell_same w gb 3 _ _ _ h]; rfl
end
end Go.Proofs.Ytmggknoaiaeojaa
