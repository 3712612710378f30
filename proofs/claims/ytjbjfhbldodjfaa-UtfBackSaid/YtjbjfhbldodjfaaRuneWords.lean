/- What is proved here: words for slices of runes in memory over this translation (a slice that reads as a list of runes; a row of runes of the call's own), how they are kept, what append makes of them, . -/
import Derived.Test.YtjbjfhbldodjfaaRows
import Derived.Test.YtjbjfhbldodjfaaLebWords
import Derived.WalkKit
import Derived.WalkSpells
import Derived.WalkLawsBesides
import Derived.Below
import Derived.Lib.Hide
import Derived.Maps.AppendAt
import Derived.Deep.AppendLies
import Derived.Deep.Draws
import Derived.OwnWalk
import Derived.Laws.BytesArg
import Derived.OpenShut
import Derived.Lib.SlBytesConst
namespace Go.Proofs.Ytjbjfhbldodjfaa
open Go.RowKit

/-- A byte as a value. -/
def vR (b : Int) : Value := .int .i32 b
def vRs (l : List Int) : List Value := l.map vR

/-- A row of bytes of the call's own, from block 'base' on. -/
def OR (w : World) (base : Nat) (v : Value) (l : List Int) : Prop := w.ownsRow base 21 1 v l.length (vRs l)

/-- A slice that reads as the bytes l; it lies below block B. -/
def RS (w : World) (B : Nat) (v : Value) (l : List Int) : Prop :=
  ∃ A c, v = .slice A l.length c ∧ l.length ≤ c ∧ c ≤ maxLen ∧
    (0 < l.length → ∃ ad, A = some ad ∧ ad.block < B ∧ ∀ j b, l[j]? = some b → w.cell? (ad.add j) = some (vR b))

theorem vRs_one (l : List Int) : ∀ u ∈ vRs l, u.oneCell' = true := by
  intro u hu
  unfold vRs at hu
  rw [List.mem_map] at hu
  obtain ⟨b, _, rfl⟩ := hu
  rfl

section
variable {w w' : World} {B B' base : Nat} {v : Value} {l : List Int}
theorem RS.keep (h : RS w B v l) (hk : ∀ p : Addr, p.block < B → w'.cell? p = w.cell? p) : RS w' B v l := by
  obtain ⟨A, c, hv, h1, h2, h3⟩ := h
  refine ⟨A, c, hv, h1, h2, fun hl => ?_⟩
  obtain ⟨ad, hA, hb, hc⟩ := h3 hl
  exact ⟨ad, hA, hb, fun j b hj => (hk _ (by rw [block_add]; exact hb)).trans (hc j b hj)⟩
theorem RS.below (h : RS w B v l) (hb : Below B w w') : RS w' B v l := h.keep fun _ hp => hb.cell hp
theorem RS.more (h : RS w B v l) (hB : B ≤ B') : RS w B' v l := by
  obtain ⟨A, c, hv, h1, h2, h3⟩ := h
  refine ⟨A, c, hv, h1, h2, fun hl => ?_⟩
  obtain ⟨ad, hA, hb, hc⟩ := h3 hl
  exact ⟨ad, hA, by omega, hc⟩
theorem RS.alloc (h : RS w B v l) (hB : B ≤ w.heap.size) (o : Obj) : RS (w.alloc o) B v l := h.keep fun p hp => World.cell?_alloc_lt w o p (by omega)
theorem RS.nil (w : World) (B : Nat) : RS w B (.slice none 0 0) [] := ⟨none, 0, rfl, by simp, by simp [maxLen], fun h => absurd h (by simp)⟩
theorem RS.at_ (h : RS w B v l) : ∃ A c, v = .slice A l.length c ∧ l.length ≤ c ∧ c ≤ maxLen ∧
    ∀ k (hk : k < l.length), ∃ ad, A = some ad ∧ w.cell? (ad.add k) = some (vR (l[k]'hk)) := by
  obtain ⟨A, c, hv, h1, h2, h3⟩ := h
  refine ⟨A, c, hv, h1, h2, fun k hk => ?_⟩
  obtain ⟨ad, hA, _, hc⟩ := h3 (by omega)
  exact ⟨ad, hA, hc k _ (List.getElem?_eq_getElem hk)⟩

theorem OR.nil (w : World) (base : Nat) : OR w base (.slice none 0 0) [] := World.ownsRow_nil w base _ _
theorem OR.below (h : OR w base v l) (hb : Below w.heap.size w w') : OR w' base v l := by
  have hg : w.grownBy w' none := ⟨hb.os, hb.tape, hb.output, hb.size, fun i hi _ => hb.block i hi⟩
  unfold OR at h ⊢
  refine h.kept hg ?_
  cases hv : v.ownBlock with
  | none => exact Or.inl rfl
  | some k => exact Or.inr (by simp)
theorem OR.bs (h : OR w base v l) : RS w w.heap.size v l := by
  unfold OR at h
  rcases h.2 with ⟨rfl, hn⟩ | ⟨g, cap, cur, rfl, hbg, hg, hnc, hcm, hcs, htake⟩
  · have : l = [] := List.eq_nil_of_length_eq_zero hn
    subst this
    exact RS.nil w _
  · have hlt : g < w.heap.size := by
      rcases Nat.lt_or_ge g w.heap.size with hh | hh
      · exact hh
      · rw [Array.getElem?_eq_none hh] at hg; cases hg
    refine ⟨_, cap, rfl, hnc, hcm, fun _ => ⟨_, rfl, hlt, fun j b hj => ?_⟩⟩
    refine h.cells (g := g) rfl j (vR b) ?_
    unfold vRs
    rw [List.getElem?_map, hj]; rfl
end

/-- A part of a slice. -/
theorem RS.cut {w : World} {B : Nat} {A : Option Addr} {n c : Nat} {l : List Int} (h : RS w B (.slice A n c) l) (k m j : Nat) (hk : k + m ≤ l.length) (hj : j = m) :
    RS w B (.slice (if c = k then A else Option.map (fun x => x.add k) A) j (c - k)) ((l.drop k).take m) := by
  subst hj
  obtain ⟨A', c', hv, h1, h2, h3⟩ := h
  simp only [Value.slice.injEq] at hv
  obtain ⟨rfl, rfl, rfl⟩ := hv
  have hlen : ((l.drop k).take j).length = j := by simp; omega
  refine ⟨_, c - k, by rw [hlen], by rw [hlen]; omega, by omega, fun hl => ?_⟩
  rw [hlen] at hl
  obtain ⟨ad, rfl, hb, hc⟩ := h3 (by omega)
  rw [if_neg (by omega)]
  refine ⟨ad.add k, rfl, by rw [block_add]; exact hb, fun i b hi => ?_⟩
  rw [add_add]
  refine hc _ b ?_
  rw [List.getElem?_take] at hi
  split at hi
  · rw [List.getElem?_drop] at hi; exact hi
  · cases hi
theorem RS.cutH {w : World} {B : Nat} {A : Option Addr} {n c : Nat} {l : List Int} (h : RS w B (.slice A n c) l) (m j : Nat) (hk : m ≤ l.length) (hj : j = m) :
    RS w B (.slice A j c) (l.take m) := by
  obtain ⟨A', c', hv, h1, h2, h3⟩ := h
  simp only [Value.slice.injEq] at hv
  obtain ⟨rfl, rfl, rfl⟩ := hv
  subst hj
  have hlen : (l.take j).length = j := by simp; omega
  refine ⟨A, c, by rw [hlen], by omega, h2, fun hl => ?_⟩
  rw [hlen] at hl
  obtain ⟨ad, rfl, hb, hc⟩ := h3 (by omega)
  refine ⟨ad, rfl, hb, fun i b hi => ?_⟩
  refine hc _ b ?_
  rw [List.getElem?_take] at hi
  split at hi
  · exact hi
  · cases hi

/-- A slice of one byte that has just been laid. -/
theorem RS.one (w : World) (b : Int) (t : TypeId) : RS (w.alloc (.cells #[vR b] t)) (w.heap.size + 1) (.slice (some ⟨w.heap.size, 0, none⟩) 1 1) [b] := by
  refine ⟨_, 1, rfl, by simp, by simp [maxLen], fun _ => ⟨_, rfl, by simp, fun j c hj => ?_⟩⟩
  match j, hj with
  | 0, hj =>
    simp at hj
    subst hj
    simp [Addr.add]

theorem OR.alloc {w : World} {base : Nat} {v : Value} {l : List Int} (h : OR w base v l) (o : Obj) : OR (w.alloc o) base v l := World.ownsRow.alloc h o

/-- A slice that has just been laid, its bytes written out. -/
theorem RS.lit (w : World) (l : List Int) (n : Nat) (cs : Array Value) (t : TypeId) (hn : n = l.length) (hcs : cs = (vRs l).toArray) (hm : l.length ≤ 1048576) :
    RS (w.alloc (.cells cs t)) (w.heap.size + 1) (.slice (some ⟨w.heap.size, 0, none⟩) n n) l := by
  subst hn
  subst hcs
  refine ⟨_, _, rfl, by simp, by simp [maxLen]; omega, fun _ => ⟨_, rfl, by simp, fun j b hj => ?_⟩⟩
  have h := World.news_of_block (heap_alloc_new w (.cells (vRs l).toArray t)) j (vR b)
  exact h (by simp [vRs, hj])

/-- The same of a constant string's bytes: the row bears a mark. -/
theorem RS.litM (w : World) (l : List Int) (n : Nat) (cs : Array Value) (t : TypeId) (fr : Nat × Nat) (hn : n = l.length) (hcs : cs = (vRs l).toArray) (hm : l.length ≤ 1048576) :
    RS (w.alloc (.cells cs t fr)) (w.heap.size + 1) (.slice (some ⟨w.heap.size, 0, none⟩) n n) l := by
  subst hn
  subst hcs
  refine ⟨_, _, rfl, by simp, by simp [maxLen]; omega, fun _ => ⟨_, rfl, by simp, fun j b hj => ?_⟩⟩
  have h := World.news_of_block (heap_alloc_new w (.cells (vRs l).toArray t fr)) j (vR b)
  exact h (by simp [vRs, hj])

/-- A row of runes that came in. -/
theorem rs_row {W : World} {a : Addr} {len cap : Nat} {zs : List Int} (hl : len ≤ cap) (hm : cap ≤ maxLen) (hz : zs.length = cap)
    (hcell : ∀ i, i < zs.length → W.cell? (a.add i) = some (.int .i32 (zs.getD i 0))) (hwz : ∀ n ∈ zs, (Lit.int .i32 n).wf = true) : ∃ l, RS W W.heap.size (.slice (some a) len cap) l ∧ ∀ n ∈ l, (Lit.int .i32 n).wf = true := by
  have hlen : (zs.take len).length = len := by simp; omega
  refine ⟨zs.take len, ⟨_, cap, by rw [hlen], by rw [hlen]; exact hl, hm, fun h0 => ⟨a, rfl, ?_, fun j b hj => ?_⟩⟩, fun n hn => hwz n (List.mem_of_mem_take hn)⟩
  · rw [hlen] at h0
    have h := hcell 0 (by omega)
    rw [show a.add 0 = a from by simp [Addr.add]] at h
    rcases Nat.lt_or_ge a.block W.heap.size with hh | hh
    · exact hh
    · simp [World.cell?, Array.getElem?_eq_none hh] at h
  · have hj1 : j < len := by
      rcases Nat.lt_or_ge j len with hh | hh
      · exact hh
      · rw [List.getElem?_eq_none (by rw [hlen]; exact hh)] at hj; cases hj
    have hj2 : j < zs.length := by omega
    rw [hcell j hj2]
    rw [List.getElem?_take, if_pos hj1, List.getElem?_eq_getElem hj2] at hj
    injection hj with hj
    subst hj
    simp [vR, List.getD, List.getElem?_eq_getElem hj2]

theorem runeInfo : (Try.prog.info? 21).map (fun i => (i.zero, i.size, i.bytes)) = some (some (.int .i32 0), 1, 4) := by kernel_rfl

/-- append onto a row of the call's own, of whatever bytes. -/
theorem run_appR (w : World) (ty : TypeId) {base B : Nat} {v u : Value} {l m : List Int} (hown : OR w base v l) (hr : RS w B u m) (hlen : l.length + m.length ≤ 1099511627776) (hbase : base ≤ w.heap.size) :
    ∃ v' w', (Builtin.append_ #[26, 26] ty #[v, u]).run Try.prog w = .ok v' w' ∧ OR w' base v' (l ++ m) ∧ w.grownBy w' v.ownBlock ∧ Below base w w' ∧ (v'.ownBlock = v.ownBlock ∨ v'.ownBlock = some w.heap.size) := by
  obtain ⟨i0, hi0, hz0, hz1, hz2⟩ := info_parts runeInfo
  have hlt := World.ownsRow.lt hown
  have hfin : ∀ v' w', w'.ownsRow base 21 1 v' (l.length + m.length) (vRs l ++ vRs m) → OR w' base v' (l ++ m) := by
    intro v' w' h
    unfold OR vRs
    rw [List.length_append, List.map_append]
    exact h
  obtain ⟨A, c, rfl, h1, h2, h3⟩ := hr
  rcases Nat.eq_zero_or_pos m.length with h0 | h0
  · have hm : m = [] := List.eq_nil_of_length_eq_zero h0
    subst hm
    refine ⟨v, w, ?_, by simpa using hown, World.grownBy.refl w _, Below.refl _ _, .inl rfl⟩
    rcases hown.2 with ⟨rfl, hn⟩ | ⟨g, cap, cur, rfl, _, _, hnc, _⟩
    · cases A <;> simp [Builtin.append_, run_underlying Try.underlying26, sizeOf, typeInfo, hi0, Builtin.lenOf, Builtin.firstCells, loadCells, loadCellsFrom]
    · cases A <;> simp [Builtin.append_, run_underlying Try.underlying26, sizeOf, typeInfo, hi0, Builtin.lenOf, Builtin.firstCells, hnc, storeCells, loadCells, loadCellsFrom]
  · obtain ⟨ad, rfl, hb, hc⟩ := h3 h0
    obtain ⟨v', w', hrun, h4, h5, _, h6⟩ := run_append_own_at (P := Try.prog) w base 26 ty 21 i0 _ 1 4 Try.underlying26 hi0 hz0 hz1 hz2 rfl (by omega) v l.length (vRs l) hown ad m.length c (vRs m) (by simp [vRs])
      (fun j u hj => by
        unfold vRs at hj
        rw [List.getElem?_map] at hj
        cases hmj : m[j]? with
        | none => rw [hmj] at hj; cases hj
        | some b =>
          rw [hmj] at hj
          injection hj with hj
          subst hj
          exact hc j b hmj)
      (vRs_one m) (by simp only [maxLen]; omega) (by omega) hbase
    exact ⟨v', w', hrun, hfin v' w' h4, h5, (Below.refl _ _).grown h5 hbase (fun k hk => (hlt k hk).1), h6⟩

/-- The same at the operation, for the walk. -/
theorem wpl_appR (w : World) {ops : Array Oper} {rest : List Oper} {o : Oper} {a : Act} {Q : Exit → Act → World → Prop} (hgd : o.guard = none) (s x : Operand)
    (ho : o.op = .call { callee := .builtin .append, args := #[s, x], argTypes := #[26, 26] })
    (base B : Nat) (v u : Value) (l m : List Int) (hs : a.eval s = v) (hx : a.eval x = u) (hown : OR w base v l) (hr : RS w B u m) (hlen : l.length + m.length ≤ 1099511627776) (hbase : base ≤ w.heap.size)
    (h : ∀ v' w', OR w' base v' (l ++ m) → w.grownBy w' v.ownBlock → Below base w w' → (v'.ownBlock = v.ownBlock ∨ v'.ownBlock = some w.heap.size) → wpList Try.prog ops Q rest (a.put o.dst v') w') :
    wpList Try.prog ops Q (o :: rest) a w := by
  refine wpList_plain hgd fun K hK => ?_
  obtain ⟨v', w', hrun, h2, h3, h4, h5⟩ := run_appR w o.type hown hr hlen hbase
  unfold Oper.wp execOp
  simp only [ho, resolve, invoke, builtin, Sem.run_bind, Sem.run_pure, Result.andThen_ok, List.map_toArray, List.map_cons, List.map_nil, hs, hx, hrun]
  exact hK _ _ (h v' w' h2 h3 h4 h5)

end Go.Proofs.Ytjbjfhbldodjfaa
