/- What is proved here: words for slices of bytes in memory over this translation (a slice that reads as a list of bytes; a row of bytes of the call's own), how they are kept, what append makes of them, what they are as a string; words for a row of bytes of the call's own that is made by make or written at a place: what it reads as behind it; no function of the program is named; plain facts on cells and the document's grid calls: what comes of a grid, place by place; no program is named; words for slices of cells in memory over this translation (a slice that reads as a list of cells; a row of cells of the call's own), how they are kept, what append makes of them, what a store makes of them; contracts of the document's small functions on grids of cells: a blank cell, a copy, which rows a grid has, which places it has; the contract of the document's Blank: a grid of blanks, of each size that may be; the contract of the document's Up; the contract of the document's Mend; the contracts of the document's Mend (any arguments), Insert, Delete, Erase; the contracts of the document's Delete, Erase, and of Insert, of any arguments; plain facts on grids: which rows have no half alone, that each of the document's calls keeps it so, what goes up and down again, what is made greater and as it was again; no program is named; the contract of the document's Size, of any arguments. -/
import Derived.Test.YtejemcpkmfhenaaRows
import Derived.Test.YtejemcpkmfhenaaLebPlain
import Derived.WalkKit
import Derived.WalkSpells
import Derived.WalkLawsBesides
import Derived.Below
import Derived.Lib.Hide
import Derived.Maps.AppendAt
import Derived.Deep.AppendLies
import Derived.Deep.Draws
import Derived.OwnWalk
import Derived.Laws.BytesArg
import Derived.OpenShut
import Derived.Lib.SlBytesConst
import Derived.Laws.OwnMore
import Derived.Laws.MakeOwn
import Derived.Deep.OwnRows
import Derived.Deep.QuietTactic
import Derived.BigQuiet
import Derived.Deep.DeepCutAuto
import Derived.Deep.CutRange
import Derived.Laws.Cover3
namespace Go.Proofs.Ytejemcpkmfhenaa
open Go.RowKit

/-- A byte as a value. -/
def vB (b : UInt8) : Value := .int .u8 (b.toNat : Int)
def vBs (l : List UInt8) : List Value := l.map vB

/-- A row of bytes of the call's own, from block 'base' on. -/
def OB (w : World) (base : Nat) (v : Value) (l : List UInt8) : Prop := w.ownsRow base 5 1 v l.length (vBs l)

/-- A slice that reads as the bytes l; it lies below block B. -/
def BS (w : World) (B : Nat) (v : Value) (l : List UInt8) : Prop :=
  ∃ A c, v = .slice A l.length c ∧ l.length ≤ c ∧ c ≤ maxLen ∧
    (0 < l.length → ∃ ad, A = some ad ∧ ad.block < B ∧ ∀ j b, l[j]? = some b → w.cell? (ad.add j) = some (vB b))

theorem block_add (a : Addr) (n : Nat) : (a.add n).block = a.block := by unfold Addr.add; split <;> rfl
theorem add_add (a : Addr) (i j : Nat) : (a.add i).add j = a.add (i + j) := by
  unfold Addr.add
  by_cases hi : i = 0 <;> by_cases hj : j = 0 <;> simp [hi, hj, Nat.add_assoc]

theorem vBs_one (l : List UInt8) : ∀ u ∈ vBs l, u.oneCell' = true := by
  intro u hu
  unfold vBs at hu
  rw [List.mem_map] at hu
  obtain ⟨b, _, rfl⟩ := hu
  rfl

section
variable {w w' : World} {B B' base : Nat} {v : Value} {l : List UInt8}
theorem BS.keep (h : BS w B v l) (hk : ∀ p : Addr, p.block < B → w'.cell? p = w.cell? p) : BS w' B v l := by
  obtain ⟨A, c, hv, h1, h2, h3⟩ := h
  refine ⟨A, c, hv, h1, h2, fun hl => ?_⟩
  obtain ⟨ad, hA, hb, hc⟩ := h3 hl
  exact ⟨ad, hA, hb, fun j b hj => (hk _ (by rw [block_add]; exact hb)).trans (hc j b hj)⟩
theorem BS.below (h : BS w B v l) (hb : Below B w w') : BS w' B v l := h.keep fun _ hp => hb.cell hp
theorem BS.more (h : BS w B v l) (hB : B ≤ B') : BS w B' v l := by
  obtain ⟨A, c, hv, h1, h2, h3⟩ := h
  refine ⟨A, c, hv, h1, h2, fun hl => ?_⟩
  obtain ⟨ad, hA, hb, hc⟩ := h3 hl
  exact ⟨ad, hA, by omega, hc⟩
theorem BS.alloc (h : BS w B v l) (hB : B ≤ w.heap.size) (o : Obj) : BS (w.alloc o) B v l := h.keep fun p hp => World.cell?_alloc_lt w o p (by omega)
theorem BS.nil (w : World) (B : Nat) : BS w B (.slice none 0 0) [] := ⟨none, 0, rfl, by simp, by simp [maxLen], fun h => absurd h (by simp)⟩
theorem BS.at_ (h : BS w B v l) : ∃ A c, v = .slice A l.length c ∧ l.length ≤ c ∧ c ≤ maxLen ∧
    ∀ k (hk : k < l.length), ∃ ad, A = some ad ∧ w.cell? (ad.add k) = some (vB (l[k]'hk)) := by
  obtain ⟨A, c, hv, h1, h2, h3⟩ := h
  refine ⟨A, c, hv, h1, h2, fun k hk => ?_⟩
  obtain ⟨ad, hA, _, hc⟩ := h3 (by omega)
  exact ⟨ad, hA, hc k _ (List.getElem?_eq_getElem hk)⟩

theorem OB.nil (w : World) (base : Nat) : OB w base (.slice none 0 0) [] := World.ownsRow_nil w base _ _
theorem OB.below (h : OB w base v l) (hb : Below w.heap.size w w') : OB w' base v l := by
  have hg : w.grownBy w' none := ⟨hb.os, hb.tape, hb.output, hb.size, fun i hi _ => hb.block i hi⟩
  unfold OB at h ⊢
  refine h.kept hg ?_
  cases hv : v.ownBlock with
  | none => exact Or.inl rfl
  | some k => exact Or.inr (by simp)
theorem OB.bs (h : OB w base v l) : BS w w.heap.size v l := by
  unfold OB at h
  rcases h.2 with ⟨rfl, hn⟩ | ⟨g, cap, cur, rfl, hbg, hg, hnc, hcm, hcs, htake⟩
  · have : l = [] := List.eq_nil_of_length_eq_zero hn
    subst this
    exact BS.nil w _
  · have hlt : g < w.heap.size := by
      rcases Nat.lt_or_ge g w.heap.size with hh | hh
      · exact hh
      · rw [Array.getElem?_eq_none hh] at hg; cases hg
    refine ⟨_, cap, rfl, hnc, hcm, fun _ => ⟨_, rfl, hlt, fun j b hj => ?_⟩⟩
    refine h.cells (g := g) rfl j (vB b) ?_
    unfold vBs
    rw [List.getElem?_map, hj]; rfl
end

/-- A part of a slice. -/
theorem BS.cut {w : World} {B : Nat} {A : Option Addr} {n c : Nat} {l : List UInt8} (h : BS w B (.slice A n c) l) (k m j : Nat) (hk : k + m ≤ l.length) (hj : j = m) :
    BS w B (.slice (if c = k then A else Option.map (fun x => x.add k) A) j (c - k)) ((l.drop k).take m) := by
  subst hj
  obtain ⟨A', c', hv, h1, h2, h3⟩ := h
  simp only [Value.slice.injEq] at hv
  obtain ⟨rfl, rfl, rfl⟩ := hv
  have hlen : ((l.drop k).take j).length = j := by simp; omega
  refine ⟨_, c - k, by rw [hlen], by rw [hlen]; omega, by omega, fun hl => ?_⟩
  rw [hlen] at hl
  obtain ⟨ad, rfl, hb, hc⟩ := h3 (by omega)
  rw [if_neg (by omega)]
  refine ⟨ad.add k, rfl, by rw [block_add]; exact hb, fun i b hi => ?_⟩
  rw [add_add]
  refine hc _ b ?_
  rw [List.getElem?_take] at hi
  split at hi
  · rw [List.getElem?_drop] at hi; exact hi
  · cases hi
theorem BS.cutH {w : World} {B : Nat} {A : Option Addr} {n c : Nat} {l : List UInt8} (h : BS w B (.slice A n c) l) (m j : Nat) (hk : m ≤ l.length) (hj : j = m) :
    BS w B (.slice A j c) (l.take m) := by
  obtain ⟨A', c', hv, h1, h2, h3⟩ := h
  simp only [Value.slice.injEq] at hv
  obtain ⟨rfl, rfl, rfl⟩ := hv
  subst hj
  have hlen : (l.take j).length = j := by simp; omega
  refine ⟨A, c, by rw [hlen], by omega, h2, fun hl => ?_⟩
  rw [hlen] at hl
  obtain ⟨ad, rfl, hb, hc⟩ := h3 (by omega)
  refine ⟨ad, rfl, hb, fun i b hi => ?_⟩
  refine hc _ b ?_
  rw [List.getElem?_take] at hi
  split at hi
  · exact hi
  · cases hi

/-- A slice of one byte that has just been laid. -/
theorem BS.one (w : World) (b : UInt8) (t : TypeId) : BS (w.alloc (.cells #[vB b] t)) (w.heap.size + 1) (.slice (some ⟨w.heap.size, 0, none⟩) 1 1) [b] := by
  refine ⟨_, 1, rfl, by simp, by simp [maxLen], fun _ => ⟨_, rfl, by simp, fun j c hj => ?_⟩⟩
  match j, hj with
  | 0, hj =>
    simp at hj
    subst hj
    simp [Addr.add]

theorem vB_of (x : Int) (h0 : 0 ≤ x) (h1 : x < 256) : vB (UInt8.ofNat x.toNat) = .int .u8 x := by
  unfold vB
  rw [ofNat_toNat _ (by omega)]
  congr 1
  omega
theorem BS.one' (w : World) (x : Int) (h0 : 0 ≤ x) (h1 : x < 256) (t : TypeId) :
    BS (w.alloc (.cells #[.int .u8 x] t)) (w.heap.size + 1) (.slice (some ⟨w.heap.size, 0, none⟩) 1 1) [UInt8.ofNat x.toNat] := by
  rw [← vB_of x h0 h1]
  exact BS.one w _ t
theorem OB.alloc {w : World} {base : Nat} {v : Value} {l : List UInt8} (h : OB w base v l) (o : Obj) : OB (w.alloc o) base v l := World.ownsRow.alloc h o

/-- A slice that has just been laid, its bytes written out. -/
theorem BS.lit (w : World) (l : List UInt8) (n : Nat) (cs : Array Value) (t : TypeId) (hn : n = l.length) (hcs : cs = (vBs l).toArray) (hm : l.length ≤ 1048576) :
    BS (w.alloc (.cells cs t)) (w.heap.size + 1) (.slice (some ⟨w.heap.size, 0, none⟩) n n) l := by
  subst hn
  subst hcs
  refine ⟨_, _, rfl, by simp, by simp [maxLen]; omega, fun _ => ⟨_, rfl, by simp, fun j b hj => ?_⟩⟩
  have h := World.news_of_block (heap_alloc_new w (.cells (vBs l).toArray t)) j (vB b)
  exact h (by simp [vBs, hj])

/-- The same of a constant string's bytes: the row bears a mark. -/
theorem BS.litM (w : World) (l : List UInt8) (n : Nat) (cs : Array Value) (t : TypeId) (fr : Nat × Nat) (hn : n = l.length) (hcs : cs = (vBs l).toArray) (hm : l.length ≤ 1048576) :
    BS (w.alloc (.cells cs t fr)) (w.heap.size + 1) (.slice (some ⟨w.heap.size, 0, none⟩) n n) l := by
  subst hn
  subst hcs
  refine ⟨_, _, rfl, by simp, by simp [maxLen]; omega, fun _ => ⟨_, rfl, by simp, fun j b hj => ?_⟩⟩
  have h := World.news_of_block (heap_alloc_new w (.cells (vBs l).toArray t fr)) j (vB b)
  exact h (by simp [vBs, hj])

/-- A row of numbers that came in and fit a byte each. -/
theorem bs_row {W : World} {a : Addr} {len cap : Nat} {zs : List Int} (hl : len ≤ cap) (hm : cap ≤ maxLen) (hz : zs.length = cap)
    (hcell : ∀ i, i < zs.length → W.cell? (a.add i) = some (.int .u8 (zs.getD i 0))) (hwz : ∀ n ∈ zs, (Lit.int .u8 n).wf = true) : ∃ l, BS W W.heap.size (.slice (some a) len cap) l := by
  have hlen : ((zs.take len).map fun n => UInt8.ofNat n.toNat).length = len := by simp; omega
  refine ⟨(zs.take len).map fun n => UInt8.ofNat n.toNat, _, cap, by rw [hlen], by rw [hlen]; exact hl, hm, fun h0 => ⟨a, rfl, ?_, fun j b hj => ?_⟩⟩
  · rw [hlen] at h0
    have h := hcell 0 (by omega)
    rw [show a.add 0 = a from by simp [Addr.add]] at h
    rcases Nat.lt_or_ge a.block W.heap.size with hh | hh
    · exact hh
    · simp [World.cell?, Array.getElem?_eq_none hh] at h
  · have hj1 : j < len := by
      rcases Nat.lt_or_ge j len with hh | hh
      · exact hh
      · rw [List.getElem?_eq_none (by rw [hlen]; exact hh)] at hj; cases hj
    have hj2 : j < zs.length := by omega
    rw [hcell j hj2]
    rw [List.getElem?_map, List.getElem?_take, if_pos hj1, List.getElem?_eq_getElem hj2] at hj
    injection hj with hj
    subst hj
    have hw := bounds_u8 (hwz zs[j] (List.getElem_mem hj2))
    rw [vB_of zs[j] (by omega) (by omega)]
    simp [List.getD, List.getElem?_eq_getElem hj2]

theorem byteInfo : (Try.prog.info? 5).map (fun i => (i.zero, i.size, i.bytes)) = some (some (.int .u8 0), 1, 1) := by kernel_rfl

/-- append onto a row of the call's own, of whatever bytes. -/
theorem run_app (w : World) (ty : TypeId) {base B : Nat} {v u : Value} {l m : List UInt8} (hown : OB w base v l) (hr : BS w B u m) (hlen : l.length + m.length ≤ 1099511627776) (hbase : base ≤ w.heap.size) :
    ∃ v' w', (Builtin.append_ #[23, 23] ty #[v, u]).run Try.prog w = .ok v' w' ∧ OB w' base v' (l ++ m) ∧ w.grownBy w' v.ownBlock ∧ Below base w w' ∧ (v'.ownBlock = v.ownBlock ∨ v'.ownBlock = some w.heap.size) := by
  obtain ⟨i0, hi0, hz0, hz1, hz2⟩ := info_parts byteInfo
  have hlt := World.ownsRow.lt hown
  have hfin : ∀ v' w', w'.ownsRow base 5 1 v' (l.length + m.length) (vBs l ++ vBs m) → OB w' base v' (l ++ m) := by
    intro v' w' h
    unfold OB vBs
    rw [List.length_append, List.map_append]
    exact h
  obtain ⟨A, c, rfl, h1, h2, h3⟩ := hr
  rcases Nat.eq_zero_or_pos m.length with h0 | h0
  · have hm : m = [] := List.eq_nil_of_length_eq_zero h0
    subst hm
    refine ⟨v, w, ?_, by simpa using hown, World.grownBy.refl w _, Below.refl _ _, .inl rfl⟩
    rcases hown.2 with ⟨rfl, hn⟩ | ⟨g, cap, cur, rfl, _, _, hnc, _⟩
    · cases A <;> simp [Builtin.append_, run_underlying Try.underlying23, sizeOf, typeInfo, hi0, Builtin.lenOf, Builtin.firstCells, loadCells, loadCellsFrom]
    · cases A <;> simp [Builtin.append_, run_underlying Try.underlying23, sizeOf, typeInfo, hi0, Builtin.lenOf, Builtin.firstCells, hnc, storeCells, loadCells, loadCellsFrom]
  · obtain ⟨ad, rfl, hb, hc⟩ := h3 h0
    obtain ⟨v', w', hrun, h4, h5, _, h6⟩ := run_append_own_at (P := Try.prog) w base 23 ty 5 i0 _ 1 1 Try.underlying23 hi0 hz0 hz1 hz2 rfl (by omega) v l.length (vBs l) hown ad m.length c (vBs m) (by simp [vBs])
      (fun j u hj => by
        unfold vBs at hj
        rw [List.getElem?_map] at hj
        cases hmj : m[j]? with
        | none => rw [hmj] at hj; cases hj
        | some b =>
          rw [hmj] at hj
          simp only [Option.map_some, Option.some.injEq] at hj
          subst hj
          exact hc j b hmj)
      (vBs_one m) (by simp only [maxLen]; omega) (by omega) hbase
    exact ⟨v', w', hrun, hfin v' w' h4, h5, (Below.refl _ _).grown h5 hbase (fun k hk => (hlt k hk).1), h6⟩

/-- The same at the operation, for the walk. -/
theorem wpl_app (w : World) {ops : Array Oper} {rest : List Oper} {o : Oper} {a : Act} {Q : Exit → Act → World → Prop} (hgd : o.guard = none) (s x : Operand)
    (ho : o.op = .call { callee := .builtin .append, args := #[s, x], argTypes := #[23, 23] })
    (base B : Nat) (v u : Value) (l m : List UInt8) (hs : a.eval s = v) (hx : a.eval x = u) (hown : OB w base v l) (hr : BS w B u m) (hlen : l.length + m.length ≤ 1099511627776) (hbase : base ≤ w.heap.size)
    (h : ∀ v' w', OB w' base v' (l ++ m) → w.grownBy w' v.ownBlock → Below base w w' → (v'.ownBlock = v.ownBlock ∨ v'.ownBlock = some w.heap.size) → wpList Try.prog ops Q rest (a.put o.dst v') w') :
    wpList Try.prog ops Q (o :: rest) a w := by
  refine wpList_plain hgd fun K hK => ?_
  obtain ⟨v', w', hrun, h2, h3, h4, h5⟩ := run_app w o.type hown hr hlen hbase
  unfold Oper.wp execOp
  simp only [ho, resolve, invoke, builtin, Sem.run_bind, Sem.run_pure, Result.andThen_ok, List.map_toArray, List.map_cons, List.map_nil, hs, hx, hrun]
  exact hK _ _ (h v' w' h2 h3 h4 h5)

/-- A slice of bytes as a string. -/
def strB (l : List UInt8) : ByteArray := ⟨l.toArray⟩
theorem strB_toList (l : List UInt8) : (strB l).toList = l := by
  rw [ByteArray.toList_eq]
  rfl
theorem run_str {w : World} {B : Nat} {v : Value} {l : List UInt8} (h : BS w B v l) : (convert 23 9 v).run Try.prog w = .ok (.string (strB l)) w := by
  obtain ⟨A, c, rfl, h1, h2, h3⟩ := h
  rcases Nat.eq_zero_or_pos l.length with h0 | h0
  · have hm : l = [] := List.eq_nil_of_length_eq_zero h0
    subst hm
    cases A with
    | none => exact run_convert_bytes_nil w 23 5 Try.underlying23 Try.underlying5 _ _ 9 Try.underlying9
    | some ad =>
      rw [run_convert_bytes_string w 23 9 5 _ _ c Try.underlying23 Try.underlying5 Try.underlying9,
        run_bytesToString w ad [].length c [] (by simp [loadCells, loadCellsFrom])]
      rfl
  · obtain ⟨ad, rfl, _, hc⟩ := h3 h0
    have hl : (loadCells ad l.length).run Try.prog w = .ok ((l.map fun b => (b.toNat : Int)).map (Value.int .u8)).toArray w := by
      have := run_loadCells_list (P := Try.prog) w ad (vBs l) (fun j u hj => by
        unfold vBs at hj
        rw [List.getElem?_map] at hj
        cases hmj : l[j]? with
        | none => rw [hmj] at hj; cases hj
        | some b =>
          rw [hmj] at hj
          simp only [Option.map_some, Option.some.injEq] at hj
          subst hj
          exact hc j b hmj)
      have e : (l.map fun b => (b.toNat : Int)).map (Value.int .u8) = vBs l := by simp [vBs, vB]
      rw [e]
      simpa [vBs] using this
    rw [run_convert_bytes_string w 23 9 5 _ _ c Try.underlying23 Try.underlying5 Try.underlying9, run_bytesToString w ad _ c _ hl, foldl_push_bytes]
    congr 2
    simp [strB, Function.comp_def]
end Go.Proofs.Ytejemcpkmfhenaa

namespace Go.Proofs.Ytejemcpkmfhenaa
open Go.RowKit

theorem BS.cellC {w : World} {B n c : Nat} {A : Option Addr} {l : List UInt8} (h : BS w B (.slice A n c) l) (k : Nat) (hk : k < l.length) : ∃ ad, A = some ad ∧ w.cell? (ad.add k) = some (vB l[k]) := by
  obtain ⟨A', c', hv, _, _, h3⟩ := h.at_
  simp only [Value.slice.injEq] at hv
  obtain ⟨rfl, _, _⟩ := hv
  exact h3 k hk
theorem BS.blockC {w : World} {B n c : Nat} {ad : Addr} {l : List UInt8} (h : BS w B (.slice (some ad) n c) l) (hl : 0 < l.length) : ad.block < B := by
  obtain ⟨A', c', hv, _, _, h3⟩ := h
  simp only [Value.slice.injEq] at hv
  obtain ⟨hA, _, _⟩ := hv
  obtain ⟨ad', hA', hb, _⟩ := h3 hl
  rw [hA'] at hA
  injection hA with hA
  rw [hA]
  exact hb
section
variable {w : World} {base g n cap : Nat} {l : List UInt8}
theorem OB.len (h : OB w base (.slice (some ⟨g, 0, none⟩) n cap) l) : n = l.length := by
  unfold OB at h
  rcases h.2 with ⟨hv, _⟩ | ⟨g', cap', cur, hv, _⟩
  · cases hv
  · simp only [Value.slice.injEq] at hv
    exact hv.2.1
theorem OB.cellAt (h : OB w base (.slice (some ⟨g, 0, none⟩) l.length cap) l) (j : Nat) (hj : j < l.length) : w.cell? ⟨g, j, none⟩ = some (vB l[j]) := by
  unfold OB at h
  rw [World.ownsRow.cellAt h j (by omega)]
  simp [vBs, hj]
theorem OB.frozenAt (h : OB w base (.slice (some ⟨g, 0, none⟩) l.length cap) l) (j : Nat) : w.frozen? ⟨g, j, none⟩ = false := World.ownsRow.frozenAt h j
theorem OB.stored (h : OB w base (.slice (some ⟨g, 0, none⟩) l.length cap) l) (j : Nat) (x : UInt8) : OB (w.setCell ⟨g, j, none⟩ (vB x)) base (.slice (some ⟨g, 0, none⟩) l.length cap) (l.set j x) := by
  have := (World.ownsRow.stored h j (vB x)).1
  unfold OB
  rw [List.length_set]
  have e : vBs (l.set j x) = (vBs l).set j (vB x) := by simp [vBs, List.map_set]
  rw [e]
  exact this
theorem OB.block (h : OB w base (.slice (some ⟨g, 0, none⟩) n cap) l) : base ≤ g ∧ g < w.heap.size := World.ownsRow.lt h g rfl
end

theorem madeZ (n : Nat) : madeCells #[.int .u8 0] n = (vBs (List.replicate n 0)).toArray := by
  apply Array.ext_getElem?
  intro i
  simp only [madeCells, vBs, List.map_replicate, List.getElem?_toArray, Array.getElem?_map]
  by_cases h : i < n
  · simp [h, vB, Nat.mod_one]
  · simp [h]
theorem OB.made (w : World) (n : Nat) (hm : n ≤ 1048576) : OB (w.alloc (.cells (madeCells #[.int .u8 0] n) 5)) w.heap.size (.slice (some ⟨w.heap.size, 0, none⟩) n n) (List.replicate n 0) := by
  have := World.ownsRow_lit (base := w.heap.size) (e := 5) (size := 1) w (madeCells #[.int .u8 0] n) n (Nat.le_refl _) (by simp [maxLen]; omega) (by rw [size_madeCells]; omega)
  unfold OB
  rw [List.length_replicate]
  rw [madeZ] at this ⊢
  exact this
theorem run_makeB (n : Nat) (hn : n ≤ 1048576) (w : World) :
    (Instr.makeSlice 23 (.int .i64 (n : Int)) (.int .i64 (n : Int))).run Try.prog w = .ok (.slice (some ⟨w.heap.size, 0, none⟩) n n) (w.alloc (.cells (madeCells #[.int .u8 0] n) 5)) :=
  run_make_row' 23 5 (.int .u8 0) 1 Try.underlying23 byteInfo rfl .i64 .i64 n (by omega) (by omega) w
end Go.Proofs.Ytejemcpkmfhenaa

namespace Go.Proofs.Ytejemcpkmfhenaa

/-- A cell. -/
structure Cl where
  r : Int
  a : Nat
  h : Nat
deriving DecidableEq
def blankC : Cl := ⟨32, 0, 0⟩
/-- From lo to hi (not hi itself) each place's cell is f's. -/
def fillL (l : List Cl) (f : Nat → Cl) (lo hi : Nat) : List Cl := l.mapIdx fun i c => if lo ≤ i ∧ i < hi then f i else c
theorem fillL_len (l : List Cl) (f : Nat → Cl) (lo hi : Nat) : (fillL l f lo hi).length = l.length := by simp [fillL]
theorem fillL_get (l : List Cl) (f : Nat → Cl) (lo hi i : Nat) : (fillL l f lo hi)[i]? = if i < l.length then (if lo ≤ i ∧ i < hi then some (f i) else l[i]?) else none := by
  unfold fillL
  rw [List.getElem?_mapIdx]
  by_cases hi2 : i < l.length
  · rw [if_pos hi2, List.getElem?_eq_getElem hi2]
    simp only [Option.map_some]
    split <;> rfl
  · rw [if_neg hi2, List.getElem?_eq_none (by omega)]
    rfl
theorem fillL_none (l : List Cl) (f : Nat → Cl) (lo hi : Nat) (h : hi ≤ lo) : fillL l f lo hi = l := by
  apply List.ext_getElem?
  intro i
  rw [fillL_get]
  split
  · rw [if_neg (by omega)]
  · rename_i hh; rw [List.getElem?_eq_none (by omega)]
theorem fillL_set (l : List Cl) (f : Nat → Cl) (lo m : Nat) (c : Cl) (h1 : lo ≤ m) (hc : c = f m) : (fillL l f lo m).set m c = fillL l f lo (m + 1) := by
  subst hc
  apply List.ext_getElem?
  intro i
  rw [List.getElem?_set, fillL_len, fillL_get, fillL_get]
  by_cases e : m = i
  · subst e
    rw [if_pos rfl]
    by_cases hl : m < l.length
    · rw [if_pos hl, if_pos hl, if_pos (by omega)]
    · rw [if_neg hl, if_neg hl]
  · rw [if_neg e]
    split
    · by_cases hr : lo ≤ i ∧ i < m
      · rw [if_pos hr, if_pos (by omega)]
      · rw [if_neg hr, if_neg (by omega)]
    · rfl
theorem fillL_skip (l : List Cl) (f : Nat → Cl) (lo m : Nat) (hc : l[m]? = some (f m)) : fillL l f lo m = fillL l f lo (m + 1) := by
  apply List.ext_getElem?
  intro i
  rw [fillL_get, fillL_get]
  split
  · by_cases hr : lo ≤ i ∧ i < m
    · rw [if_pos hr, if_pos (by omega)]
    · by_cases hr2 : lo ≤ i ∧ i < m + 1
      · have e : i = m := by omega
        rw [if_neg hr, if_pos hr2, e, hc]
      · rw [if_neg hr, if_neg hr2]
  · rfl

/-- Has a grid of n cells such rows? -/
def gOk (n : Nat) (cols : Int) : Bool := decide (1 ≤ cols ∧ cols ≤ 1000 ∧ (n : Int) % cols = 0 ∧ 1 ≤ (n : Int) / cols ∧ (n : Int) / cols ≤ 1000)
/-- A grid of r rows of c cells. -/
structure GOk (n r c : Nat) : Prop where
  c1 : 1 ≤ c
  c2 : c ≤ 1000
  r1 : 1 ≤ r
  r2 : r ≤ 1000
  n : n = r * c
theorem GOk.quo {n r c : Nat} (h : GOk n r c) : (n : Int) / (c : Int) = r ∧ (n : Int) % (c : Int) = 0 := by
  have h1 := h.c1
  rw [h.n]
  constructor
  · rw [Int.natCast_mul]
    exact Int.mul_ediv_cancel _ (by omega)
  · rw [Int.natCast_mul]
    exact Int.mul_emod_left _ _
theorem GOk.ok {n r c : Nat} (h : GOk n r c) : gOk n (c : Int) = true := by
  have h1 := h.c1
  have h2 := h.c2
  have h3 := h.r1
  have h4 := h.r2
  unfold gOk
  rw [h.quo.1, h.quo.2]
  simp
  omega
theorem gOk_of {n : Nat} {cols : Int} (h : gOk n cols = true) : ∃ r c : Nat, cols = c ∧ GOk n r c := by
  unfold gOk at h
  simp only [decide_eq_true_eq] at h
  obtain ⟨h1, h2, h3, h4, h5⟩ := h
  refine ⟨((n : Int) / cols).toNat, cols.toNat, by omega, by omega, by omega, by omega, by omega, ?_⟩
  have e1 : ((((n : Int) / cols).toNat : Nat) : Int) = (n : Int) / cols := by omega
  have e2 : ((cols.toNat : Nat) : Int) = cols := by omega
  have := Int.mul_ediv_add_emod (n : Int) cols
  have h6 : ((((n : Int) / cols).toNat * cols.toNat : Nat) : Int) = (n : Int) := by
    rw [Int.natCast_mul, e1, e2, Int.mul_comm]
    omega
  omega
theorem gOk_iff {n r c : Nat} (h : GOk n r c) (r2 c2 : Nat) (h2 : GOk n r2 c2) (e : c = c2) : r = r2 := by
  subst e
  have a := h.quo.1
  have b := h2.quo.1
  omega
/-- A place's row and column. -/
theorem rc_div (y c x : Nat) (h : x < c) : (y * c + x) / c = y ∧ (y * c + x) % c = x := by
  constructor
  · rw [Nat.mul_comm, Nat.mul_add_div (by omega), Nat.div_eq_of_lt h, Nat.add_zero]
  · rw [Nat.mul_comm, Nat.mul_add_mod, Nat.mod_eq_of_lt h]
theorem rc_lt {r c y x : Nat} (hy : y < r) (hx : x < c) : y * c + x < r * c := by
  have : (y + 1) * c ≤ r * c := Nat.mul_le_mul_right _ hy
  have e : (y + 1) * c = y * c + c := by rw [Nat.add_mul, Nat.one_mul]
  omega
theorem rc_le {r c : Nat} (hr : r ≤ 1000) (hc : c ≤ 1000) : r * c ≤ 1000000 := Nat.mul_le_mul hr hc

def getC (l : List Cl) (i : Nat) : Cl := l.getD i blankC
theorem getC_of {l : List Cl} {i : Nat} (h : i < l.length) : l[i]? = some (getC l i) := by
  unfold getC List.getD
  rw [List.getElem?_eq_getElem h]
  rfl
/-- How many rows, from 0 to 1000. -/
def capN (n : Int) : Nat := (min (max n 0) 1000).toNat
def upF (l : List Cl) (c : Nat) (bottom : Nat) (n : Nat) (i : Nat) : Cl := if i / c + n ≤ bottom then getC l (i + n * c) else blankC
def downF (l : List Cl) (c : Nat) (top : Nat) (n : Nat) (i : Nat) : Cl := if top + n ≤ i / c then getC l (i - n * c) else blankC
def upL (l : List Cl) (cols top bottom n : Int) : List Cl :=
  if gOk l.length cols = true ∧ 0 ≤ top ∧ bottom < (l.length : Int) / cols ∧ top ≤ bottom then fillL l (upF l cols.toNat bottom.toNat (capN n)) (top.toNat * cols.toNat) ((bottom.toNat + 1) * cols.toNat) else l
def downL (l : List Cl) (cols top bottom n : Int) : List Cl :=
  if gOk l.length cols = true ∧ 0 ≤ top ∧ bottom < (l.length : Int) / cols ∧ top ≤ bottom then fillL l (downF l cols.toNat top.toNat (capN n)) (top.toNat * cols.toNat) ((bottom.toNat + 1) * cols.toNat) else l
def gPlace (n : Nat) (cols y x : Int) : Bool := gOk n cols && decide (0 ≤ y ∧ y < (n : Int) / cols ∧ 0 ≤ x ∧ x ≤ cols)
/-- Is the half at place i, of column x, alone? -/
def badH (l : List Cl) (c i x : Nat) : Bool :=
  decide ((getC l i).h = 1) && (decide (x + 1 = c) || decide ((getC l (i + 1)).h ≠ 2)) || decide ((getC l i).h = 2) && (decide (x = 0) || decide ((getC l (i - 1)).h ≠ 1))
def mendF (l : List Cl) (c : Nat) (i : Nat) : Cl := if badH l c i (i % c) = true then blankC else getC l i
def mendL (l : List Cl) (cols y : Int) : List Cl :=
  if gPlace l.length cols y 0 = true then fillL l (mendF l cols.toNat) (y.toNat * cols.toNat) (y.toNat * cols.toNat + cols.toNat) else l
def insF (l : List Cl) (i0 : Nat) (n : Nat) (i : Nat) : Cl := if i0 + n ≤ i then getC l (i - n) else blankC
def delF (l : List Cl) (e : Nat) (n : Nat) (i : Nat) : Cl := if i + n < e then getC l (i + n) else blankC
def insertL (l : List Cl) (cols y x n : Int) : List Cl :=
  if gPlace l.length cols y x = true then mendL (fillL l (insF l (y.toNat * cols.toNat + x.toNat) (capN n)) (y.toNat * cols.toNat + x.toNat) (y.toNat * cols.toNat + cols.toNat)) cols y else l
def deleteL (l : List Cl) (cols y x n : Int) : List Cl :=
  if gPlace l.length cols y x = true then mendL (fillL l (delF l (y.toNat * cols.toNat + cols.toNat) (capN n)) (y.toNat * cols.toNat + x.toNat) (y.toNat * cols.toNat + cols.toNat)) cols y else l
def capC (n cols : Int) : Nat := (min (max n 0) cols).toNat
def eraseL (l : List Cl) (cols y fr til : Int) : List Cl :=
  if gPlace l.length cols y 0 = true then mendL (fillL l (fun _ => blankC) (y.toNat * cols.toNat + capC fr cols) (y.toNat * cols.toNat + capC til cols)) cols y else l
/-- May a grid have such rows, such columns? -/
def sizeOk (rows cols : Int) : Bool := decide (1 ≤ rows ∧ rows ≤ 1000 ∧ 1 ≤ cols ∧ cols ≤ 1000)
def blankL (rows cols : Int) : List Cl := if sizeOk rows cols = true then List.replicate (rows.toNat * cols.toNat) blankC else []
/-- The first rows' cells, the others blank. -/
def cutF (l : List Cl) (r c r2 c2 i : Nat) : Cl := if i / c2 < min r r2 ∧ i % c2 < min c c2 then getC l (i / c2 * c + i % c2) else blankC
def mendAll (l : List Cl) (cols : Int) (n : Nat) : List Cl := (List.range n).foldl (fun m (y : Nat) => mendL m cols (y : Int)) l
def sizeL (l : List Cl) (rows cols rows2 cols2 : Int) : List Cl :=
  if gOk l.length cols = true ∧ (l.length : Int) / cols = rows ∧ sizeOk rows2 cols2 = true then
    mendAll ((List.range (rows2.toNat * cols2.toNat)).map (cutF l rows.toNat cols.toNat rows2.toNat cols2.toNat)) cols2 rows2.toNat
  else l

theorem mendL_len (l : List Cl) (cols y : Int) : (mendL l cols y).length = l.length := by
  unfold mendL
  split
  · exact fillL_len _ _ _ _
  · rfl
theorem upL_len (l : List Cl) (cols top bottom n : Int) : (upL l cols top bottom n).length = l.length := by
  unfold upL
  split
  · exact fillL_len _ _ _ _
  · rfl
theorem downL_len (l : List Cl) (cols top bottom n : Int) : (downL l cols top bottom n).length = l.length := by
  unfold downL
  split
  · exact fillL_len _ _ _ _
  · rfl
theorem insertL_len (l : List Cl) (cols y x n : Int) : (insertL l cols y x n).length = l.length := by
  unfold insertL
  split
  · rw [mendL_len, fillL_len]
  · rfl
theorem deleteL_len (l : List Cl) (cols y x n : Int) : (deleteL l cols y x n).length = l.length := by
  unfold deleteL
  split
  · rw [mendL_len, fillL_len]
  · rfl
theorem eraseL_len (l : List Cl) (cols y fr til : Int) : (eraseL l cols y fr til).length = l.length := by
  unfold eraseL
  split
  · rw [mendL_len, fillL_len]
  · rfl
theorem mendAll_len (l : List Cl) (cols : Int) (n : Nat) : (mendAll l cols n).length = l.length := by
  unfold mendAll
  induction n with
  | zero => rfl
  | succ n ih => rw [List.range_succ, List.foldl_append]; simp only [List.foldl_cons, List.foldl_nil]; rw [mendL_len]; exact ih
theorem mendAll_succ (l : List Cl) (cols : Int) (n : Nat) : mendAll l cols (n + 1) = mendL (mendAll l cols n) cols (n : Int) := by
  unfold mendAll
  rw [List.range_succ, List.foldl_append]
  rfl
theorem gPlace_of {n : Nat} {cols y x : Int} (h : gPlace n cols y x = true) : ∃ r c yy xx : Nat, cols = c ∧ y = yy ∧ x = xx ∧ GOk n r c ∧ yy < r ∧ xx ≤ c := by
  unfold gPlace at h
  rw [Bool.and_eq_true, decide_eq_true_eq] at h
  obtain ⟨h1, h2, h3, h4, h5⟩ := h
  obtain ⟨r, c, rfl, hG⟩ := gOk_of h1
  rw [hG.quo.1] at h3
  exact ⟨r, c, y.toNat, x.toNat, rfl, by omega, by omega, hG, by omega, by omega⟩
theorem gPlace_mk {n r c : Nat} {y x : Int} (h : GOk n r c) (h1 : 0 ≤ y) (h2 : y < r) (h3 : 0 ≤ x) (h4 : x ≤ c) : gPlace n (c : Int) y x = true := by
  unfold gPlace
  rw [h.ok, h.quo.1]
  simp [h1, h2, h3, h4]
end Go.Proofs.Ytejemcpkmfhenaa

namespace Go.Proofs.Ytejemcpkmfhenaa
open Go.RowKit
set_option linter.unusedVariables false

/-- A cell as three values. -/
def vC (c : Cl) : List Value := [.int .i32 c.r, .int .u16 (c.a : Int), .int .u8 (c.h : Int)]
def vCs (l : List Cl) : List Value := l.flatMap vC
/-- A cell as one value. -/
def aC (c : Cl) : Value := .agg #[.int .i32 c.r, .int .u16 (c.a : Int), .int .u8 (c.h : Int)]

theorem vCs_len (l : List Cl) : (vCs l).length = l.length * 3 := by
  induction l with
  | nil => rfl
  | cons c l ih => simp only [vCs, List.flatMap_cons, List.length_append] at ih ⊢; rw [ih]; simp [vC]; omega
theorem vCs_app (l m : List Cl) : vCs (l ++ m) = vCs l ++ vCs m := by simp [vCs, List.flatMap_append]
theorem vCs_get (l : List Cl) (k : Nat) (c : Cl) (h : l[k]? = some c) : (vCs l)[k * 3]? = some (.int .i32 c.r) ∧ (vCs l)[k * 3 + 1]? = some (.int .u16 (c.a : Int)) ∧ (vCs l)[k * 3 + 2]? = some (.int .u8 (c.h : Int)) := by
  induction l generalizing k with
  | nil => simp at h
  | cons d l ih =>
    have e : vCs (d :: l) = vC d ++ vCs l := rfl
    rw [e]
    match k, h with
    | 0, h =>
      simp at h
      subst h
      simp [vC]
    | k + 1, h =>
      have h' : l[k]? = some c := by simpa using h
      obtain ⟨a1, a2, a3⟩ := ih k h'
      have hl : (vC d).length = 3 := rfl
      rw [List.getElem?_append_right (by omega), List.getElem?_append_right (by omega), List.getElem?_append_right (by omega), hl]
      rw [show (k + 1) * 3 - 3 = k * 3 by omega, show (k + 1) * 3 + 1 - 3 = k * 3 + 1 by omega, show (k + 1) * 3 + 2 - 3 = k * 3 + 2 by omega]
      exact ⟨a1, a2, a3⟩
theorem vCs_set (l : List Cl) (k : Nat) (c : Cl) (h : k < l.length) : vCs (l.set k c) = (((vCs l).set (k * 3) (.int .i32 c.r)).set (k * 3 + 1) (.int .u16 (c.a : Int))).set (k * 3 + 2) (.int .u8 (c.h : Int)) := by
  induction l generalizing k with
  | nil => simp at h
  | cons d l ih =>
    match k, h with
    | 0, h => simp [vCs, vC]
    | k + 1, h =>
      have e : vCs ((d :: l).set (k + 1) c) = vC d ++ vCs (l.set k c) := by simp [vCs]
      have e2 : vCs (d :: l) = vC d ++ vCs l := rfl
      rw [e, ih k (by simpa using h), e2]
      have hl : (vC d).length = 3 := rfl
      rw [List.set_append_right _ _ (by omega), List.set_append_right _ _ (by omega), List.set_append_right _ _ (by omega), hl]
      rw [show (k + 1) * 3 - 3 = k * 3 by omega, show (k + 1) * 3 + 1 - 3 = k * 3 + 1 by omega, show (k + 1) * 3 + 2 - 3 = k * 3 + 2 by omega]
theorem vCs_one (l : List Cl) : ∀ u ∈ vCs l, u.oneCell' = true := by
  intro u hu
  unfold vCs at hu
  rw [List.mem_flatMap] at hu
  obtain ⟨c, _, hc⟩ := hu
  simp only [vC, List.mem_cons, List.not_mem_nil, or_false] at hc
  rcases hc with rfl | rfl | rfl <;> rfl
theorem vCs_rep (n : Nat) (c : Cl) : vCs (List.replicate n c) = (List.replicate n (vC c)).flatten := by
  simp [vCs, List.flatMap]

/-- The address xa is where a cell's three values begin. -/
def ThreeAt (w : World) (xa : Addr) (c : Cl) : Prop :=
  w.cell? xa = some (.int .i32 c.r) ∧ w.cell? ⟨xa.block, xa.off + 1, none⟩ = some (.int .u16 (c.a : Int)) ∧ w.cell? ⟨xa.block, xa.off + 2, none⟩ = some (.int .u8 (c.h : Int))
theorem add_at3 (ad : Addr) (n i : Nat) (hi : 0 < i) : ad.add (n + i) = ⟨(ad.add n).block, (ad.add n).off + i, none⟩ := by
  unfold Addr.add
  rw [if_neg (by omega)]
  split
  · next h => subst h; simp
  · simp [Nat.add_assoc]
theorem ThreeAt.keep {w w' : World} {xa : Addr} {c : Cl} (h : ThreeAt w xa c) (hk : ∀ p : Addr, p.block = xa.block → w'.cell? p = w.cell? p) : ThreeAt w' xa c :=
  ⟨(hk xa rfl).trans h.1, (hk ⟨xa.block, xa.off + 1, none⟩ rfl).trans h.2.1, (hk ⟨xa.block, xa.off + 2, none⟩ rfl).trans h.2.2⟩

/-- A row of cells of the call's own, from block 'base' on. -/
def OC (w : World) (base : Nat) (v : Value) (l : List Cl) : Prop := w.ownsRow base 42 3 v l.length (vCs l)
/-- A slice that reads as the cells l; it lies below block B. -/
def CS (w : World) (B : Nat) (v : Value) (l : List Cl) : Prop :=
  ∃ A c, v = .slice A l.length c ∧ l.length ≤ c ∧ c ≤ maxLen ∧
    (0 < l.length → ∃ ad, A = some ad ∧ ad.block < B ∧ ∀ j b, l[j]? = some b → ThreeAt w (ad.add (j * 3)) b)
section
variable {w w' : World} {B B' base : Nat} {v : Value} {l : List Cl}
theorem CS.keep (h : CS w B v l) (hk : ∀ p : Addr, p.block < B → w'.cell? p = w.cell? p) : CS w' B v l := by
  obtain ⟨A, c, hv, h1, h2, h3⟩ := h
  refine ⟨A, c, hv, h1, h2, fun hl => ?_⟩
  obtain ⟨ad, hA, hb, hc⟩ := h3 hl
  exact ⟨ad, hA, hb, fun j b hj => (hc j b hj).keep fun p hp => hk p (by rw [hp, block_add]; exact hb)⟩
theorem CS.below (h : CS w B v l) (hb : Below B w w') : CS w' B v l := h.keep fun _ hp => hb.cell hp
theorem CS.more (h : CS w B v l) (hB : B ≤ B') : CS w B' v l := by
  obtain ⟨A, c, hv, h1, h2, h3⟩ := h
  refine ⟨A, c, hv, h1, h2, fun hl => ?_⟩
  obtain ⟨ad, hA, hb, hc⟩ := h3 hl
  exact ⟨ad, hA, by omega, hc⟩
theorem CS.alloc (h : CS w B v l) (hB : B ≤ w.heap.size) (o : Obj) : CS (w.alloc o) B v l := h.keep fun p hp => World.cell?_alloc_lt w o p (by omega)
theorem CS.nil (w : World) (B : Nat) : CS w B (.slice none 0 0) [] := ⟨none, 0, rfl, by simp, by simp [maxLen], fun h => absurd h (by simp)⟩
theorem CS.form (h : CS w B v l) : ∃ A c, v = .slice A l.length c ∧ l.length ≤ c ∧ c ≤ 9223372036854775807 := by
  obtain ⟨A, c, hv, h1, h2, _⟩ := h
  unfold maxLen at h2
  exact ⟨A, c, hv, h1, by omega⟩
theorem CS.get {A : Option Addr} {n c : Nat} (h : CS w B (.slice A n c) l) (k : Nat) (x : Cl) (hx : l[k]? = some x) : ∃ ad, A = some ad ∧ ad.block < B ∧ ThreeAt w (ad.add (k * 3)) x := by
  obtain ⟨A', c', hv, _, _, h3⟩ := h
  simp only [Value.slice.injEq] at hv
  have hk : k < l.length := (List.getElem?_eq_some_iff.1 hx).1
  obtain ⟨ad, hA, hb, hc⟩ := h3 (by omega)
  exact ⟨ad, hv.1.trans hA, hb, hc k x hx⟩

theorem OC.nil (w : World) (base : Nat) : OC w base (.slice none 0 0) [] := World.ownsRow_nil w base _ _
theorem OC.alloc (h : OC w base v l) (o : Obj) : OC (w.alloc o) base v l := World.ownsRow.alloc h o
theorem OC.below (h : OC w base v l) (hb : Below w.heap.size w w') : OC w' base v l := by
  have hg : w.grownBy w' none := ⟨hb.os, hb.tape, hb.output, hb.size, fun i hi _ => hb.block i hi⟩
  unfold OC at h ⊢
  refine h.kept hg ?_
  cases hv : v.ownBlock with
  | none => exact Or.inl rfl
  | some k => exact Or.inr (by simp)
theorem OC.cs (h : OC w base v l) : CS w w.heap.size v l := by
  unfold OC at h
  rcases h.2 with ⟨rfl, hn⟩ | ⟨g, cap, cur, rfl, hbg, hg, hnc, hcm, hcs, htake⟩
  · have : l = [] := List.eq_nil_of_length_eq_zero hn
    subst this
    exact CS.nil w _
  · have hlt : g < w.heap.size := by
      rcases Nat.lt_or_ge g w.heap.size with hh | hh
      · exact hh
      · rw [Array.getElem?_eq_none hh] at hg; cases hg
    refine ⟨_, cap, rfl, hnc, hcm, fun _ => ⟨_, rfl, hlt, fun j b hj => ?_⟩⟩
    obtain ⟨e0, e1, e2⟩ := vCs_get l j b hj
    refine ⟨h.cells (g := g) rfl _ _ e0, ?_, ?_⟩
    · rw [← add_at3 _ _ _ (by omega)]; exact h.cells (g := g) rfl _ _ e1
    · rw [← add_at3 _ _ _ (by omega)]; exact h.cells (g := g) rfl _ _ e2
theorem OC.lower {b2 : Nat} (h : OC w base v l) (hb : b2 ≤ base) : OC w b2 v l := by
  obtain ⟨a1, a2⟩ := h
  refine ⟨a1, ?_⟩
  rcases a2 with a2 | ⟨g, cap, cur, hv, hg, hr⟩
  · exact .inl a2
  · exact .inr ⟨g, cap, cur, hv, Nat.le_trans hb hg, hr⟩
/-- A row of the call's own that has cells: where it lies. -/
theorem OC.open_ (h : OC w base v l) (hl : 0 < l.length) : ∃ g cap, v = .slice (some ⟨g, 0, none⟩) l.length cap ∧ base ≤ g ∧ g < w.heap.size ∧ l.length ≤ cap ∧ cap ≤ 9223372036854775807 := by
  have hh := h
  unfold OC at h
  rcases h.2 with ⟨rfl, hn⟩ | ⟨g, cap, cur, rfl, hbg, hg, hnc, hcm, hcs, htake⟩
  · omega
  · unfold maxLen at hcm
    exact ⟨g, cap, rfl, hbg, (World.ownsRow.lt hh g rfl).2, hnc, by omega⟩
end
section
variable {w : World} {base g n cap : Nat} {l : List Cl}
theorem OC.threeAt (h : OC w base (.slice (some ⟨g, 0, none⟩) l.length cap) l) (k : Nat) (c : Cl) (hc : l[k]? = some c) : w.cell? ⟨g, k * 3, none⟩ = some (.int .i32 c.r) ∧ w.cell? ⟨g, k * 3 + 1, none⟩ = some (.int .u16 (c.a : Int)) ∧ w.cell? ⟨g, k * 3 + 2, none⟩ = some (.int .u8 (c.h : Int)) := by
  obtain ⟨e0, e1, e2⟩ := vCs_get l k c hc
  have hk : k < l.length := (List.getElem?_eq_some_iff.1 hc).1
  unfold OC at h
  exact ⟨(World.ownsRow.cellAt h _ (by omega)).trans e0, (World.ownsRow.cellAt h _ (by omega)).trans e1, (World.ownsRow.cellAt h _ (by omega)).trans e2⟩
theorem OC.frozenAt (h : OC w base (.slice (some ⟨g, 0, none⟩) l.length cap) l) (j : Nat) : w.frozen? ⟨g, j, none⟩ = false := World.ownsRow.frozenAt h j
theorem OC.stored (h : OC w base (.slice (some ⟨g, 0, none⟩) l.length cap) l) (k : Nat) (hk : k < l.length) (c : Cl) :
    OC (((w.setCell ⟨g, k * 3, none⟩ (.int .i32 c.r)).setCell ⟨g, k * 3 + 1, none⟩ (.int .u16 (c.a : Int))).setCell ⟨g, k * 3 + 2, none⟩ (.int .u8 (c.h : Int))) base (.slice (some ⟨g, 0, none⟩) l.length cap) (l.set k c) := by
  have := (World.ownsRow.stored (World.ownsRow.stored (World.ownsRow.stored h (k * 3) (.int .i32 c.r)).1 (k * 3 + 1) (.int .u16 (c.a : Int))).1 (k * 3 + 2) (.int .u8 (c.h : Int))).1
  unfold OC
  rw [List.length_set, vCs_set l k c hk]
  exact this
end
section
variable {w : World} {base g n cap : Nat} {l : List Cl}
theorem OC.len (h : OC w base (.slice (some ⟨g, 0, none⟩) n cap) l) : n = l.length := by
  unfold OC at h
  rcases h.2 with ⟨hv, _⟩ | ⟨g', cap', cur, hv, _⟩
  · cases hv
  · simp only [Value.slice.injEq] at hv
    exact hv.2.1
/-- The three values of a place, whatever they are, and that they may be written. -/
theorem OC.spot (h : OC w base (.slice (some ⟨g, 0, none⟩) n cap) l) (k : Nat) (hk : k < n) : ∃ x y z, w.cell? ⟨g, k * 3, none⟩ = some x ∧ w.cell? ⟨g, k * 3 + 1, none⟩ = some y ∧ w.cell? ⟨g, k * 3 + 2, none⟩ = some z ∧ w.frozen? ⟨g, k * 3, none⟩ = false ∧ w.frozen? ⟨g, k * 3 + 1, none⟩ = false ∧ w.frozen? ⟨g, k * 3 + 2, none⟩ = false := by
  obtain rfl := h.len
  obtain ⟨c, hc⟩ : ∃ c, l[k]? = some c := ⟨_, List.getElem?_eq_getElem hk⟩
  obtain ⟨a, b, d⟩ := h.threeAt k c hc
  exact ⟨_, _, _, a, b, d, h.frozenAt _, h.frozenAt _, h.frozenAt _⟩
theorem OC.put (h : OC w base (.slice (some ⟨g, 0, none⟩) n cap) l) (k : Nat) (hk : k < n) (c : Cl) :
    OC (((w.setCell ⟨g, k * 3, none⟩ (.int .i32 c.r)).setCell ⟨g, k * 3 + 1, none⟩ (.int .u16 (c.a : Int))).setCell ⟨g, k * 3 + 2, none⟩ (.int .u8 (c.h : Int))) base (.slice (some ⟨g, 0, none⟩) n cap) (l.set k c) := by
  obtain rfl := h.len
  exact h.stored k hk c
theorem OC.block (h : OC w base (.slice (some ⟨g, 0, none⟩) n cap) l) : base ≤ g ∧ g < w.heap.size := World.ownsRow.lt h g rfl
end
theorem below_put {B : Nat} {w w' : World} (h : Below B w w') {g : Nat} (hg : B ≤ g) (k : Nat) (x y z : Value) : Below B w (((w'.setCell ⟨g, k, none⟩ x).setCell ⟨g, k + 1, none⟩ y).setCell ⟨g, k + 2, none⟩ z) :=
  ((h.setCell hg x).setCell hg y).setCell hg z
theorem cellInfo : (Try.prog.info? 42).map (fun i => (i.zero, i.size, i.bytes)) = some (some (.agg #[.int .i32 0, .int .u16 0, .int .u8 0]), 3, 8) := by kernel_rfl

/-- append onto a row of the call's own, of whatever cells. -/
theorem run_appC (w : World) (ty : TypeId) {base B : Nat} {v u : Value} {l m : List Cl} (hown : OC w base v l) (hr : CS w B u m) (hlen : l.length + m.length ≤ 1099511627776) (hbase : base ≤ w.heap.size) :
    ∃ v' w', (Builtin.append_ #[22, 22] ty #[v, u]).run Try.prog w = .ok v' w' ∧ OC w' base v' (l ++ m) ∧ w.grownBy w' v.ownBlock ∧ Below base w w' ∧ (v'.ownBlock = v.ownBlock ∨ v'.ownBlock = some w.heap.size) := by
  obtain ⟨i0, hi0, hz0, hz1, hz2⟩ := info_parts cellInfo
  have hlt := World.ownsRow.lt hown
  have hfin : ∀ v' w', w'.ownsRow base 42 3 v' (l.length + m.length) (vCs l ++ vCs m) → OC w' base v' (l ++ m) := by
    intro v' w' h
    unfold OC
    rw [List.length_append, vCs_app]
    exact h
  obtain ⟨A, c, rfl, h1, h2, h3⟩ := hr
  rcases Nat.eq_zero_or_pos m.length with h0 | h0
  · have hm : m = [] := List.eq_nil_of_length_eq_zero h0
    subst hm
    refine ⟨v, w, ?_, by simpa using hown, World.grownBy.refl w _, Below.refl _ _, .inl rfl⟩
    rcases hown.2 with ⟨rfl, hn⟩ | ⟨g, cap, cur, rfl, _, _, hnc, _⟩
    · cases A <;> simp [Builtin.append_, run_underlying Try.underlying22, sizeOf, typeInfo, hi0, Builtin.lenOf, Builtin.firstCells, loadCells, loadCellsFrom]
    · cases A <;> simp [Builtin.append_, run_underlying Try.underlying22, sizeOf, typeInfo, hi0, Builtin.lenOf, Builtin.firstCells, hnc, storeCells, loadCells, loadCellsFrom]
  · obtain ⟨ad, rfl, hb, hc⟩ := h3 h0
    have hcell : ∀ (j : Nat) (u : Value), (vCs m)[j]? = some u → w.cell? (ad.add j) = some u := by
      intro j u hj
      have hj3 : j < m.length * 3 := by
        have := (List.getElem?_eq_some_iff.1 hj).1
        rw [vCs_len] at this
        exact this
      obtain ⟨x, hx⟩ : ∃ x, m[j / 3]? = some x := ⟨_, List.getElem?_eq_getElem (by omega)⟩
      obtain ⟨e0, e1, e2⟩ := vCs_get m (j / 3) x hx
      obtain ⟨f0, f1, f2⟩ := hc _ x hx
      have hmod : j % 3 = 0 ∨ j % 3 = 1 ∨ j % 3 = 2 := by omega
      rcases hmod with h | h | h
      · have e : j / 3 * 3 = j := by omega
        rw [e] at e0 f0
        rw [e0] at hj
        rw [f0, hj]
      · have e : j / 3 * 3 + 1 = j := by omega
        rw [← add_at3 _ _ _ (by omega), e] at f1
        rw [e] at e1
        rw [e1] at hj
        rw [f1, hj]
      · have e : j / 3 * 3 + 2 = j := by omega
        rw [← add_at3 _ _ _ (by omega), e] at f2
        rw [e] at e2
        rw [e2] at hj
        rw [f2, hj]
    obtain ⟨v', w', hrun, h4, h5, _, h6⟩ := run_append_own_at (P := Try.prog) w base 22 ty 42 i0 _ 3 8 Try.underlying22 hi0 hz0 hz1 hz2 rfl (by omega) v l.length (vCs l) hown ad m.length c (vCs m) (by rw [vCs_len]) hcell
      (vCs_one m) (by simp only [maxLen]; omega) (by omega) hbase
    exact ⟨v', w', hrun, hfin v' w' h4, h5, (Below.refl _ _).grown h5 hbase (fun k hk => (hlt k hk).1), h6⟩

/-- The same at the operation, for the walk. -/
theorem wpl_appC (w : World) {ops : Array Oper} {rest : List Oper} {o : Oper} {a : Act} {Q : Exit → Act → World → Prop} (hgd : o.guard = none) (s x : Operand)
    (ho : o.op = .call { callee := .builtin .append, args := #[s, x], argTypes := #[22, 22] })
    (base B : Nat) (v u : Value) (l m : List Cl) (hs : a.eval s = v) (hx : a.eval x = u) (hown : OC w base v l) (hr : CS w B u m) (hlen : l.length + m.length ≤ 1099511627776) (hbase : base ≤ w.heap.size)
    (h : ∀ v' w', OC w' base v' (l ++ m) → w.grownBy w' v.ownBlock → Below base w w' → (v'.ownBlock = v.ownBlock ∨ v'.ownBlock = some w.heap.size) → wpList Try.prog ops Q rest (a.put o.dst v') w') :
    wpList Try.prog ops Q (o :: rest) a w := by
  refine wpList_plain hgd fun K hK => ?_
  obtain ⟨v', w', hrun, h2, h3, h4, h5⟩ := run_appC w o.type hown hr hlen hbase
  unfold Oper.wp execOp
  simp only [ho, resolve, invoke, builtin, Sem.run_bind, Sem.run_pure, Result.andThen_ok, List.map_toArray, List.map_cons, List.map_nil, hs, hx, hrun]
  exact hK _ _ (h v' w' h2 h3 h4 h5)
end Go.Proofs.Ytejemcpkmfhenaa

namespace Go.Proofs.Ytejemcpkmfhenaa
open Go.RowKit
set_option linter.unusedVariables false

theorem blank_any (w : World) : Calls Try.prog 35 #[] w fun e w' => e = .returned (.agg #[.int .i32 32, .int .u16 0, .int .u8 0]) ∧ Below w.heap.size w w' := by
  go_enter Try.func35, Try.ntmps35
  go_wp2
  exact bodyPost_ret (v := .agg #[.int .i32 32, .int .u16 0, .int .u8 0]) (by simp [results, Try.results35, go_sem]) rfl ⟨rfl, (Below.refl _ _).alloc (Nat.le_refl _) _⟩

/-- What a call answers that makes a row of cells. -/
def CellsPost (l : List Cl) (w : World) (e : Ending) (w' : World) : Prop := ∃ v, e = .returned v ∧ OC w' w.heap.size v l ∧ Below w.heap.size w w'
theorem own_any (v : Value) (l : List Cl) (w : World) (h : CS w w.heap.size v l) (hl : l.length ≤ 1099511627776) : Calls Try.prog 33 #[v] w (CellsPost l w) := by
  have H := Lib.hid h
  obtain ⟨A, c, rfl, h1, h2⟩ := h.form
  clear h
  go_enter Try.func33, Try.ntmps33
  go_wp2_with (refine wpl_appC _ rfl _ _ rfl w.heap.size w.heap.size (.slice none 0 0) (.slice A l.length c) [] l rfl rfl (OC.nil _ _) H.out (by simp; omega) (Nat.le_refl _) ?_; intro v' w' g1 g2 g3 g4)
  go_ret
  exact ⟨v', rfl, g1, g3⟩

theorem grid_yes (v : Value) (l : List Cl) (r c : Nat) (w : World) (h : CS w w.heap.size v l) (hg : GOk l.length r c) : Calls Try.prog 34 #[v, .int .i64 (c : Int)] w fun e w' => e = .returned (.tuple #[.int .i64 (r : Int), .bool true]) ∧ w = w' := by
  obtain ⟨A, k, rfl, h1, h2⟩ := h.form
  obtain ⟨q1, q2⟩ := hg.quo
  have c1 := hg.c1
  have c2 := hg.c2
  have r1 := hg.r1
  have r2 := hg.r2
  have hn := hg.n
  clear hg h
  go_enter Try.func34, Try.ntmps34
  go_wp2
  go_ret2
  exact ⟨rfl, rfl⟩
theorem gOk_no {n : Nat} {cols : Int} (h : gOk n cols = false) : cols < 1 ∨ 1000 < cols ∨ (1 ≤ cols ∧ cols ≤ 1000 ∧ ¬ (n : Int) % cols = 0) ∨ (1 ≤ cols ∧ cols ≤ 1000 ∧ (n : Int) % cols = 0 ∧ (n : Int) / cols < 1) ∨ (1 ≤ cols ∧ cols ≤ 1000 ∧ (n : Int) % cols = 0 ∧ 1 ≤ (n : Int) / cols ∧ 1000 < (n : Int) / cols) := by
  unfold gOk at h
  rw [decide_eq_false_iff_not] at h
  by_cases h1 : cols < 1
  · exact .inl h1
  by_cases h2 : 1000 < cols
  · exact .inr (.inl h2)
  by_cases h3 : (n : Int) % cols = 0
  · by_cases h4 : (n : Int) / cols < 1
    · exact .inr (.inr (.inr (.inl ⟨by omega, by omega, h3, h4⟩)))
    · refine .inr (.inr (.inr (.inr ⟨by omega, by omega, h3, by omega, ?_⟩)))
      by_cases h5 : 1000 < (n : Int) / cols
      · exact h5
      · exact absurd ⟨by omega, by omega, h3, by omega, by omega⟩ h
  · exact .inr (.inr (.inl ⟨by omega, by omega, h3⟩))
theorem grid_no (v : Value) (l : List Cl) (cols : Int) (w : World) (h : CS w w.heap.size v l) (hl : l.length ≤ 1099511627776) (hg : gOk l.length cols = false) : Calls Try.prog 34 #[v, .int .i64 cols] w fun e w' => e = .returned (.tuple #[.int .i64 0, .bool false]) ∧ w = w' := by
  obtain ⟨A, k, rfl, h1, h2⟩ := h.form
  clear h
  rcases gOk_no hg with g | g | ⟨g1, g2, g3⟩ | ⟨g1, g2, g3, g4⟩ | ⟨g1, g2, g3, g4, g5⟩
  · clear hg
    go_enter Try.func34, Try.ntmps34
    go_wp2
    go_ret2
    exact ⟨rfl, rfl⟩
  · clear hg
    have g0 : 1 ≤ cols := by omega
    go_enter Try.func34, Try.ntmps34
    go_wp2
    go_ret2
    exact ⟨rfl, rfl⟩
  all_goals
    clear hg
    have hz : ¬ cols = 0 := by omega
    have hq0 : 0 ≤ (l.length : Int) / cols := Int.ediv_nonneg (by omega) (by omega)
    have hq1 : (l.length : Int) / cols ≤ l.length := Int.ediv_le_self _ (by omega)
    go_enter Try.func34, Try.ntmps34
    go_wp2
    go_ret2
    exact ⟨rfl, rfl⟩

theorem place_yes (v : Value) (l : List Cl) (r c : Nat) (y x : Int) (w : World) (h : CS w w.heap.size v l) (hg : GOk l.length r c) (hy : 0 ≤ y) (hy2 : y < r) (hx : 0 ≤ x) (hx2 : x ≤ c) :
    Calls Try.prog 40 #[v, .int .i64 (c : Int), .int .i64 y, .int .i64 x] w fun e w' => e = .returned (.bool true) ∧ w = w' := by
  obtain ⟨A, k, rfl, h1, h2⟩ := h.form
  have H := Lib.hid h
  have HG := Lib.hid hg
  clear hg h
  go_enter Try.func40, Try.ntmps40
  go_wp2_with ((with_reducible refine (grid_yes _ l r c _ H.out HG.out).mono ?_); rintro e w' ⟨rfl, rfl⟩)
  go_ret
  exact ⟨rfl, rfl⟩
theorem place_no (v : Value) (l : List Cl) (cols y x : Int) (w : World) (h : CS w w.heap.size v l) (hl : l.length ≤ 1099511627776) (hg : gPlace l.length cols y x = false) :
    Calls Try.prog 40 #[v, .int .i64 cols, .int .i64 y, .int .i64 x] w fun e w' => e = .returned (.bool false) ∧ w = w' := by
  obtain ⟨A, k, rfl, h1, h2⟩ := h.form
  have H := Lib.hid h
  clear h
  cases ho : gOk l.length cols with
  | false =>
    have HO := Lib.hid ho
    clear ho hg
    go_enter Try.func40, Try.ntmps40
    go_wp2_with ((with_reducible refine (grid_no _ l cols _ H.out hl HO.out).mono ?_); rintro e w' ⟨rfl, rfl⟩)
    go_ret
    exact ⟨rfl, rfl⟩
  | true =>
    obtain ⟨r, c, rfl, hG⟩ := gOk_of ho
    have hq := hG.quo.1
    have hno : ¬ (0 ≤ y ∧ y < r ∧ 0 ≤ x ∧ x ≤ (c : Int)) := by
      unfold gPlace at hg
      rw [ho, hq] at hg
      simpa using hg
    have HG := Lib.hid hG
    clear ho hg hG hq
    by_cases h3 : 0 ≤ y
    · by_cases h4 : y < r
      · by_cases h5 : 0 ≤ x
        · have h6 : (c : Int) < x := by omega
          have h7 : decide (x ≤ (c : Int)) = false := by simpa using h6
          clear hno
          go_enter Try.func40, Try.ntmps40
          go_wp2_with ((with_reducible refine (grid_yes _ l r c _ H.out HG.out).mono ?_); rintro e w' ⟨rfl, rfl⟩)
          go_ret
          exact ⟨rfl, rfl⟩
        · clear hno
          go_enter Try.func40, Try.ntmps40
          go_wp2_with ((with_reducible refine (grid_yes _ l r c _ H.out HG.out).mono ?_); rintro e w' ⟨rfl, rfl⟩)
          go_ret
          exact ⟨rfl, rfl⟩
      · clear hno
        go_enter Try.func40, Try.ntmps40
        go_wp2_with ((with_reducible refine (grid_yes _ l r c _ H.out HG.out).mono ?_); rintro e w' ⟨rfl, rfl⟩)
        go_ret
        exact ⟨rfl, rfl⟩
    · clear hno
      go_enter Try.func40, Try.ntmps40
      go_wp2_with ((with_reducible refine (grid_yes _ l r c _ H.out HG.out).mono ?_); rintro e w' ⟨rfl, rfl⟩)
      go_ret
      exact ⟨rfl, rfl⟩
end Go.Proofs.Ytejemcpkmfhenaa

namespace Go.Proofs.Ytejemcpkmfhenaa
open Go.RowKit
set_option linter.unusedVariables false

def zeroC : Cl := ⟨0, 0, 0⟩
theorem madeC (n : Nat) : (madeCells #[.int .i32 0, .int .u16 0, .int .u8 0] (n * 3)).toList = vCs (List.replicate n zeroC) := by
  apply List.ext_getElem?
  intro j
  by_cases h : j < n * 3
  · have hx : (List.replicate n zeroC)[j / 3]? = some zeroC := by rw [List.getElem?_replicate, if_pos (by omega)]
    obtain ⟨e0, e1, e2⟩ := vCs_get _ _ _ hx
    have hl : (madeCells #[Value.int .i32 0, .int .u16 0, .int .u8 0] (n * 3)).toList[j]? = some (#[Value.int .i32 0, .int .u16 0, .int .u8 0][j % 3]!) := by
      simp [madeCells, h]
    rw [hl]
    have hmod : j % 3 = 0 ∨ j % 3 = 1 ∨ j % 3 = 2 := by omega
    rcases hmod with hm | hm | hm
    · rw [show j / 3 * 3 = j by omega] at e0
      rw [e0, hm]; rfl
    · rw [show j / 3 * 3 + 1 = j by omega] at e1
      rw [e1, hm]; rfl
    · rw [show j / 3 * 3 + 2 = j by omega] at e2
      rw [e2, hm]; rfl
  · rw [List.getElem?_eq_none (by simp [madeCells]; omega), List.getElem?_eq_none (by rw [vCs_len, List.length_replicate]; omega)]
theorem OC.made (w : World) (n : Nat) (hm : n ≤ 1099511627776) : OC (w.alloc (.cells (madeCells #[.int .i32 0, .int .u16 0, .int .u8 0] (n * 3)) 42)) w.heap.size (.slice (some ⟨w.heap.size, 0, none⟩) n n) (List.replicate n zeroC) := by
  have := World.ownsRow_lit (base := w.heap.size) (e := 42) (size := 3) w (madeCells #[.int .i32 0, .int .u16 0, .int .u8 0] (n * 3)) n (Nat.le_refl _) (by simp [maxLen]; omega) (by rw [size_madeCells])
  unfold OC
  rw [List.length_replicate]
  rw [madeC] at this
  exact this
theorem run_makeC (n : Nat) (hn : n ≤ 1099511627776) (w : World) :
    (Instr.makeSlice 22 (.int .i64 (n : Int)) (.int .i64 (n : Int))).run Try.prog w = .ok (.slice (some ⟨w.heap.size, 0, none⟩) n n) (w.alloc (.cells (madeCells #[.int .i32 0, .int .u16 0, .int .u8 0] (n * 3)) 42)) := by
  obtain ⟨i0, hi0, hz0, hz1, hz2⟩ := info_parts cellInfo
  have h := run_make (P := Try.prog) w 22 42 i0 _ Try.underlying22 hi0 hz0 .i64 .i64 (n : Int) (n : Int) (by omega) (Int.le_refl _) (by rw [hz2]; omega) (by omega)
  simp only [Int.toNat_natCast, hz1] at h
  exact h

theorem fill_rep (n : Nat) (a b : Cl) : fillL (List.replicate n a) (fun _ => b) 0 n = List.replicate n b := by
  apply List.ext_getElem?
  intro i
  rw [fillL_get, List.length_replicate, List.getElem?_replicate]
  by_cases h : i < n
  · rw [if_pos h, if_pos (by omega), List.getElem?_replicate, if_pos h]
  · rw [if_neg h, List.getElem?_replicate, if_neg h]
def FillRel (l : List Cl) (f : Nat → Cl) (lo : Nat) (w : World) (base : Nat) (g cap : Nat) (i : Value) (wr : World) : Prop :=
  ∃ k : Nat, lo ≤ k ∧ k ≤ l.length ∧ i = .int .i64 (k : Int) ∧ OC wr base (.slice (some ⟨g, 0, none⟩) l.length cap) (fillL l f lo k) ∧ Below w.heap.size w wr
set_option maxHeartbeats 1000000 in
theorem Blank_yes (r c : Nat) (w : World) (r1 : 1 ≤ r) (r2 : r ≤ 1000) (c1 : 1 ≤ c) (c2 : c ≤ 1000) : Calls Try.prog 25 #[.int .i64 (r : Int), .int .i64 (c : Int)] w (CellsPost (List.replicate (r * c) blankC) w) := by
  have hrc := rc_le r2 c2
  have hpos : 1 ≤ r * c := Nat.mul_pos r1 c1
  have hmk := run_makeC (r * c) (by omega)
  rw [Int.natCast_mul] at hmk
  have hb1 : (r : Int) * (c : Int) ≤ 1000000 := by rw [← Int.natCast_mul]; omega
  have hb0 : 0 ≤ (r : Int) * (c : Int) := by rw [← Int.natCast_mul]; omega
  go_enter Try.func25, Try.ntmps25
  go_wp2
  clear hmk
  go_loopw [6] (fun i wr => FillRel (List.replicate (r * c) zeroC) (fun _ => blankC) 0 w w.heap.size w.heap.size (r * c) i wr) (fun i _ => r * c - (intOf i).toNat)
  case atStart => 
    refine ⟨0, Nat.le_refl _, by simp, rfl, ?_, (Below.refl _ _).alloc (Nat.le_refl _) _⟩
    rw [fillL_none _ _ _ _ (Nat.le_refl _), List.length_replicate]
    exact OC.made w _ (by omega)
  case round =>
    obtain ⟨k, hk0, hk, rfl, ho, hb⟩ := hrel
    rw [List.length_replicate] at hk ho
    have HO := Lib.hid ho
    have HB := Lib.hid hb
    have hz := hb.size
    clear ho hb
    have hl : (r : Int) * (c : Int) = ((r * c : Nat) : Int) := by simp
    by_cases hlt : k < r * c
    · have hki : (k : Int) < (r : Int) * (c : Int) := by rw [hl]; omega
      have HL := Lib.hid hl
      clear hl
      go_wp2_with ((with_reducible refine (blank_any _).mono ?_); rintro e w' ⟨rfl, hw'⟩; have H1 := Lib.hid (HO.out.below hw'); have HW := Lib.hid hw'; obtain ⟨x, y, z, s0, s1, s2, f0, f1, f2⟩ := (HO.out.below hw').spot k hlt; clear hw')
      go_roundw
      case rel =>
        refine ⟨k + 1, by omega, by simp; omega, by go_num, ?_, below_put (HB.out.trans (HW.out.mono hz)) (Nat.le_refl _) _ _ _ _⟩
        have := H1.out.put k hlt blankC
        rw [fillL_set _ _ _ _ _ (by omega) rfl] at this
        rw [List.length_replicate]
        exact this
      case measure => simp [intOf]; omega
    · have hki : ¬ (k : Int) < (r : Int) * (c : Int) := by rw [hl]; omega
      obtain rfl : k = r * c := by omega
      have HL := Lib.hid hl
      clear hl
      go_wp2
      go_ret
      refine ⟨_, rfl, ?_, HB.out⟩
      rw [← fill_rep (r * c) zeroC blankC]
      exact HO.out
theorem sizeOk_no {rows cols : Int} (h : sizeOk rows cols = false) : rows < 1 ∨ (1 ≤ rows ∧ 1000 < rows) ∨ (1 ≤ rows ∧ rows ≤ 1000 ∧ cols < 1) ∨ (1 ≤ rows ∧ rows ≤ 1000 ∧ 1 ≤ cols ∧ 1000 < cols) := by
  unfold sizeOk at h
  rw [decide_eq_false_iff_not] at h
  omega
theorem Blank_no (rows cols : Int) (w : World) (h : sizeOk rows cols = false) : Calls Try.prog 25 #[.int .i64 rows, .int .i64 cols] w fun e w' => e = .returned (.slice none 0 0) ∧ w = w' := by
  rcases sizeOk_no h with g | ⟨g1, g2⟩ | ⟨g1, g2, g3⟩ | ⟨g1, g2, g3, g4⟩
  all_goals
    clear h
    go_enter Try.func25, Try.ntmps25
    go_wp2
    go_ret
    exact ⟨rfl, rfl⟩
end Go.Proofs.Ytejemcpkmfhenaa

namespace Go.Proofs.Ytejemcpkmfhenaa
open Go.RowKit
set_option linter.unusedVariables false
theorem cap_if (n : Int) : (if 1000 < (if n < 0 then 0 else n) then 1000 else (if n < 0 then 0 else n)) = (capN n : Int) := by
  unfold capN
  by_cases h : n < 0
  · simp only [h, if_true]; omega
  · simp only [h, if_false]
    split <;> omega
theorem capN_le (n : Int) : capN n ≤ 1000 := by unfold capN; omega
def RowsRel (l : List Cl) (f : Nat → Cl) (c top bottom : Nat) (w : World) (base : Nat) (g cap : Nat) (i : Value) (wr : World) : Prop :=
  ∃ y : Nat, top ≤ y ∧ y ≤ bottom + 1 ∧ i = .int .i64 (y : Int) ∧ OC wr base (.slice (some ⟨g, 0, none⟩) l.length cap) (fillL l f (top * c) (y * c)) ∧ Below w.heap.size w wr
def ColsRel (l : List Cl) (f : Nat → Cl) (c top y : Nat) (w : World) (base : Nat) (g cap : Nat) (i : Value) (wr : World) : Prop :=
  ∃ x : Nat, x ≤ c ∧ i = .int .i64 (x : Int) ∧ OC wr base (.slice (some ⟨g, 0, none⟩) l.length cap) (fillL l f (top * c) (y * c + x)) ∧ Below w.heap.size w wr
set_option maxHeartbeats 1000000 in
set_option maxRecDepth 100000 in
theorem Up_yes (v : Value) (l : List Cl) (r c top bottom : Nat) (n : Int) (w : World) (h : CS w w.heap.size v l) (hg : GOk l.length r c) (htb : top ≤ bottom) (hbr : bottom < r) :
    Calls Try.prog 11 #[v, .int .i64 (c : Int), .int .i64 (top : Int), .int .i64 (bottom : Int), .int .i64 n] w (CellsPost (fillL l (upF l c bottom (capN n)) (top * c) ((bottom + 1) * c)) w) := by
  obtain ⟨A, k, rfl, h1, h2⟩ := h.form
  have H := Lib.hid h
  have HG := Lib.hid hg
  have c1 := hg.c1
  have c2 := hg.c2
  have r2 := hg.r2
  have hn := hg.n
  have hrc := rc_le hg.r2 hg.c2
  have hlen : l.length ≤ 1000000 := by omega
  have HN := Lib.hid hn
  clear h hg hn
  have d1 : decide ((top : Int) < 0) = false := by simp
  have d2 : decide (r ≤ bottom) = false := by simpa using hbr
  have d3 : decide (bottom < top) = false := by simpa using htb
  go_enter Try.func11, Try.ntmps11
  go_upto_region 6 with (first | ((with_reducible refine (own_any _ l _ H.out (by omega)).mono ?_); rintro e w1 ⟨v1, rfl, o1, b1⟩; have z1 := b1.size; have HC := Lib.hid ((H.out.below b1).more z1); have HO := Lib.hid o1; have HB := Lib.hid b1; clear o1 b1) | ((with_reducible refine (grid_yes _ l r c _ HC.out HG.out).mono ?_); rintro e w' ⟨rfl, rfl⟩))
  rw [cap_if]
  have hm := capN_le n
  generalize capN n = m at *
  generalize (if n < 0 then 0 else n) = q
  have hpos : 0 < l.length := by rw [HN.out]; exact Nat.mul_pos (by omega) (by omega)
  obtain ⟨g, cap, rfl, hg1, hg2, hg3, hg4⟩ := HO.out.open_ hpos
  go_wp2
  go_loopw [14] (fun i wr => RowsRel l (upF l c bottom m) c top bottom w w.heap.size g cap i wr) (fun i _ => bottom + 1 - (intOf i).toNat)
  case atStart => exact ⟨top, Nat.le_refl _, by omega, rfl, by rw [fillL_none _ _ _ _ (Nat.le_refl _)]; exact HO.out, HB.out⟩
  case round =>
    generalize wr = w2 at *
    obtain ⟨y, hy1, hy2, rfl, ho, hb⟩ := hrel
    have HO2 := Lib.hid ho
    have HB2 := Lib.hid hb
    clear ho hb
    by_cases hlt : y ≤ bottom
    · go_wp2
      go_loopw [15] (fun i wr => ColsRel l (upF l c bottom m) c top y w w.heap.size g cap i wr) (fun i _ => c - (intOf i).toNat)
      case atStart => exact ⟨0, by omega, rfl, HO2.out, HB2.out⟩
      case round =>
        generalize wr = w3 at *
        obtain ⟨x, hx, rfl, ho, hb⟩ := hrel
        have HO3 := Lib.hid ho
        have HB3 := Lib.hid hb
        have z3 := hb.size
        clear ho hb
        by_cases hxc : x < c
        · obtain ⟨p, hp⟩ : ∃ p : Nat, p = y * c := ⟨_, rfl⟩
          have hyc : (y : Int) * (c : Int) = (p : Int) := by rw [hp]; simp
          have hpx : p + x < l.length := by rw [hp, HN.out]; exact rc_lt (by omega) hxc
          have hdv := rc_div y c x hxc
          rw [← hp] at hdv
          have HD := Lib.hid hdv
          have HP := Lib.hid hp
          clear hp hdv
          by_cases hym : y + m ≤ bottom
          · obtain ⟨p2, hp2⟩ : ∃ p2 : Nat, p2 = (y + m) * c := ⟨_, rfl⟩
            have hyc2 : ((y : Int) + (m : Int)) * (c : Int) = (p2 : Int) := by rw [hp2]; simp
            have hpx2 : p2 + x < l.length := by rw [hp2, HN.out]; exact rc_lt (by omega) hxc
            have hym' : (y : Int) + (m : Int) ≤ (bottom : Int) := by omega
            obtain ⟨d, hd⟩ : ∃ d, l[p2 + x]? = some d := ⟨_, List.getElem?_eq_getElem hpx2⟩
            have HD2 := Lib.hid hd
            have HP2 := Lib.hid hp2
            clear hd hp2
            obtain ⟨ad, hA, hab, -⟩ := H.out.get (p2 + x) d HD2.out
            subst hA
            go_wp2_with ((with_reducible refine (blank_any _).mono ?_); rintro e w' ⟨rfl, hw'⟩; have z4 := hw'.size; have H1 := Lib.hid (HO3.out.below hw'); have HW := Lib.hid hw'; obtain ⟨x0, y0, z0, s0, s1, s2, f0, f1, f2⟩ := (HO3.out.below hw').spot (p + x) hpx; obtain ⟨_, hA, hab2, t0, t1, t2⟩ := ((H.out.below HB3.out).below (hw'.mono z3)).get (p2 + x) d HD2.out; cases hA; have tb : (ad.add ((p2 + x) * 3)).block < w'.heap.size := (by rw [block_add]; omega); have hg5 : g < w'.heap.size := (HO3.out.below hw').block.2; clear hw')
            go_roundw
            case rel =>
              refine ⟨x + 1, by omega, by go_num, ?_, (below_put (HB3.out.trans (HW.out.mono z3)) hg1 _ _ _ _).alloc (by simp; omega) _⟩
              have e : d = upF l c bottom m (p + x) := by
                unfold upF
                rw [HD.out.1, if_pos hym]
                have e2 : p + x + m * c = p2 + x := by rw [HP.out, HP2.out, Nat.add_mul]; omega
                rw [e2]
                have := getC_of hpx2
                rw [HD2.out] at this
                exact Option.some.inj this
              have hpe := HP.out
              have := (H1.out.put (p + x) hpx d).alloc (.cells #[.int .i32 d.r, .int .u16 (d.a : Int), .int .u8 (d.h : Int)] 42)
              rw [← hpe, fillL_set _ _ _ _ _ (by rw [HP.out]; exact Nat.le_trans (Nat.mul_le_mul_right _ hy1) (Nat.le_add_right _ _)) e] at this
              rw [show y * c + (x + 1) = p + x + 1 by rw [HP.out]; omega]
              exact this
            case measure => simp [intOf]; omega
          · have hym' : (bottom : Int) < (y : Int) + (m : Int) := by omega
            go_wp2_with ((with_reducible refine (blank_any _).mono ?_); rintro e w' ⟨rfl, hw'⟩; have z4 := hw'.size; have H1 := Lib.hid (HO3.out.below hw'); have HW := Lib.hid hw'; obtain ⟨x0, y0, z0, s0, s1, s2, f0, f1, f2⟩ := (HO3.out.below hw').spot (p + x) hpx; have hg5 : g < w'.heap.size := (HO3.out.below hw').block.2; clear hw')
            go_roundw
            case rel =>
              refine ⟨x + 1, by omega, by go_num, ?_, (below_put (HB3.out.trans (HW.out.mono z3)) hg1 _ _ _ _).alloc (by simp; omega) _⟩
              have e : blankC = upF l c bottom m (p + x) := by
                unfold upF
                rw [HD.out.1, if_neg hym]
              have hpe := HP.out
              have := (H1.out.put (p + x) hpx blankC).alloc (.cells #[.int .i32 32, .int .u16 0, .int .u8 0] 42)
              rw [← hpe, fillL_set _ _ _ _ _ (by rw [HP.out]; exact Nat.le_trans (Nat.mul_le_mul_right _ hy1) (Nat.le_add_right _ _)) e] at this
              rw [show y * c + (x + 1) = p + x + 1 by rw [HP.out]; omega]
              exact this
            case measure => simp [intOf]; omega
        · obtain rfl : c = x := by omega
          go_wp2
          go_roundw
          case rel =>
            refine ⟨y + 1, by omega, by omega, by go_num, ?_, HB3.out⟩
            have e : (y + 1) * c = y * c + c := by rw [Nat.add_mul, Nat.one_mul]
            rw [e]
            exact HO3.out
          case measure => simp [intOf]; omega
    · obtain rfl : y = bottom + 1 := by omega
      go_wp2
      go_ret
      exact ⟨_, rfl, HO2.out, HB2.out⟩
/-- What the document's Up and Down ask of rows. -/
def upB (n : Nat) (cols top bottom : Int) : Bool := decide (gOk n cols = true ∧ 0 ≤ top ∧ bottom < (n : Int) / cols ∧ top ≤ bottom)
theorem Up_no (v : Value) (l : List Cl) (cols top bottom n : Int) (w : World) (h : CS w w.heap.size v l) (hl : l.length ≤ 1099511627776) (hb : upB l.length cols top bottom = false) :
    Calls Try.prog 11 #[v, .int .i64 cols, .int .i64 top, .int .i64 bottom, .int .i64 n] w (CellsPost l w) := by
  obtain ⟨A, k, rfl, h1, h2⟩ := h.form
  have H := Lib.hid h
  unfold upB at hb
  rw [decide_eq_false_iff_not] at hb
  clear h
  cases ho : gOk l.length cols with
  | false =>
    have HO := Lib.hid ho
    clear ho hb
    go_enter Try.func11, Try.ntmps11
    go_wp2_with (first | ((with_reducible refine (own_any _ l _ H.out hl).mono ?_); rintro e w1 ⟨v1, rfl, o1, b1⟩; have z1 := b1.size; have HC := Lib.hid ((H.out.below b1).more z1); have H1 := Lib.hid o1; have HB := Lib.hid b1; clear o1 b1) | ((with_reducible refine (grid_no _ l cols _ HC.out hl HO.out).mono ?_); rintro e w' ⟨rfl, rfl⟩))
    go_ret
    exact ⟨v1, rfl, H1.out, HB.out⟩
  | true =>
    obtain ⟨r, c, rfl, hG⟩ := gOk_of ho
    have hq := hG.quo.1
    rw [hq] at hb
    have hno : top < 0 ∨ (0 ≤ top ∧ (r : Int) ≤ bottom) ∨ (0 ≤ top ∧ bottom < (r : Int) ∧ bottom < top) := by
      by_cases e1 : top < 0
      · exact .inl e1
      by_cases e2 : (r : Int) ≤ bottom
      · exact .inr (.inl ⟨by omega, e2⟩)
      · refine .inr (.inr ⟨by omega, by omega, ?_⟩)
        by_cases e3 : bottom < top
        · exact e3
        · exact absurd ⟨ho, by omega, by omega, by omega⟩ hb
    have HG := Lib.hid hG
    clear ho hG hq hb
    rcases hno with e1 | ⟨e1, e2⟩ | ⟨e1, e2, e3⟩
    all_goals
      go_enter Try.func11, Try.ntmps11
      go_wp2_with (first | ((with_reducible refine (own_any _ l _ H.out hl).mono ?_); rintro e w1 ⟨v1, rfl, o1, b1⟩; have z1 := b1.size; have HC := Lib.hid ((H.out.below b1).more z1); have H1 := Lib.hid o1; have HB := Lib.hid b1; clear o1 b1) | ((with_reducible refine (grid_yes _ l r c _ HC.out HG.out).mono ?_); rintro e w' ⟨rfl, rfl⟩))
      go_ret
      exact ⟨v1, rfl, H1.out, HB.out⟩
theorem Up_any (v : Value) (l : List Cl) (cols top bottom n : Int) (w : World) (h : CS w w.heap.size v l) (hl : l.length ≤ 1099511627776) :
    Calls Try.prog 11 #[v, .int .i64 cols, .int .i64 top, .int .i64 bottom, .int .i64 n] w (CellsPost (upL l cols top bottom n) w) := by
  cases hb : upB l.length cols top bottom with
  | false =>
    have hno := hb
    unfold upB at hno
    rw [decide_eq_false_iff_not] at hno
    unfold upL
    rw [if_neg hno]
    exact Up_no v l cols top bottom n w h hl hb
  | true =>
    unfold upB at hb
    rw [decide_eq_true_eq] at hb
    unfold upL
    rw [if_pos hb]
    obtain ⟨h1, h2, h3, h4⟩ := hb
    obtain ⟨r, c, rfl, hG⟩ := gOk_of h1
    rw [hG.quo.1] at h3
    obtain ⟨t, rfl⟩ : ∃ t : Nat, top = t := ⟨top.toNat, by omega⟩
    obtain ⟨b, rfl⟩ : ∃ b : Nat, bottom = b := ⟨bottom.toNat, by omega⟩
    simp only [Int.toNat_natCast]
    exact Up_yes v l r c t b n w h hG (by omega) (by omega)
end Go.Proofs.Ytejemcpkmfhenaa

namespace Go.Proofs.Ytejemcpkmfhenaa
open Go.RowKit
set_option linter.unusedVariables false
set_option maxHeartbeats 2000000 in
set_option maxRecDepth 100000 in
theorem Mend_yes (v : Value) (l : List Cl) (r c y : Nat) (w : World) (h : CS w w.heap.size v l) (hg : GOk l.length r c) (hy : y < r) :
    Calls Try.prog 21 #[v, .int .i64 (c : Int), .int .i64 (y : Int)] w (CellsPost (fillL l (mendF l c) (y * c) (y * c + c)) w) := by
  obtain ⟨A, k, rfl, h1, h2⟩ := h.form
  have H := Lib.hid h
  have HG := Lib.hid hg
  have c1 := hg.c1
  have c2 := hg.c2
  have r2 := hg.r2
  have hn := hg.n
  have hrc := rc_le hg.r2 hg.c2
  have hlen : l.length ≤ 1000000 := by omega
  have HN := Lib.hid hn
  clear h hg hn
  go_enter Try.func21, Try.ntmps21
  go_wp2_with (first | ((with_reducible refine (own_any _ l _ H.out (by omega)).mono ?_); rintro e w1 ⟨v1, rfl, o1, b1⟩; have z1 := b1.size; have HC := Lib.hid ((H.out.below b1).more z1); have HO := Lib.hid o1; have HB := Lib.hid b1; clear o1 b1) | ((with_reducible refine (place_yes _ l r c (y : Int) 0 _ HC.out HG.out (by omega) (by omega) (by omega) (by omega)).mono ?_); rintro e w' ⟨rfl, rfl⟩))
  have hpos : 0 < l.length := by rw [HN.out]; exact Nat.mul_pos (by omega) (by omega)
  obtain ⟨g, cap, rfl, hg1, hg2, hg3, hg4⟩ := HO.out.open_ hpos
  go_loopw [8] (fun i wr => ColsRel l (mendF l c) c y y w w.heap.size g cap i wr) (fun i _ => c - (intOf i).toNat)
  case atStart => exact ⟨0, by omega, rfl, by rw [fillL_none _ _ _ _ (by omega)]; exact HO.out, HB.out⟩
  case round =>
    generalize wr = w3 at *
    obtain ⟨x, hx, rfl, ho, hb⟩ := hrel
    have HO3 := Lib.hid ho
    have HB3 := Lib.hid hb
    have z3 := hb.size
    clear ho hb
    by_cases hxc : x < c
    · obtain ⟨p, hp⟩ : ∃ p : Nat, p = y * c := ⟨_, rfl⟩
      have hyc : (y : Int) * (c : Int) = (p : Int) := by rw [hp]; simp
      have hpx : p + x < l.length := by rw [hp, HN.out]; exact rc_lt (by omega) hxc
      have hdv := rc_div y c x hxc
      rw [← hp] at hdv
      have hpc : p + c ≤ l.length := by
        rw [hp, HN.out]
        have : (y + 1) * c ≤ r * c := Nat.mul_le_mul_right _ hy
        rw [Nat.add_mul, Nat.one_mul] at this
        exact this
      have HD := Lib.hid hdv
      have HP := Lib.hid hp
      clear hp hdv
      have hgd := getC_of hpx
      obtain ⟨ad, hA, hab, t0, t1, t2⟩ := (H.out.below HB3.out).get (p + x) _ hgd
      subst hA
      have tb : (ad.add ((p + x) * 3)).block < w3.heap.size := by rw [block_add]; omega
      have HGD := Lib.hid hgd
      clear hgd t0 t1
      by_cases h1 : (getC l (p + x)).h = 1
      · rw [h1] at t2
        by_cases h2 : x + 1 = c
        · have hbad : badH l c (p + x) x = true := by unfold badH; rw [h1]; simp [h2]
          have HBAD := Lib.hid hbad
          clear hbad
          have e1 : ((x : Int) == (c : Int) - 1) = true := by simp; omega
          have H2 := Lib.hid h2
          clear h2
          go_wp2_with ((with_reducible refine (blank_any _).mono ?_); rintro e w' ⟨rfl, hw'⟩; have z4 := hw'.size; have H1 := Lib.hid (HO3.out.below hw'); have HW := Lib.hid hw'; obtain ⟨x0, y0, z0, s0, s1, s2, f0, f1, f2⟩ := (HO3.out.below hw').spot (p + x) hpx; have hg5 : g < w'.heap.size := (HO3.out.below hw').block.2; clear hw')
          go_roundw
          case rel =>
            refine ⟨x + 1, by omega, by go_num, ?_, below_put (HB3.out.trans (HW.out.mono z3)) hg1 _ _ _ _⟩
            have e : blankC = mendF l c (p + x) := by
              unfold mendF
              rw [HD.out.2, HBAD.out]
              rfl
            have hpe := HP.out
            have := H1.out.put (p + x) hpx blankC
            rw [← hpe, fillL_set _ _ _ _ _ (by omega) e] at this
            rw [show y * c + (x + 1) = p + x + 1 by rw [HP.out]; omega, ← hpe]
            exact this
          case measure => simp [intOf]; omega
        · have e1 : ¬ (x : Int) = (c : Int) - 1 := by omega
          have e1b : ((x : Int) == (c : Int) - 1) = false := by simpa using e1
          have hpn : p + x + 1 < l.length := by omega
          have hgn := getC_of hpn
          obtain ⟨_, hA, _, _, _, n2⟩ := (H.out.below HB3.out).get (p + x + 1) _ hgn
          cases hA
          have tn : (ad.add ((p + x + 1) * 3)).block < w3.heap.size := by rw [block_add]; omega
          clear hgn
          by_cases h3 : (getC l (p + x + 1)).h = 2
          · have hbad : badH l c (p + x) x = false := by unfold badH; rw [h1, h3]; simp [h2]
            have HBAD := Lib.hid hbad
            clear hbad
            rw [h3] at n2
            go_wp2
            go_roundw
            case rel =>
              refine ⟨x + 1, by omega, by go_num, ?_, HB3.out⟩
              have e : l[p + x]? = some (mendF l c (p + x)) := by
                unfold mendF
                rw [HD.out.2, HBAD.out]
                exact HGD.out
              rw [show y * c + (x + 1) = p + x + 1 by rw [HP.out]; omega, ← fillL_skip _ _ _ _ e, HP.out]
              exact HO3.out
            case measure => simp [intOf]; omega
          · have hbad : badH l c (p + x) x = true := by unfold badH; rw [h1]; simp [h2, h3]
            have HBAD := Lib.hid hbad
            clear hbad
            have e3 : (((getC l (p + x + 1)).h : Int) != 2) = true := by simp; omega
            have e4 : ¬ ((getC l (p + x + 1)).h : Int) = 2 := by omega
            go_wp2_with ((with_reducible refine (blank_any _).mono ?_); rintro e w' ⟨rfl, hw'⟩; have z4 := hw'.size; have H1 := Lib.hid (HO3.out.below hw'); have HW := Lib.hid hw'; obtain ⟨x0, y0, z0, s0, s1, s2, f0, f1, f2⟩ := (HO3.out.below hw').spot (p + x) hpx; have hg5 : g < w'.heap.size := (HO3.out.below hw').block.2; clear hw')
            go_roundw
            case rel =>
              refine ⟨x + 1, by omega, by go_num, ?_, below_put (HB3.out.trans (HW.out.mono z3)) hg1 _ _ _ _⟩
              have e : blankC = mendF l c (p + x) := by
                unfold mendF
                rw [HD.out.2, HBAD.out]
                rfl
              have hpe := HP.out
              have := H1.out.put (p + x) hpx blankC
              rw [← hpe, fillL_set _ _ _ _ _ (by omega) e] at this
              rw [show y * c + (x + 1) = p + x + 1 by rw [HP.out]; omega, ← hpe]
              exact this
            case measure => simp [intOf]; omega
      · have h1b : (((getC l (p + x)).h : Int) == 1) = false := by simp; omega
        have h1c : ¬ ((getC l (p + x)).h : Int) = 1 := by omega
        by_cases h2 : (getC l (p + x)).h = 2
        · rw [h2] at t2
          clear h1b h1c
          by_cases h3 : x = 0
          · have hbad : badH l c (p + x) x = true := by unfold badH; rw [h2]; simp [h3]
            have HBAD := Lib.hid hbad
            clear hbad
            have e1 : ((x : Int) == 0) = true := by simp [h3]
            have H3 := Lib.hid h3
            clear h3
            go_wp2_with ((with_reducible refine (blank_any _).mono ?_); rintro e w' ⟨rfl, hw'⟩; have z4 := hw'.size; have H1 := Lib.hid (HO3.out.below hw'); have HW := Lib.hid hw'; obtain ⟨x0, y0, z0, s0, s1, s2, f0, f1, f2⟩ := (HO3.out.below hw').spot (p + x) hpx; have hg5 : g < w'.heap.size := (HO3.out.below hw').block.2; clear hw')
            go_roundw
            case rel =>
              refine ⟨x + 1, by omega, by go_num, ?_, below_put (HB3.out.trans (HW.out.mono z3)) hg1 _ _ _ _⟩
              have e : blankC = mendF l c (p + x) := by
                unfold mendF
                rw [HD.out.2, HBAD.out]
                rfl
              have hpe := HP.out
              have := H1.out.put (p + x) hpx blankC
              rw [← hpe, fillL_set _ _ _ _ _ (by omega) e] at this
              rw [show y * c + (x + 1) = p + x + 1 by rw [HP.out]; omega, ← hpe]
              exact this
            case measure => simp [intOf]; omega
          · have e1 : ¬ (x : Int) = 0 := by omega
            have e1b : ((x : Int) == 0) = false := by simpa using e1
            have e1c : 1 ≤ p + x := by omega
            have hpn : p + x - 1 < l.length := by omega
            have hgn := getC_of hpn
            obtain ⟨_, hA, _, _, _, n2⟩ := (H.out.below HB3.out).get (p + x - 1) _ hgn
            cases hA
            have tn : (ad.add ((p + x - 1) * 3)).block < w3.heap.size := by rw [block_add]; omega
            clear hgn
            by_cases h4 : (getC l (p + x - 1)).h = 1
            · have hbad : badH l c (p + x) x = false := by unfold badH; rw [h2, h4]; simp [h3]
              have HBAD := Lib.hid hbad
              clear hbad
              rw [h4] at n2
              go_wp2
              go_roundw
              case rel =>
                refine ⟨x + 1, by omega, by go_num, ?_, HB3.out⟩
                have e : l[p + x]? = some (mendF l c (p + x)) := by
                  unfold mendF
                  rw [HD.out.2, HBAD.out]
                  exact HGD.out
                rw [show y * c + (x + 1) = p + x + 1 by rw [HP.out]; omega, ← fillL_skip _ _ _ _ e, HP.out]
                exact HO3.out
              case measure => simp [intOf]; omega
            · have hbad : badH l c (p + x) x = true := by unfold badH; rw [h2]; simp [h3, h4]
              have HBAD := Lib.hid hbad
              clear hbad
              have e3 : (((getC l (p + x - 1)).h : Int) != 1) = true := by simp; omega
              have e4 : ¬ ((getC l (p + x - 1)).h : Int) = 1 := by omega
              go_wp2_with ((with_reducible refine (blank_any _).mono ?_); rintro e w' ⟨rfl, hw'⟩; have z4 := hw'.size; have H1 := Lib.hid (HO3.out.below hw'); have HW := Lib.hid hw'; obtain ⟨x0, y0, z0, s0, s1, s2, f0, f1, f2⟩ := (HO3.out.below hw').spot (p + x) hpx; have hg5 : g < w'.heap.size := (HO3.out.below hw').block.2; clear hw')
              go_roundw
              case rel =>
                refine ⟨x + 1, by omega, by go_num, ?_, below_put (HB3.out.trans (HW.out.mono z3)) hg1 _ _ _ _⟩
                have e : blankC = mendF l c (p + x) := by
                  unfold mendF
                  rw [HD.out.2, HBAD.out]
                  rfl
                have hpe := HP.out
                have := H1.out.put (p + x) hpx blankC
                rw [← hpe, fillL_set _ _ _ _ _ (by omega) e] at this
                rw [show y * c + (x + 1) = p + x + 1 by rw [HP.out]; omega, ← hpe]
                exact this
              case measure => simp [intOf]; omega
        · have hbad : badH l c (p + x) x = false := by unfold badH; simp [h1, h2]
          have HBAD := Lib.hid hbad
          clear hbad
          have h2b : (((getC l (p + x)).h : Int) == 2) = false := by simp; omega
          have h2c : ¬ ((getC l (p + x)).h : Int) = 2 := by omega
          go_wp2
          go_roundw
          case rel =>
            refine ⟨x + 1, by omega, by go_num, ?_, HB3.out⟩
            have e : l[p + x]? = some (mendF l c (p + x)) := by
              unfold mendF
              rw [HD.out.2, HBAD.out]
              exact HGD.out
            rw [show y * c + (x + 1) = p + x + 1 by rw [HP.out]; omega, ← fillL_skip _ _ _ _ e, HP.out]
            exact HO3.out
          case measure => simp [intOf]; omega
    · obtain rfl : c = x := by omega
      go_wp2
      go_ret
      exact ⟨_, rfl, HO3.out, HB3.out⟩
end Go.Proofs.Ytejemcpkmfhenaa

namespace Go.Proofs.Ytejemcpkmfhenaa
open Go.RowKit
set_option linter.unusedVariables false

theorem CellsPost.up {l : List Cl} {w w1 w2 : World} {e : Ending} (h : CellsPost l w1 e w2) (hb : Below w.heap.size w w1) : CellsPost l w e w2 := by
  obtain ⟨v, he, ho, hb2⟩ := h
  have hz := hb.size
  exact ⟨v, he, ho.lower hz, hb.trans (hb2.mono hz)⟩
theorem Mend_no (v : Value) (l : List Cl) (cols y : Int) (w : World) (h : CS w w.heap.size v l) (hl : l.length ≤ 1099511627776) (hb : gPlace l.length cols y 0 = false) :
    Calls Try.prog 21 #[v, .int .i64 cols, .int .i64 y] w (CellsPost l w) := by
  obtain ⟨A, k, rfl, h1, h2⟩ := h.form
  have H := Lib.hid h
  have HP := Lib.hid hb
  clear h hb
  go_enter Try.func21, Try.ntmps21
  go_wp2_with (first | ((with_reducible refine (own_any _ l _ H.out hl).mono ?_); rintro e w1 ⟨v1, rfl, o1, b1⟩; have z1 := b1.size; have HC := Lib.hid ((H.out.below b1).more z1); have H1 := Lib.hid o1; have HB := Lib.hid b1; clear o1 b1) | ((with_reducible refine (place_no _ l cols y 0 _ HC.out hl HP.out).mono ?_); rintro e w' ⟨rfl, rfl⟩))
  go_ret
  exact ⟨v1, rfl, H1.out, HB.out⟩
theorem Mend_any (v : Value) (l : List Cl) (cols y : Int) (w : World) (h : CS w w.heap.size v l) (hl : l.length ≤ 1099511627776) :
    Calls Try.prog 21 #[v, .int .i64 cols, .int .i64 y] w (CellsPost (mendL l cols y) w) := by
  cases hb : gPlace l.length cols y 0 with
  | false =>
    unfold mendL
    rw [hb]
    exact Mend_no v l cols y w h hl hb
  | true =>
    unfold mendL
    rw [hb]
    obtain ⟨r, c, yy, xx, rfl, rfl, _, hG, hy, _⟩ := gPlace_of hb
    simp only [Int.toNat_natCast, if_true]
    exact Mend_yes v l r c yy w h hG hy

/-- A row's cells, from column x on, up to column i. -/
def RowRel (l : List Cl) (f : Nat → Cl) (c y x : Nat) (hi : Nat) (w : World) (base : Nat) (g cap : Nat) (i : Value) (wr : World) : Prop :=
  ∃ j : Nat, x ≤ j ∧ (j ≤ hi ∨ j = x) ∧ i = .int .i64 (j : Int) ∧ OC wr base (.slice (some ⟨g, 0, none⟩) l.length cap) (fillL l f (y * c + x) (y * c + j)) ∧ Below w.heap.size w wr
set_option maxHeartbeats 1000000 in
set_option maxRecDepth 100000 in
theorem Insert_yes (v : Value) (l : List Cl) (r c y x0 : Nat) (n : Int) (w : World) (h : CS w w.heap.size v l) (hg : GOk l.length r c) (hy : y < r) (hx0 : x0 ≤ c) :
    Calls Try.prog 15 #[v, .int .i64 (c : Int), .int .i64 (y : Int), .int .i64 (x0 : Int), .int .i64 n] w (CellsPost (mendL (fillL l (insF l (y * c + x0) (capN n)) (y * c + x0) (y * c + c)) c y) w) := by
  obtain ⟨A, k, rfl, h1, h2⟩ := h.form
  have H := Lib.hid h
  have HG := Lib.hid hg
  have c1 := hg.c1
  have c2 := hg.c2
  have r2 := hg.r2
  have hn := hg.n
  have hrc := rc_le hg.r2 hg.c2
  have hlen : l.length ≤ 1000000 := by omega
  have HN := Lib.hid hn
  clear h hg hn
  go_enter Try.func15, Try.ntmps15
  go_upto_region 5 with (first | ((with_reducible refine (own_any _ l _ H.out (by omega)).mono ?_); rintro e w1 ⟨v1, rfl, o1, b1⟩; have z1 := b1.size; have HC := Lib.hid ((H.out.below b1).more z1); have HO := Lib.hid o1; have HB := Lib.hid b1; clear o1 b1) | ((with_reducible refine (place_yes _ l r c (y : Int) (x0 : Int) _ HC.out HG.out (by omega) (by omega) (by omega) (by omega)).mono ?_); rintro e w' ⟨rfl, rfl⟩))
  rw [cap_if]
  have hm := capN_le n
  generalize capN n = m at *
  generalize (if n < 0 then 0 else n) = q
  have hpos : 0 < l.length := by rw [HN.out]; exact Nat.mul_pos (by omega) (by omega)
  obtain ⟨g, cap, rfl, hg1, hg2, hg3, hg4⟩ := HO.out.open_ hpos
  go_wp2
  go_loopw [12] (fun i wr => RowRel l (insF l (y * c + x0) m) c y x0 c w w.heap.size g cap i wr) (fun i _ => c - (intOf i).toNat)
  case atStart => exact ⟨x0, Nat.le_refl _, .inr rfl, rfl, by rw [fillL_none _ _ _ _ (Nat.le_refl _)]; exact HO.out, HB.out⟩
  case round =>
    generalize wr = w3 at *
    obtain ⟨x, hx1, hx, rfl, ho, hb⟩ := hrel
    have HO3 := Lib.hid ho
    have HB3 := Lib.hid hb
    have z3 := hb.size
    clear ho hb
    by_cases hxc : x < c
    · obtain ⟨p, hp⟩ : ∃ p : Nat, p = y * c := ⟨_, rfl⟩
      have hyc : (y : Int) * (c : Int) = (p : Int) := by rw [hp]; simp
      have hpx : p + x < l.length := by rw [hp, HN.out]; exact rc_lt (by omega) hxc
      have HP := Lib.hid hp
      clear hp
      by_cases hym : x0 + m ≤ x
      · have hpx2 : p + x - m < l.length := by omega
        have hm2 : m ≤ p + x := by omega
        have hym' : (x0 : Int) ≤ (x : Int) - (m : Int) := by omega
        obtain ⟨d, hd⟩ : ∃ d, l[p + x - m]? = some d := ⟨_, List.getElem?_eq_getElem hpx2⟩
        have HD2 := Lib.hid hd
        clear hd
        obtain ⟨ad, hA, hab, -⟩ := H.out.get (p + x - m) d HD2.out
        subst hA
        go_wp2_with ((with_reducible refine (blank_any _).mono ?_); rintro e w' ⟨rfl, hw'⟩; have z4 := hw'.size; have H1 := Lib.hid (HO3.out.below hw'); have HW := Lib.hid hw'; obtain ⟨q0, q1, q2, s0, s1, s2, f0, f1, f2⟩ := (HO3.out.below hw').spot (p + x) hpx; obtain ⟨_, hA, hab2, t0, t1, t2⟩ := ((H.out.below HB3.out).below (hw'.mono z3)).get (p + x - m) d HD2.out; cases hA; have tb : (ad.add ((p + x - m) * 3)).block < w'.heap.size := (by rw [block_add]; omega); have hg5 : g < w'.heap.size := (HO3.out.below hw').block.2; clear hw')
        go_roundw
        case rel =>
          refine ⟨x + 1, by omega, by omega, by go_num, ?_, (below_put (HB3.out.trans (HW.out.mono z3)) hg1 _ _ _ _).alloc (by simp; omega) _⟩
          have e : d = insF l (p + x0) m (p + x) := by
            unfold insF
            rw [if_pos (by omega)]
            have := getC_of hpx2
            rw [HD2.out] at this
            exact Option.some.inj this
          have hpe := HP.out
          have := (H1.out.put (p + x) hpx d).alloc (.cells #[.int .i32 d.r, .int .u16 (d.a : Int), .int .u8 (d.h : Int)] 42)
          rw [← hpe, fillL_set _ _ _ _ _ (by omega) e] at this
          rw [← hpe, show p + (x + 1) = p + x + 1 by omega]
          exact this
        case measure => simp [intOf]; omega
      · have hym' : (x : Int) - (m : Int) < (x0 : Int) := by omega
        go_wp2_with ((with_reducible refine (blank_any _).mono ?_); rintro e w' ⟨rfl, hw'⟩; have z4 := hw'.size; have H1 := Lib.hid (HO3.out.below hw'); have HW := Lib.hid hw'; obtain ⟨q0, q1, q2, s0, s1, s2, f0, f1, f2⟩ := (HO3.out.below hw').spot (p + x) hpx; have hg5 : g < w'.heap.size := (HO3.out.below hw').block.2; clear hw')
        go_roundw
        case rel =>
          refine ⟨x + 1, by omega, by omega, by go_num, ?_, (below_put (HB3.out.trans (HW.out.mono z3)) hg1 _ _ _ _).alloc (by simp; omega) _⟩
          have e : blankC = insF l (p + x0) m (p + x) := by
            unfold insF
            rw [if_neg (by omega)]
          have hpe := HP.out
          have := (H1.out.put (p + x) hpx blankC).alloc (.cells #[.int .i32 32, .int .u16 0, .int .u8 0] 42)
          rw [← hpe, fillL_set _ _ _ _ _ (by omega) e] at this
          rw [← hpe, show p + (x + 1) = p + x + 1 by omega]
          exact this
        case measure => simp [intOf]; omega
    · have hxe : c = x := by omega
      subst hxe
      have HM := Lib.hid HO3.out.cs
      go_wp2_with ((with_reducible refine (Mend_any _ (fillL l (insF l (y * c + x0) m) (y * c + x0) (y * c + c)) c y _ HM.out (by rw [fillL_len]; omega)).mono ?_); rintro e w4 ⟨v4, rfl, o4, b4⟩)
      go_ret
      exact CellsPost.up ⟨_, rfl, o4, b4⟩ HB3.out
end Go.Proofs.Ytejemcpkmfhenaa

namespace Go.Proofs.Ytejemcpkmfhenaa
open Go.RowKit
set_option linter.unusedVariables false
theorem Insert_no (v : Value) (l : List Cl) (cols y x n : Int) (w : World) (h : CS w w.heap.size v l) (hl : l.length ≤ 1099511627776) (hb : gPlace l.length cols y x = false) :
    Calls Try.prog 15 #[v, .int .i64 cols, .int .i64 y, .int .i64 x, .int .i64 n] w (CellsPost l w) := by
  obtain ⟨A, k, rfl, h1, h2⟩ := h.form
  have H := Lib.hid h
  have HP := Lib.hid hb
  clear h hb
  go_enter Try.func15, Try.ntmps15
  go_wp2_with (first | ((with_reducible refine (own_any _ l _ H.out hl).mono ?_); rintro e w1 ⟨v1, rfl, o1, b1⟩; have z1 := b1.size; have HC := Lib.hid ((H.out.below b1).more z1); have H1 := Lib.hid o1; have HB := Lib.hid b1; clear o1 b1) | ((with_reducible refine (place_no _ l cols y x _ HC.out hl HP.out).mono ?_); rintro e w' ⟨rfl, rfl⟩))
  go_ret
  exact ⟨v1, rfl, H1.out, HB.out⟩
theorem Insert_any (v : Value) (l : List Cl) (cols y x n : Int) (w : World) (h : CS w w.heap.size v l) (hl : l.length ≤ 1099511627776) :
    Calls Try.prog 15 #[v, .int .i64 cols, .int .i64 y, .int .i64 x, .int .i64 n] w (CellsPost (insertL l cols y x n) w) := by
  cases hb : gPlace l.length cols y x with
  | false =>
    unfold insertL
    rw [hb]
    exact Insert_no v l cols y x n w h hl hb
  | true =>
    unfold insertL
    rw [hb]
    obtain ⟨r, c, yy, xx, rfl, rfl, rfl, hG, hy, hx⟩ := gPlace_of hb
    simp only [Int.toNat_natCast, if_true]
    exact Insert_yes v l r c yy xx n w h hG hy hx
set_option maxHeartbeats 1000000 in
set_option maxRecDepth 100000 in
theorem Delete_yes (v : Value) (l : List Cl) (r c y x0 : Nat) (n : Int) (w : World) (h : CS w w.heap.size v l) (hg : GOk l.length r c) (hy : y < r) (hx0 : x0 ≤ c) :
    Calls Try.prog 17 #[v, .int .i64 (c : Int), .int .i64 (y : Int), .int .i64 (x0 : Int), .int .i64 n] w (CellsPost (mendL (fillL l (delF l (y * c + c) (capN n)) (y * c + x0) (y * c + c)) c y) w) := by
  obtain ⟨A, k, rfl, h1, h2⟩ := h.form
  have H := Lib.hid h
  have HG := Lib.hid hg
  have c1 := hg.c1
  have c2 := hg.c2
  have r2 := hg.r2
  have hn := hg.n
  have hrc := rc_le hg.r2 hg.c2
  have hlen : l.length ≤ 1000000 := by omega
  have HN := Lib.hid hn
  clear h hg hn
  go_enter Try.func17, Try.ntmps17
  go_upto_region 5 with (first | ((with_reducible refine (own_any _ l _ H.out (by omega)).mono ?_); rintro e w1 ⟨v1, rfl, o1, b1⟩; have z1 := b1.size; have HC := Lib.hid ((H.out.below b1).more z1); have HO := Lib.hid o1; have HB := Lib.hid b1; clear o1 b1) | ((with_reducible refine (place_yes _ l r c (y : Int) (x0 : Int) _ HC.out HG.out (by omega) (by omega) (by omega) (by omega)).mono ?_); rintro e w' ⟨rfl, rfl⟩))
  rw [cap_if]
  have hm := capN_le n
  generalize capN n = m at *
  generalize (if n < 0 then 0 else n) = q
  have hpos : 0 < l.length := by rw [HN.out]; exact Nat.mul_pos (by omega) (by omega)
  obtain ⟨g, cap, rfl, hg1, hg2, hg3, hg4⟩ := HO.out.open_ hpos
  go_wp2
  go_loopw [12] (fun i wr => RowRel l (delF l (y * c + c) m) c y x0 c w w.heap.size g cap i wr) (fun i _ => c - (intOf i).toNat)
  case atStart => exact ⟨x0, Nat.le_refl _, .inr rfl, rfl, by rw [fillL_none _ _ _ _ (Nat.le_refl _)]; exact HO.out, HB.out⟩
  case round =>
    generalize wr = w3 at *
    obtain ⟨x, hx1, hx, rfl, ho, hb⟩ := hrel
    have HO3 := Lib.hid ho
    have HB3 := Lib.hid hb
    have z3 := hb.size
    clear ho hb
    by_cases hxc : x < c
    · obtain ⟨p, hp⟩ : ∃ p : Nat, p = y * c := ⟨_, rfl⟩
      have hyc : (y : Int) * (c : Int) = (p : Int) := by rw [hp]; simp
      have hpx : p + x < l.length := by rw [hp, HN.out]; exact rc_lt (by omega) hxc
      have HP := Lib.hid hp
      clear hp
      by_cases hym : x + m < c
      · have hpx2 : p + x + m < l.length := by
          have := rc_lt (r := r) hy hym
          rw [← HP.out, ← HN.out] at this
          omega
        have hym' : (x : Int) + (m : Int) < (c : Int) := by omega
        obtain ⟨d, hd⟩ : ∃ d, l[p + x + m]? = some d := ⟨_, List.getElem?_eq_getElem hpx2⟩
        have HD2 := Lib.hid hd
        clear hd
        obtain ⟨ad, hA, hab, -⟩ := H.out.get (p + x + m) d HD2.out
        subst hA
        go_wp2_with ((with_reducible refine (blank_any _).mono ?_); rintro e w' ⟨rfl, hw'⟩; have z4 := hw'.size; have H1 := Lib.hid (HO3.out.below hw'); have HW := Lib.hid hw'; obtain ⟨q0, q1, q2, s0, s1, s2, f0, f1, f2⟩ := (HO3.out.below hw').spot (p + x) hpx; obtain ⟨_, hA, hab2, t0, t1, t2⟩ := ((H.out.below HB3.out).below (hw'.mono z3)).get (p + x + m) d HD2.out; cases hA; have tb : (ad.add ((p + x + m) * 3)).block < w'.heap.size := (by rw [block_add]; omega); have hg5 : g < w'.heap.size := (HO3.out.below hw').block.2; clear hw')
        go_roundw
        case rel =>
          refine ⟨x + 1, by omega, by omega, by go_num, ?_, (below_put (HB3.out.trans (HW.out.mono z3)) hg1 _ _ _ _).alloc (by simp; omega) _⟩
          have e : d = delF l (p + c) m (p + x) := by
            unfold delF
            rw [if_pos (by omega)]
            have := getC_of hpx2
            rw [HD2.out] at this
            exact Option.some.inj this
          have hpe := HP.out
          have := (H1.out.put (p + x) hpx d).alloc (.cells #[.int .i32 d.r, .int .u16 (d.a : Int), .int .u8 (d.h : Int)] 42)
          rw [← hpe, fillL_set _ _ _ _ _ (by omega) e] at this
          rw [← hpe, show p + (x + 1) = p + x + 1 by omega]
          exact this
        case measure => simp [intOf]; omega
      · have hym' : (c : Int) ≤ (x : Int) + (m : Int) := by omega
        go_wp2_with ((with_reducible refine (blank_any _).mono ?_); rintro e w' ⟨rfl, hw'⟩; have z4 := hw'.size; have H1 := Lib.hid (HO3.out.below hw'); have HW := Lib.hid hw'; obtain ⟨q0, q1, q2, s0, s1, s2, f0, f1, f2⟩ := (HO3.out.below hw').spot (p + x) hpx; have hg5 : g < w'.heap.size := (HO3.out.below hw').block.2; clear hw')
        go_roundw
        case rel =>
          refine ⟨x + 1, by omega, by omega, by go_num, ?_, (below_put (HB3.out.trans (HW.out.mono z3)) hg1 _ _ _ _).alloc (by simp; omega) _⟩
          have e : blankC = delF l (p + c) m (p + x) := by
            unfold delF
            rw [if_neg (by omega)]
          have hpe := HP.out
          have := (H1.out.put (p + x) hpx blankC).alloc (.cells #[.int .i32 32, .int .u16 0, .int .u8 0] 42)
          rw [← hpe, fillL_set _ _ _ _ _ (by omega) e] at this
          rw [← hpe, show p + (x + 1) = p + x + 1 by omega]
          exact this
        case measure => simp [intOf]; omega
    · have hxe : c = x := by omega
      subst hxe
      have HM := Lib.hid HO3.out.cs
      go_wp2_with ((with_reducible refine (Mend_any _ (fillL l (delF l (y * c + c) m) (y * c + x0) (y * c + c)) c y _ HM.out (by rw [fillL_len]; omega)).mono ?_); rintro e w4 ⟨v4, rfl, o4, b4⟩)
      go_ret
      exact CellsPost.up ⟨_, rfl, o4, b4⟩ HB3.out
theorem Delete_no (v : Value) (l : List Cl) (cols y x n : Int) (w : World) (h : CS w w.heap.size v l) (hl : l.length ≤ 1099511627776) (hb : gPlace l.length cols y x = false) :
    Calls Try.prog 17 #[v, .int .i64 cols, .int .i64 y, .int .i64 x, .int .i64 n] w (CellsPost l w) := by
  obtain ⟨A, k, rfl, h1, h2⟩ := h.form
  have H := Lib.hid h
  have HP := Lib.hid hb
  clear h hb
  go_enter Try.func17, Try.ntmps17
  go_wp2_with (first | ((with_reducible refine (own_any _ l _ H.out hl).mono ?_); rintro e w1 ⟨v1, rfl, o1, b1⟩; have z1 := b1.size; have HC := Lib.hid ((H.out.below b1).more z1); have H1 := Lib.hid o1; have HB := Lib.hid b1; clear o1 b1) | ((with_reducible refine (place_no _ l cols y x _ HC.out hl HP.out).mono ?_); rintro e w' ⟨rfl, rfl⟩))
  go_ret
  exact ⟨v1, rfl, H1.out, HB.out⟩
theorem Delete_any (v : Value) (l : List Cl) (cols y x n : Int) (w : World) (h : CS w w.heap.size v l) (hl : l.length ≤ 1099511627776) :
    Calls Try.prog 17 #[v, .int .i64 cols, .int .i64 y, .int .i64 x, .int .i64 n] w (CellsPost (deleteL l cols y x n) w) := by
  cases hb : gPlace l.length cols y x with
  | false =>
    unfold deleteL
    rw [hb]
    exact Delete_no v l cols y x n w h hl hb
  | true =>
    unfold deleteL
    rw [hb]
    obtain ⟨r, c, yy, xx, rfl, rfl, rfl, hG, hy, hx⟩ := gPlace_of hb
    simp only [Int.toNat_natCast, if_true]
    exact Delete_yes v l r c yy xx n w h hG hy hx
theorem capc_if (n : Int) (c : Nat) : (if (c : Int) < (if n < 0 then 0 else n) then (c : Int) else (if n < 0 then 0 else n)) = (capC n (c : Int) : Int) := by
  unfold capC
  by_cases h : n < 0
  · simp only [h, if_true]
    split <;> omega
  · simp only [h, if_false]
    split <;> omega
theorem capC_le (n : Int) (c : Nat) : capC n (c : Int) ≤ c := by unfold capC; omega
set_option maxHeartbeats 1000000 in
set_option maxRecDepth 100000 in
theorem Erase_yes (v : Value) (l : List Cl) (r c y : Nat) (fr n : Int) (w : World) (h : CS w w.heap.size v l) (hg : GOk l.length r c) (hy : y < r) :
    Calls Try.prog 19 #[v, .int .i64 (c : Int), .int .i64 (y : Int), .int .i64 fr, .int .i64 n] w (CellsPost (mendL (fillL l (fun _ => blankC) (y * c + capC fr (c : Int)) (y * c + capC n (c : Int))) c y) w) := by
  obtain ⟨A, k, rfl, h1, h2⟩ := h.form
  have H := Lib.hid h
  have HG := Lib.hid hg
  have c1 := hg.c1
  have c2 := hg.c2
  have r2 := hg.r2
  have hn := hg.n
  have hrc := rc_le hg.r2 hg.c2
  have hlen : l.length ≤ 1000000 := by omega
  have HN := Lib.hid hn
  have hm0 := capC_le fr c
  have hm := capC_le n c
  obtain ⟨x0, hx0⟩ : ∃ x0 : Nat, x0 = capC fr (c : Int) := ⟨_, rfl⟩
  obtain ⟨m, hmm⟩ : ∃ m : Nat, m = capC n (c : Int) := ⟨_, rfl⟩
  rw [← hx0] at hm0 ⊢
  rw [← hmm] at hm ⊢
  have HX0 := Lib.hid hx0
  have HMM := Lib.hid hmm
  clear h hg hn hx0 hmm
  go_enter Try.func19, Try.ntmps19
  go_upto_region 5 with (first | ((with_reducible refine (own_any _ l _ H.out (by omega)).mono ?_); rintro e w1 ⟨v1, rfl, o1, b1⟩; have z1 := b1.size; have HC := Lib.hid ((H.out.below b1).more z1); have HO := Lib.hid o1; have HB := Lib.hid b1; clear o1 b1) | ((with_reducible refine (place_yes _ l r c (y : Int) 0 _ HC.out HG.out (by omega) (by omega) (by omega) (by omega)).mono ?_); rintro e w' ⟨rfl, rfl⟩))
  rw [capc_if, capc_if, ← HX0.out, ← HMM.out]
  generalize (if fr < 0 then 0 else fr) = q
  generalize (if n < 0 then 0 else n) = q2
  have hpos : 0 < l.length := by rw [HN.out]; exact Nat.mul_pos (by omega) (by omega)
  obtain ⟨g, cap, rfl, hg1, hg2, hg3, hg4⟩ := HO.out.open_ hpos
  go_wp2
  go_loopw [12] (fun i wr => RowRel l (fun _ => blankC) c y x0 m w w.heap.size g cap i wr) (fun i _ => m - (intOf i).toNat)
  case atStart => exact ⟨x0, Nat.le_refl _, .inr rfl, rfl, by rw [fillL_none _ _ _ _ (Nat.le_refl _)]; exact HO.out, HB.out⟩
  case round =>
    generalize wr = w3 at *
    obtain ⟨x, hx1, hx, rfl, ho, hb⟩ := hrel
    have HO3 := Lib.hid ho
    have HB3 := Lib.hid hb
    have z3 := hb.size
    clear ho hb
    by_cases hxc : x < m
    · obtain ⟨p, hp⟩ : ∃ p : Nat, p = y * c := ⟨_, rfl⟩
      have hyc : (y : Int) * (c : Int) = (p : Int) := by rw [hp]; simp
      have hpx : p + x < l.length := by rw [hp, HN.out]; exact rc_lt (by omega) (by omega)
      have HP := Lib.hid hp
      clear hp
      go_wp2_with ((with_reducible refine (blank_any _).mono ?_); rintro e w' ⟨rfl, hw'⟩; have z4 := hw'.size; have H1 := Lib.hid (HO3.out.below hw'); have HW := Lib.hid hw'; obtain ⟨q0, q1, q2, s0, s1, s2, f0, f1, f2⟩ := (HO3.out.below hw').spot (p + x) hpx; have hg5 : g < w'.heap.size := (HO3.out.below hw').block.2; clear hw')
      go_roundw
      case rel =>
        refine ⟨x + 1, by omega, by omega, by go_num, ?_, below_put (HB3.out.trans (HW.out.mono z3)) hg1 _ _ _ _⟩
        have hpe := HP.out
        have := H1.out.put (p + x) hpx blankC
        rw [← hpe, fillL_set _ _ _ _ _ (by omega) rfl] at this
        rw [← hpe, show p + (x + 1) = p + x + 1 by omega]
        exact this
      case measure => simp [intOf]; omega
    · have hM : OC w3 w.heap.size (.slice (some ⟨g, 0, none⟩) l.length cap) (fillL l (fun _ => blankC) (y * c + x0) (y * c + m)) := by
        have := HO3.out
        by_cases e : m = x
        · rw [← e] at this; exact this
        · have e2 : x = x0 := by omega
          rw [e2, fillL_none _ _ _ _ (Nat.le_refl _)] at this
          rw [fillL_none _ _ _ _ (by omega)]
          exact this
      have HM := Lib.hid hM.cs
      clear hM
      go_wp2_with ((with_reducible refine (Mend_any _ (fillL l (fun _ => blankC) (y * c + x0) (y * c + m)) c y _ HM.out (by rw [fillL_len]; omega)).mono ?_); rintro e w4 ⟨v4, rfl, o4, b4⟩)
      go_ret
      exact CellsPost.up ⟨_, rfl, o4, b4⟩ HB3.out
theorem Erase_no (v : Value) (l : List Cl) (cols y x n : Int) (w : World) (h : CS w w.heap.size v l) (hl : l.length ≤ 1099511627776) (hb : gPlace l.length cols y 0 = false) :
    Calls Try.prog 19 #[v, .int .i64 cols, .int .i64 y, .int .i64 x, .int .i64 n] w (CellsPost l w) := by
  obtain ⟨A, k, rfl, h1, h2⟩ := h.form
  have H := Lib.hid h
  have HP := Lib.hid hb
  clear h hb
  go_enter Try.func19, Try.ntmps19
  go_wp2_with (first | ((with_reducible refine (own_any _ l _ H.out hl).mono ?_); rintro e w1 ⟨v1, rfl, o1, b1⟩; have z1 := b1.size; have HC := Lib.hid ((H.out.below b1).more z1); have H1 := Lib.hid o1; have HB := Lib.hid b1; clear o1 b1) | ((with_reducible refine (place_no _ l cols y 0 _ HC.out hl HP.out).mono ?_); rintro e w' ⟨rfl, rfl⟩))
  go_ret
  exact ⟨v1, rfl, H1.out, HB.out⟩
theorem Erase_any (v : Value) (l : List Cl) (cols y x n : Int) (w : World) (h : CS w w.heap.size v l) (hl : l.length ≤ 1099511627776) :
    Calls Try.prog 19 #[v, .int .i64 cols, .int .i64 y, .int .i64 x, .int .i64 n] w (CellsPost (eraseL l cols y x n) w) := by
  cases hb : gPlace l.length cols y 0 with
  | false =>
    unfold eraseL
    rw [hb]
    exact Erase_no v l cols y x n w h hl hb
  | true =>
    unfold eraseL
    rw [hb]
    obtain ⟨r, c, yy, xx, rfl, rfl, _, hG, hy, hx⟩ := gPlace_of hb
    simp only [Int.toNat_natCast, if_true]
    exact Erase_yes v l r c yy x n w h hG hy
end Go.Proofs.Ytejemcpkmfhenaa

namespace Go.Proofs.Ytejemcpkmfhenaa
set_option linter.unusedVariables false

/-- No half of row y is alone. -/
def RowW (l : List Cl) (c y : Nat) : Prop := ∀ x, x < c → badH l c (y * c + x) x = false
/-- No half is alone, in any of r rows. -/
def Whole (l : List Cl) (r c : Nat) : Prop := ∀ y, y < r → RowW l c y
theorem badH_no {l : List Cl} {c i x : Nat} : badH l c i x = false ↔ ((getC l i).h = 1 → x + 1 ≠ c ∧ (getC l (i + 1)).h = 2) ∧ ((getC l i).h = 2 → x ≠ 0 ∧ (getC l (i - 1)).h = 1) := by
  unfold badH
  generalize (getC l i).h = a
  generalize (getC l (i + 1)).h = b
  generalize (getC l (i - 1)).h = d
  simp only [Bool.or_eq_false_iff, Bool.and_eq_false_iff, decide_eq_false_iff_not]
  omega
theorem RowW.same {l m : List Cl} {c y y' : Nat} (h : RowW l c y') (he : ∀ x, x < c → getC m (y * c + x) = getC l (y' * c + x)) : RowW m c y := by
  intro x hx
  have h1 := badH_no.1 (h x hx)
  refine badH_no.2 ⟨fun e => ?_, fun e => ?_⟩
  · rw [he x hx] at e
    obtain ⟨a, b⟩ := h1.1 e
    refine ⟨a, ?_⟩
    rw [Nat.add_assoc] at b ⊢
    rw [he (x + 1) (by omega)]
    exact b
  · rw [he x hx] at e
    obtain ⟨a, b⟩ := h1.2 e
    refine ⟨a, ?_⟩
    rw [show y' * c + x - 1 = y' * c + (x - 1) by omega] at b
    rw [show y * c + x - 1 = y * c + (x - 1) by omega, he (x - 1) (by omega)]
    exact b
theorem RowW.blank {m : List Cl} {c y : Nat} (he : ∀ x, x < c → getC m (y * c + x) = blankC) : RowW m c y := by
  intro x hx
  refine badH_no.2 ⟨fun e => ?_, fun e => ?_⟩
  · rw [he x hx] at e; exact absurd e (by decide)
  · rw [he x hx] at e; exact absurd e (by decide)
theorem getC_out {l : List Cl} {i : Nat} (h : l.length ≤ i) : getC l i = blankC := by
  unfold getC List.getD
  rw [List.getElem?_eq_none h]
  rfl
theorem fill_getC (l : List Cl) (f : Nat → Cl) (lo hi i : Nat) : getC (fillL l f lo hi) i = if i < l.length ∧ lo ≤ i ∧ i < hi then f i else getC l i := by
  unfold getC List.getD
  rw [fillL_get]
  by_cases h : i < l.length
  · rw [if_pos h]
    by_cases h2 : lo ≤ i ∧ i < hi
    · rw [if_pos h2, if_pos ⟨h, h2⟩]
      rfl
    · rw [if_neg h2, if_neg (fun e => h2 e.2)]
  · rw [if_neg h, if_neg (fun e => h e.1), List.getElem?_eq_none (by omega)]
theorem fill_blankC (l : List Cl) (lo hi i : Nat) : getC (fillL l (fun _ => blankC) lo hi) i = if lo ≤ i ∧ i < hi then blankC else getC l i := by
  rw [fill_getC]
  by_cases h : i < l.length
  · by_cases h2 : lo ≤ i ∧ i < hi
    · rw [if_pos ⟨h, h2⟩, if_pos h2]
    · rw [if_neg (fun e => h2 e.2), if_neg h2]
  · rw [if_neg (fun e => h e.1), getC_out (by omega)]
    split <;> rfl
theorem getC_ext {l m : List Cl} (hl : m.length = l.length) (h : ∀ i, i < l.length → getC m i = getC l i) : m = l := by
  apply List.ext_getElem?
  intro i
  by_cases hi : i < l.length
  · rw [getC_of hi, getC_of (by omega), h i hi]
  · rw [List.getElem?_eq_none (by omega), List.getElem?_eq_none (by omega)]
theorem row_ge {lo y c x : Nat} (hx : x < c) : lo * c ≤ y * c + x ↔ lo ≤ y := by
  constructor
  · intro h
    rcases Nat.lt_or_ge y lo with h2 | h2
    · have := Nat.mul_le_mul_right c h2
      rw [Nat.succ_eq_add_one, Nat.add_mul] at this
      omega
    · exact h2
  · intro h
    have := Nat.mul_le_mul_right c h
    omega
/-- A place within row y is in no other one. -/
theorem row_other {c y y' x i : Nat} (hx : x < c) (hne : y' ≠ y) (h1 : y * c ≤ i) (h2 : i < y * c + c) : i ≠ y' * c + x := by
  intro e
  rcases Nat.lt_or_ge y' y with h | h
  · have := Nat.mul_le_mul_right c h
    rw [Nat.succ_eq_add_one, Nat.add_mul] at this
    omega
  · have h3 : y + 1 ≤ y' := by omega
    have := Nat.mul_le_mul_right c h3
    rw [Nat.add_mul] at this
    omega
theorem fill_other {l : List Cl} {f : Nat → Cl} {c y y' x lo hi : Nat} (hx : x < c) (hne : y' ≠ y) (h1 : y * c ≤ lo) (h2 : hi ≤ y * c + c) : getC (fillL l f lo hi) (y' * c + x) = getC l (y' * c + x) := by
  rw [fill_getC]
  by_cases h : y' * c + x < l.length ∧ lo ≤ y' * c + x ∧ y' * c + x < hi
  · exact absurd rfl (row_other (i := y' * c + x) hx hne (by omega) (by omega))
  · rw [if_neg h]
theorem gOk_pos {l : List Cl} {r c : Nat} (hg : GOk l.length r c) (top bottom : Int) : (gOk l.length (c : Int) = true ∧ 0 ≤ top ∧ bottom < (l.length : Int) / (c : Int) ∧ top ≤ bottom) ↔ (0 ≤ top ∧ bottom < (r : Int) ∧ top ≤ bottom) := by
  rw [hg.quo.1, hg.ok]
  simp
theorem upL_getC {l : List Cl} {r c : Nat} (hg : GOk l.length r c) (top bottom : Nat) (n : Int) (htb : top ≤ bottom) (hb : bottom < r) (y x : Nat) (hy : y < r) (hx : x < c) :
    getC (upL l c top bottom n) (y * c + x) = if top ≤ y ∧ y ≤ bottom then (if y + capN n ≤ bottom then getC l ((y + capN n) * c + x) else blankC) else getC l (y * c + x) := by
  have hlt := rc_lt hy hx
  rw [← hg.n] at hlt
  unfold upL
  rw [if_pos ((gOk_pos hg _ _).2 ⟨by omega, by omega, by omega⟩), fill_getC]
  simp only [Int.toNat_natCast]
  have e1 := row_ge (lo := top) (y := y) hx
  have e2 := row_ge (lo := bottom + 1) (y := y) hx
  by_cases h : top ≤ y ∧ y ≤ bottom
  · rw [if_pos h, if_pos ⟨hlt, e1.2 h.1, by have := mt e2.1 (by omega); omega⟩]
    unfold upF
    rw [(rc_div y c x hx).1]
    rw [show y * c + x + capN n * c = (y + capN n) * c + x by rw [Nat.add_mul]; omega]
  · rw [if_neg h, if_neg (fun e => h ⟨e1.1 e.2.1, by have := mt e2.2 (by omega); omega⟩)]
theorem downL_getC {l : List Cl} {r c : Nat} (hg : GOk l.length r c) (top bottom : Nat) (n : Int) (htb : top ≤ bottom) (hb : bottom < r) (y x : Nat) (hy : y < r) (hx : x < c) :
    getC (downL l c top bottom n) (y * c + x) = if top ≤ y ∧ y ≤ bottom then (if top + capN n ≤ y then getC l ((y - capN n) * c + x) else blankC) else getC l (y * c + x) := by
  have hlt := rc_lt hy hx
  rw [← hg.n] at hlt
  unfold downL
  rw [if_pos ((gOk_pos hg _ _).2 ⟨by omega, by omega, by omega⟩), fill_getC]
  simp only [Int.toNat_natCast]
  have e1 := row_ge (lo := top) (y := y) hx
  have e2 := row_ge (lo := bottom + 1) (y := y) hx
  by_cases h : top ≤ y ∧ y ≤ bottom
  · rw [if_pos h, if_pos ⟨hlt, e1.2 h.1, by have := mt e2.1 (by omega); omega⟩]
    unfold downF
    rw [(rc_div y c x hx).1]
    by_cases h3 : top + capN n ≤ y
    · rw [if_pos h3, if_pos h3]
      congr 1
      have : (y - capN n) * c + capN n * c = y * c := by rw [← Nat.add_mul, Nat.sub_add_cancel (by omega)]
      omega
    · rw [if_neg h3, if_neg h3]
  · rw [if_neg h, if_neg (fun e => h ⟨e1.1 e.2.1, by have := mt e2.2 (by omega); omega⟩)]
theorem upL_whole {l : List Cl} {r c : Nat} (hg : GOk l.length r c) (h : Whole l r c) (top bottom n : Int) : Whole (upL l c top bottom n) r c := by
  by_cases hc : 0 ≤ top ∧ bottom < (r : Int) ∧ top ≤ bottom
  · obtain ⟨t, rfl⟩ : ∃ t : Nat, top = t := ⟨top.toNat, by omega⟩
    obtain ⟨b, rfl⟩ : ∃ b : Nat, bottom = b := ⟨bottom.toNat, by omega⟩
    intro y hy
    have hq := upL_getC hg t b n (by omega) (by omega) y
    by_cases h1 : t ≤ y ∧ y ≤ b
    · by_cases h2 : y + capN n ≤ b
      · exact (h (y + capN n) (by omega)).same (fun x hx => by rw [hq x hy hx, if_pos h1, if_pos h2])
      · exact RowW.blank (fun x hx => by rw [hq x hy hx, if_pos h1, if_neg h2])
    · exact (h y hy).same (fun x hx => by rw [hq x hy hx, if_neg h1])
  · unfold upL
    rw [if_neg (fun e => hc ((gOk_pos hg _ _).1 e))]
    exact h
theorem downL_whole {l : List Cl} {r c : Nat} (hg : GOk l.length r c) (h : Whole l r c) (top bottom n : Int) : Whole (downL l c top bottom n) r c := by
  by_cases hc : 0 ≤ top ∧ bottom < (r : Int) ∧ top ≤ bottom
  · obtain ⟨t, rfl⟩ : ∃ t : Nat, top = t := ⟨top.toNat, by omega⟩
    obtain ⟨b, rfl⟩ : ∃ b : Nat, bottom = b := ⟨bottom.toNat, by omega⟩
    intro y hy
    have hq := downL_getC hg t b n (by omega) (by omega) y
    by_cases h1 : t ≤ y ∧ y ≤ b
    · by_cases h2 : t + capN n ≤ y
      · exact (h (y - capN n) (by omega)).same (fun x hx => by rw [hq x hy hx, if_pos h1, if_pos h2])
      · exact RowW.blank (fun x hx => by rw [hq x hy hx, if_pos h1, if_neg h2])
    · exact (h y hy).same (fun x hx => by rw [hq x hy hx, if_neg h1])
  · unfold downL
    rw [if_neg (fun e => hc ((gOk_pos hg _ _).1 e))]
    exact h
/-- What goes up and down again: what went off is blank, all else as it was. -/
theorem up_down {l : List Cl} {r c : Nat} (hg : GOk l.length r c) (top bottom : Nat) (n : Int) (htb : top ≤ bottom) (hb : bottom < r) (y x : Nat) (hy : y < r) (hx : x < c) :
    getC (downL (upL l c top bottom n) c top bottom n) (y * c + x) = if top ≤ y ∧ y ≤ bottom ∧ y < top + capN n then blankC else getC l (y * c + x) := by
  have hu : GOk (upL l c top bottom n).length r c := by rw [upL_len]; exact hg
  rw [downL_getC hu top bottom n htb hb y x hy hx]
  by_cases h1 : top ≤ y ∧ y ≤ bottom
  · rw [if_pos h1]
    by_cases h2 : top + capN n ≤ y
    · rw [if_pos h2, if_neg (by omega), upL_getC hg top bottom n htb hb (y - capN n) x (by omega) hx, if_pos (by omega), if_pos (by omega), Nat.sub_add_cancel (by omega)]
    · rw [if_neg h2, if_pos (by omega)]
  · rw [if_neg h1, if_neg (by omega), upL_getC hg top bottom n htb hb y x hy hx, if_neg h1]

theorem mendL_row {l : List Cl} {r c : Nat} (hg : GOk l.length r c) (y : Nat) (hy : y < r) (x : Nat) (hx : x < c) : getC (mendL l c y) (y * c + x) = if badH l c (y * c + x) x = true then blankC else getC l (y * c + x) := by
  have hlt := rc_lt hy hx
  rw [← hg.n] at hlt
  unfold mendL
  rw [if_pos (gPlace_mk hg (by omega) (by omega) (by omega) (by omega)), fill_getC]
  simp only [Int.toNat_natCast]
  rw [if_pos ⟨hlt, by omega, by omega⟩]
  unfold mendF
  rw [(rc_div y c x hx).2]
theorem mendL_else {l : List Cl} {c : Nat} (y y' x : Nat) (hne : y' ≠ y) (hx : x < c) : getC (mendL l c y) (y' * c + x) = getC l (y' * c + x) := by
  unfold mendL
  split
  · simp only [Int.toNat_natCast]
    exact fill_other hx hne (Nat.le_refl _) (Nat.le_refl _)
  · rfl
theorem mendL_rowW {l : List Cl} {r c : Nat} (hg : GOk l.length r c) (y : Nat) (hy : y < r) : RowW (mendL l c y) c y := by
  intro x hx
  have hm := mendL_row hg y hy
  refine badH_no.2 ⟨fun e => ?_, fun e => ?_⟩
  · rw [hm x hx] at e
    cases hb : badH l c (y * c + x) x with
    | true => rw [hb, if_pos rfl] at e; exact absurd e (by decide)
    | false =>
      rw [hb] at e
      obtain ⟨a, b⟩ := (badH_no.1 hb).1 e
      refine ⟨a, ?_⟩
      have hb2 : badH l c (y * c + (x + 1)) (x + 1) = false := by
        rw [Nat.add_assoc] at b
        refine badH_no.2 ⟨fun e2 => by omega, fun _ => ⟨by omega, ?_⟩⟩
        rw [show y * c + (x + 1) - 1 = y * c + x by omega]
        exact e
      rw [Nat.add_assoc] at b ⊢
      rw [hm (x + 1) (by omega), hb2]
      exact b
  · rw [hm x hx] at e
    cases hb : badH l c (y * c + x) x with
    | true => rw [hb, if_pos rfl] at e; exact absurd e (by decide)
    | false =>
      rw [hb] at e
      obtain ⟨a, b⟩ := (badH_no.1 hb).2 e
      refine ⟨a, ?_⟩
      rw [show y * c + x - 1 = y * c + (x - 1) by omega] at b ⊢
      have hb2 : badH l c (y * c + (x - 1)) (x - 1) = false := by
        refine badH_no.2 ⟨fun _ => ⟨by omega, ?_⟩, fun e2 => by omega⟩
        rw [show y * c + (x - 1) + 1 = y * c + x by omega]
        exact e
      rw [hm (x - 1) (by omega), hb2]
      exact b
/-- Where each other row is whole, all are behind Mend. -/
theorem mendL_whole {l : List Cl} {r c : Nat} (hg : GOk l.length r c) (y : Int) (h : ∀ y' : Nat, y' < r → (y' : Int) ≠ y → RowW l c y') : Whole (mendL l c y) r c := by
  intro y' hy'
  by_cases e : (y' : Int) = y
  · subst e; exact mendL_rowW hg y' hy'
  · by_cases h0 : 0 ≤ y
    · obtain ⟨z, rfl⟩ : ∃ z : Nat, y = z := ⟨y.toNat, by omega⟩
      exact (h y' hy' e).same (fun x hx => mendL_else z y' x (by omega) hx)
    · unfold mendL
      rw [if_neg (fun e2 => by obtain ⟨r1, c1, yy, xx, _, e3, _⟩ := gPlace_of e2; omega)]
      exact h y' hy' e
theorem mendL_same {l : List Cl} {r c : Nat} (hg : GOk l.length r c) (y : Nat) (hy : y < r) (h : RowW l c y) : mendL l c y = l := by
  refine getC_ext (mendL_len _ _ _) (fun i hi => ?_)
  have hi2 : i < r * c := by rw [← hg.n]; exact hi
  have hc := hg.c1
  have hm : i % c < c := Nat.mod_lt _ (by omega)
  have hd : i / c * c + i % c = i := by rw [Nat.mul_comm]; exact Nat.div_add_mod i c
  by_cases e : i / c = y
  · rw [← hd, e, mendL_row hg y hy _ hm, h _ hm]
    rfl
  · rw [← hd]
    exact mendL_else y (i / c) _ e hm
/-- Mend twice is Mend once. -/
theorem mendL_mend (l : List Cl) (cols y : Int) : mendL (mendL l cols y) cols y = mendL l cols y := by
  cases hb : gPlace l.length cols y 0 with
  | true =>
    obtain ⟨r, c, yy, xx, rfl, rfl, _, hG, hy, _⟩ := gPlace_of hb
    exact mendL_same (by rw [mendL_len]; exact hG) yy hy (mendL_rowW hG yy hy)
  | false =>
    have e : mendL l cols y = l := by unfold mendL; rw [hb]; rfl
    rw [e, e]
theorem insertL_whole {l : List Cl} {r c : Nat} (hg : GOk l.length r c) (h : Whole l r c) (y x n : Int) : Whole (insertL l c y x n) r c := by
  unfold insertL
  split
  · rename_i hp
    obtain ⟨r1, c1, yy, xx, e1, rfl, rfl, _, _, hx⟩ := gPlace_of hp
    have : c1 = c := by omega
    subst this
    refine mendL_whole (by rw [fillL_len]; exact hg) _ (fun y' hy' hne => (h y' hy').same (fun x hx => fill_other hx (y := yy) (by omega) ?_ ?_))
    · simp only [Int.toNat_natCast]; omega
    · simp only [Int.toNat_natCast]; omega
  · exact h
theorem deleteL_whole {l : List Cl} {r c : Nat} (hg : GOk l.length r c) (h : Whole l r c) (y x n : Int) : Whole (deleteL l c y x n) r c := by
  unfold deleteL
  split
  · rename_i hp
    obtain ⟨r1, c1, yy, xx, e1, rfl, rfl, _, _, hx⟩ := gPlace_of hp
    have : c1 = c := by omega
    subst this
    refine mendL_whole (by rw [fillL_len]; exact hg) _ (fun y' hy' hne => (h y' hy').same (fun x hx => fill_other hx (y := yy) (by omega) ?_ ?_))
    · simp only [Int.toNat_natCast]; omega
    · simp only [Int.toNat_natCast]; omega
  · exact h
theorem eraseL_whole {l : List Cl} {r c : Nat} (hg : GOk l.length r c) (h : Whole l r c) (y fr til : Int) : Whole (eraseL l c y fr til) r c := by
  unfold eraseL
  split
  · rename_i hp
    obtain ⟨r1, c1, yy, xx, e1, rfl, _, _, _, _⟩ := gPlace_of hp
    have : c1 = c := by omega
    subst this
    refine mendL_whole (by rw [fillL_len]; exact hg) _ (fun y' hy' hne => (h y' hy').same (fun x hx => fill_other hx (y := yy) (by omega) ?_ ?_))
    · simp only [Int.toNat_natCast]; omega
    · simp only [Int.toNat_natCast]; unfold capC; omega
  · exact h
theorem blankL_whole (rows cols : Int) (r c : Nat) : Whole (blankL rows cols) r c := by
  intro y hy
  refine RowW.blank (fun x hx => ?_)
  unfold blankL
  split
  · unfold getC List.getD
    rw [List.getElem?_replicate]
    split <;> rfl
  · rfl
theorem mendAll_same {l : List Cl} {r c : Nat} (hg : GOk l.length r c) (h : Whole l r c) (n : Nat) (hn : n ≤ r) : mendAll l c n = l := by
  induction n with
  | zero => rfl
  | succ n ih => rw [mendAll_succ, ih (by omega), mendL_same hg n (by omega) (h n (by omega))]
theorem map_getC (f : Nat → Cl) (n i : Nat) (h : i < n) : getC ((List.range n).map f) i = f i := by
  unfold getC List.getD
  rw [List.getElem?_map, List.getElem?_range h]
  rfl
/-- Another size, made greater: the rows stay whole, nothing is mended. -/
theorem cutF_getC {l : List Cl} {r c r2 c2 : Nat} (y x : Nat) (hy : y < r2) (hx : x < c2) : getC ((List.range (r2 * c2)).map (cutF l r c r2 c2)) (y * c2 + x) = if y < min r r2 ∧ x < min c c2 then getC l (y * c + x) else blankC := by
  rw [map_getC _ _ _ (rc_lt hy hx)]
  unfold cutF
  rw [(rc_div y c2 x hx).1, (rc_div y c2 x hx).2]
theorem sizeL_great {l : List Cl} {r c r2 c2 : Nat} (hg : GOk l.length r c) (h : Whole l r c) (hr : r ≤ r2) (hc : c ≤ c2) (r3 : r2 ≤ 1000) (c3 : c2 ≤ 1000) :
    sizeL l r c r2 c2 = (List.range (r2 * c2)).map (cutF l r c r2 c2) := by
  have c1 := hg.c1
  have r1 := hg.r1
  unfold sizeL
  rw [if_pos ⟨hg.ok, hg.quo.1, by unfold sizeOk; rw [decide_eq_true_eq]; omega⟩]
  simp only [Int.toNat_natCast]
  have hg2 : GOk ((List.range (r2 * c2)).map (cutF l r c r2 c2)).length r2 c2 := ⟨by omega, c3, by omega, r3, by simp⟩
  refine mendAll_same hg2 (fun y hy => ?_) r2 (Nat.le_refl _)
  have hq := fun x hx => cutF_getC (l := l) (r := r) (c := c) (r2 := r2) (c2 := c2) y x hy hx
  by_cases hyr : y < r
  · intro x hx
    refine badH_no.2 ⟨fun e => ?_, fun e => ?_⟩
    · rw [hq x hx] at e
      by_cases hxc : x < c
      · rw [if_pos (by omega)] at e
        obtain ⟨a, b⟩ := (badH_no.1 (h y hyr x hxc)).1 e
        refine ⟨by omega, ?_⟩
        rw [Nat.add_assoc, hq (x + 1) (by omega), if_pos (by omega), ← Nat.add_assoc]
        exact b
      · rw [if_neg (by omega)] at e; exact absurd e (by decide)
    · rw [hq x hx] at e
      by_cases hxc : x < c
      · rw [if_pos (by omega)] at e
        obtain ⟨a, b⟩ := (badH_no.1 (h y hyr x hxc)).2 e
        refine ⟨a, ?_⟩
        rw [show y * c2 + x - 1 = y * c2 + (x - 1) by omega, hq (x - 1) (by omega), if_pos (by omega), show y * c + (x - 1) = y * c + x - 1 by omega]
        exact b
      · rw [if_neg (by omega)] at e; exact absurd e (by decide)
  · exact RowW.blank (fun x hx => by rw [hq x hx, if_neg (by omega)])
/-- The same size: the same grid. -/
theorem sizeL_same {l : List Cl} {r c : Nat} (hg : GOk l.length r c) (h : Whole l r c) : sizeL l r c r c = l := by
  rw [sizeL_great hg h (Nat.le_refl _) (Nat.le_refl _) hg.r2 hg.c2]
  have hn := hg.n
  refine getC_ext (by simp; omega) (fun i hi => ?_)
  have hc := hg.c1
  have hm : i % c < c := Nat.mod_lt _ (by omega)
  have hd : i / c * c + i % c = i := by rw [Nat.mul_comm]; exact Nat.div_add_mod i c
  have hy : i / c < r := Nat.div_lt_of_lt_mul (by rw [Nat.mul_comm]; omega)
  rw [← hd, cutF_getC (i / c) (i % c) hy hm, if_pos (by omega)]
/-- Greater, and as it was again. -/
theorem sizeL_back {l : List Cl} {r c r2 c2 : Nat} (hg : GOk l.length r c) (h : Whole l r c) (hr : r ≤ r2) (hc : c ≤ c2) (r3 : r2 ≤ 1000) (c3 : c2 ≤ 1000) : sizeL (sizeL l r c r2 c2) r2 c2 r c = l := by
  have c1 := hg.c1
  have r1 := hg.r1
  have hn := hg.n
  rw [sizeL_great hg h hr hc r3 c3]
  have hg2 : GOk ((List.range (r2 * c2)).map (cutF l r c r2 c2)).length r2 c2 := ⟨by omega, c3, by omega, r3, by simp⟩
  unfold sizeL
  rw [if_pos ⟨hg2.ok, hg2.quo.1, by unfold sizeOk; rw [decide_eq_true_eq]; have := hg.r2; have := hg.c2; omega⟩]
  simp only [Int.toNat_natCast]
  have e : (List.range (r * c)).map (cutF ((List.range (r2 * c2)).map (cutF l r c r2 c2)) r2 c2 r c) = l := by
    refine getC_ext (by simp; omega) (fun i hi => ?_)
    have hm : i % c < c := Nat.mod_lt _ (by omega)
    have hd : i / c * c + i % c = i := by rw [Nat.mul_comm]; exact Nat.div_add_mod i c
    have hy : i / c < r := Nat.div_lt_of_lt_mul (by rw [Nat.mul_comm]; omega)
    rw [← hd, cutF_getC (i / c) (i % c) hy hm, if_pos (by omega), cutF_getC (i / c) (i % c) (by omega) (by omega), if_pos (by omega)]
  rw [e]
  exact mendAll_same hg h r (Nat.le_refl _)
theorem sizeL_len {l : List Cl} {r c r2 c2 : Nat} (hg : GOk l.length r c) (r1 : 1 ≤ r2) (r3 : r2 ≤ 1000) (c1 : 1 ≤ c2) (c3 : c2 ≤ 1000) : (sizeL l r c r2 c2).length = r2 * c2 := by
  unfold sizeL
  rw [if_pos ⟨hg.ok, hg.quo.1, by unfold sizeOk; rw [decide_eq_true_eq]; omega⟩, mendAll_len]
  simp
end Go.Proofs.Ytejemcpkmfhenaa

namespace Go.Proofs.Ytejemcpkmfhenaa
open Go.RowKit
set_option linter.unusedVariables false

theorem run_eqlNilC (w : World) (a : Addr) (n c : Nat) : (binOp .eql 22 (.slice (some a) n c) (.slice none 0 0)).run Try.prog w = .ok (.bool false) w := by
  have := run_equal_slice_nil w 22 42 (some a) n c Try.underlying22
  simp [binOp, this]
theorem run_eqlNilC' (w : World) : (binOp .eql 22 (.slice none 0 0) (.slice none 0 0)).run Try.prog w = .ok (.bool true) w := by
  have := run_equal_slice_nil w 22 42 none 0 0 Try.underlying22
  simp [binOp, this]
theorem ite_iff {α : Type} {p q : Prop} [Decidable p] [Decidable q] (h : p ↔ q) (x y : α) : (if p then x else y) = if q then x else y := by
  by_cases hp : p
  · rw [if_pos hp, if_pos (h.1 hp)]
  · rw [if_neg hp, if_neg (fun e => hp (h.2 e))]
/-- So many rows, and of the next one so many columns, are there. -/
def cpF (l : List Cl) (c c2 m Y X i : Nat) : Cl := if i % c2 < m ∧ (i / c2 < Y ∨ (i / c2 = Y ∧ i % c2 < X)) then getC l (i / c2 * c + i % c2) else blankC
def cpL (l : List Cl) (c n c2 m Y X : Nat) : List Cl := (List.range n).map (cpF l c c2 m Y X)
theorem cpL_len (l : List Cl) (c n c2 m Y X : Nat) : (cpL l c n c2 m Y X).length = n := by simp [cpL]
theorem getC_rep (n i : Nat) : getC (List.replicate n blankC) i = blankC := by
  unfold getC List.getD
  rw [List.getElem?_replicate]
  split <;> rfl
theorem getC_set (l : List Cl) (k i : Nat) (v : Cl) (hk : k < l.length) : getC (l.set k v) i = if i = k then v else getC l i := by
  unfold getC List.getD
  rw [List.getElem?_set]
  by_cases e : i = k
  · subst e; rw [if_pos rfl, if_pos rfl, if_pos hk]; rfl
  · rw [if_neg (fun h => e h.symm), if_neg e]
theorem cpL_zero (l : List Cl) (c n c2 m : Nat) : cpL l c n c2 m 0 0 = List.replicate n blankC := by
  refine getC_ext (by simp [cpL]) (fun i hi => ?_)
  rw [List.length_replicate] at hi
  rw [getC_rep, cpL, map_getC _ _ _ hi]
  unfold cpF
  generalize i / c2 = a
  generalize i % c2 = b
  exact if_neg (by omega)
theorem cpL_set (l : List Cl) (c n c2 m Y X : Nat) (hX : X < m) (hm : m ≤ c2) (h : Y * c2 + X < n) : (cpL l c n c2 m Y X).set (Y * c2 + X) (getC l (Y * c + X)) = cpL l c n c2 m Y (X + 1) := by
  refine getC_ext (by simp [cpL]) (fun i hi => ?_)
  rw [cpL_len] at hi
  rw [getC_set _ _ _ _ (by rw [cpL_len]; exact h), cpL, cpL, map_getC _ _ _ hi, map_getC _ _ _ hi]
  unfold cpF
  by_cases e : i = Y * c2 + X
  · subst e
    rw [if_pos rfl, (rc_div Y c2 X (by omega)).1, (rc_div Y c2 X (by omega)).2, if_pos ⟨hX, .inr ⟨rfl, by omega⟩⟩]
  · rw [if_neg e]
    have hd : i / c2 * c2 + i % c2 = i := by rw [Nat.mul_comm]; exact Nat.div_add_mod i c2
    have hne : ¬ (i / c2 = Y ∧ i % c2 = X) := fun ⟨a, b⟩ => e (by rw [← hd, a, b])
    generalize i / c2 = a at hne ⊢
    generalize i % c2 = b at hne ⊢
    exact ite_iff (by omega) _ _
theorem cpL_row (l : List Cl) (c n c2 m Y : Nat) : cpL l c n c2 m Y m = cpL l c n c2 m (Y + 1) 0 := by
  refine getC_ext (by simp [cpL]) (fun i hi => ?_)
  rw [cpL_len] at hi
  rw [cpL, cpL, map_getC _ _ _ hi, map_getC _ _ _ hi]
  unfold cpF
  generalize i / c2 = a
  generalize i % c2 = b
  exact ite_iff (by omega) _ _
theorem cpL_end (l : List Cl) (r c r2 c2 : Nat) : cpL l c (r2 * c2) c2 (min c c2) (min r r2) 0 = (List.range (r2 * c2)).map (cutF l r c r2 c2) := by
  refine getC_ext (by simp [cpL]) (fun i hi => ?_)
  rw [List.length_map, List.length_range] at hi
  rw [cpL, map_getC _ _ _ hi, map_getC _ _ _ hi]
  unfold cpF cutF
  generalize i / c2 = a
  generalize i % c2 = b
  exact ite_iff (by omega) _ _

def SzRow (l : List Cl) (c n c2 m a : Nat) (w : World) (base g cap : Nat) (i : Value) (wr : World) : Prop :=
  ∃ y : Nat, y ≤ a ∧ i = .int .i64 (y : Int) ∧ OC wr base (.slice (some ⟨g, 0, none⟩) n cap) (cpL l c n c2 m y 0) ∧ Below w.heap.size w wr
def SzCol (l : List Cl) (c n c2 m y : Nat) (w : World) (base g cap : Nat) (i : Value) (wr : World) : Prop :=
  ∃ x : Nat, x ≤ m ∧ i = .int .i64 (x : Int) ∧ OC wr base (.slice (some ⟨g, 0, none⟩) n cap) (cpL l c n c2 m y x) ∧ Below w.heap.size w wr
def SzMend (l : List Cl) (c2 r2 : Nat) (w : World) (base : Nat) (o i : Value) (wr : World) : Prop :=
  ∃ y : Nat, y ≤ r2 ∧ i = .int .i64 (y : Int) ∧ OC wr base o (mendAll l (c2 : Int) y) ∧ Below w.heap.size w wr
set_option maxHeartbeats 2000000 in
set_option maxRecDepth 100000 in
theorem Size_yes (v : Value) (l : List Cl) (r c r2 c2 a m : Nat) (w : World) (h : CS w w.heap.size v l) (hg : GOk l.length r c) (r3 : 1 ≤ r2) (r4 : r2 ≤ 1000) (c3 : 1 ≤ c2) (c4 : c2 ≤ 1000)
    (ha : (if r2 < r then (r2 : Int) else (r : Int)) = (a : Int)) (hm : (if c2 < c then (c2 : Int) else (c : Int)) = (m : Int)) :
    Calls Try.prog 23 #[v, .int .i64 (r : Int), .int .i64 (c : Int), .int .i64 (r2 : Int), .int .i64 (c2 : Int)] w (CellsPost (mendAll (cpL l c (r2 * c2) c2 m a 0) (c2 : Int) r2) w) := by
  obtain ⟨A, k, rfl, h1, h2⟩ := h.form
  have H := Lib.hid h
  have HG := Lib.hid hg
  have c1 := hg.c1
  have c5 := hg.c2
  have r5 := hg.r2
  have r1 := hg.r1
  have hn := hg.n
  have hrc := rc_le hg.r2 hg.c2
  have hrc2 := rc_le r4 c4
  have hlen : l.length ≤ 1000000 := by omega
  have hpos : 1 ≤ r2 * c2 := Nat.mul_pos r3 c3
  have ha12 : a ≤ r ∧ a ≤ r2 := by split at ha <;> omega
  have hm12 : m ≤ c ∧ m ≤ c2 := by split at hm <;> omega
  obtain ⟨ha1, ha2⟩ := ha12
  obtain ⟨hm1, hm2⟩ := hm12
  have HN := Lib.hid hn
  clear h hg hn
  obtain ⟨n2, hn2⟩ : ∃ n2 : Nat, n2 = r2 * c2 := ⟨_, rfl⟩
  rw [← hn2] at hrc2 hpos ⊢
  have HN2 := Lib.hid hn2
  have hbl := fun w : World => Blank_yes r2 c2 w r3 r4 c3 c4
  rw [← hn2] at hbl
  have HBL := Lib.hid hbl
  clear hn2 hbl
  go_enter Try.func23, Try.ntmps23
  go_upto_region 2 with ((with_reducible refine (HBL.out _).mono ?_); rintro e w1 ⟨v1, rfl, o1, b1⟩; have z1 := b1.size; have HC := Lib.hid ((H.out.below b1).more z1); have HO := Lib.hid o1; have HB := Lib.hid b1; clear o1 b1)
  obtain ⟨g, cap, rfl, hg1, hg2, hg3, hg4⟩ := HO.out.open_ (by rw [List.length_replicate]; exact hpos)
  rw [List.length_replicate] at hg3
  rw [List.length_replicate]
  have hnil := run_eqlNilC w1 ⟨g, 0, none⟩ n2 cap
  go_wp2_with ((with_reducible refine (grid_yes _ l r c _ HC.out HG.out).mono ?_); rintro e w' ⟨rfl, rfl⟩)
  clear hnil
  go_loopw [14] (fun i wr => SzRow l c n2 c2 m a w w.heap.size g cap i wr) (fun i _ => a - (intOf i).toNat)
  case atStart =>
    refine ⟨0, Nat.zero_le _, rfl, ?_, HB.out⟩
    rw [cpL_zero]
    have := HO.out
    rw [List.length_replicate] at this
    exact this
  case round =>
    generalize wr = w2 at *
    obtain ⟨y, hy, rfl, ho, hb⟩ := hrel
    have HO2 := Lib.hid ho
    have HB2 := Lib.hid hb
    clear ho hb
    by_cases hlt : y < a
    · have q1 : (y : Int) < (a : Int) := by omega
      go_wp2
      go_loopw [15] (fun i wr => SzCol l c n2 c2 m y w w.heap.size g cap i wr) (fun i _ => m - (intOf i).toNat)
      case atStart => exact ⟨0, Nat.zero_le _, rfl, HO2.out, HB2.out⟩
      case round =>
        generalize wr = w3 at *
        obtain ⟨x, hx, rfl, ho, hb⟩ := hrel
        have HO3 := Lib.hid ho
        have HB3 := Lib.hid hb
        have z3 := hb.size
        clear ho hb
        by_cases hxm : x < m
        · have q3 : (x : Int) < (m : Int) := by omega
          obtain ⟨p, hp⟩ : ∃ p : Nat, p = y * c := ⟨_, rfl⟩
          have hyc : (y : Int) * (c : Int) = (p : Int) := by rw [hp]; simp
          have hpx : p + x < l.length := by rw [hp, HN.out]; exact rc_lt (by omega) (by omega)
          obtain ⟨p2, hp2⟩ : ∃ p2 : Nat, p2 = y * c2 := ⟨_, rfl⟩
          have hyc2 : (y : Int) * (c2 : Int) = (p2 : Int) := by rw [hp2]; simp
          have hpx2 : p2 + x < n2 := by rw [hp2, HN2.out]; exact rc_lt (by omega) (by omega)
          have HP := Lib.hid hp
          have HP2 := Lib.hid hp2
          clear hp hp2
          obtain ⟨d, hd⟩ : ∃ d, l[p + x]? = some d := ⟨_, List.getElem?_eq_getElem hpx⟩
          have HD2 := Lib.hid hd
          clear hd
          obtain ⟨x0, y0, z0, s0, s1, s2, f0, f1, f2⟩ := HO3.out.spot (p2 + x) hpx2
          obtain ⟨ad, hA, hab2, t0, t1, t2⟩ := (H.out.below HB3.out).get (p + x) d HD2.out
          subst hA
          have tb : (ad.add ((p + x) * 3)).block < w3.heap.size := by rw [block_add]; omega
          have hg5 : g < w3.heap.size := HO3.out.block.2
          go_wp2
          go_roundw
          case rel =>
            refine ⟨x + 1, by omega, by go_num, ?_, below_put HB3.out hg1 _ _ _ _⟩
            have e : d = getC l (y * c + x) := by
              have := getC_of hpx
              rw [HD2.out] at this
              rw [← HP.out]
              exact Option.some.inj this
            have := HO3.out.put (p2 + x) hpx2 d
            rw [e, show p2 + x = y * c2 + x by rw [HP2.out], cpL_set _ _ _ _ _ _ _ hxm (by omega) (by rw [← HP2.out]; exact hpx2), ← e, show y * c2 + x = p2 + x by rw [HP2.out]] at this
            exact this
          case measure => simp [intOf]; omega
        · obtain rfl : m = x := by omega
          go_wp2
          go_roundw
          case rel =>
            refine ⟨y + 1, by omega, by go_num, ?_, HB3.out⟩
            rw [← cpL_row]
            exact HO3.out
          case measure => simp [intOf]; omega
    · obtain rfl : a = y := by omega
      go_wp2
      have HQ := Lib.hid HO2.out
      go_loopw [11, 16] (fun o i wr => SzMend (cpL l c n2 c2 m a 0) c2 r2 w w.heap.size o i wr) (fun _ i _ => r2 - (intOf i).toNat)
      case atStart => exact ⟨0, Nat.zero_le _, rfl, HO2.out, HB2.out⟩
      case round =>
        generalize wr = w3 at *
        obtain ⟨z, hz, rfl, ho, hb⟩ := hrel
        have HO3 := Lib.hid ho
        have HB3 := Lib.hid hb
        have hsz := hb.size
        have HM := Lib.hid ho.cs
        clear ho hb
        by_cases hzr : z < r2
        · go_wp2_with ((with_reducible refine (Mend_any _ (mendAll (cpL l c n2 c2 m a 0) c2 z) c2 z _ HM.out (by rw [mendAll_len, cpL_len]; omega)).mono ?_); rintro e w4 ⟨v4, rfl, o4, b4⟩)
          go_roundw
          case rel =>
            refine ⟨z + 1, by omega, by go_num, ?_, HB3.out.trans (b4.mono hsz)⟩
            rw [mendAll_succ]
            exact o4.lower hsz
          case measure => simp [intOf]; omega
        · obtain rfl : r2 = z := by omega
          go_wp2
          go_ret
          exact ⟨_, rfl, HO3.out, HB3.out⟩
theorem Size_no (v : Value) (l : List Cl) (rows cols rows2 cols2 : Int) (w : World) (h : CS w w.heap.size v l) (hl : l.length ≤ 1099511627776) (hb : ¬ (gOk l.length cols = true ∧ (l.length : Int) / cols = rows ∧ sizeOk rows2 cols2 = true)) :
    Calls Try.prog 23 #[v, .int .i64 rows, .int .i64 cols, .int .i64 rows2, .int .i64 cols2] w (CellsPost l w) := by
  obtain ⟨A, k, rfl, h1, h2⟩ := h.form
  have H := Lib.hid h
  clear h
  cases hs : sizeOk rows2 cols2 with
  | false =>
    have HS := Lib.hid hs
    cases ho : gOk l.length cols with
    | false =>
      have HO := Lib.hid ho
      clear ho hb hs
      have hnil := run_eqlNilC' w
      go_enter Try.func23, Try.ntmps23
      go_wp2_with (first | ((with_reducible refine (Blank_no _ _ _ HS.out).mono ?_); rintro e w' ⟨rfl, rfl⟩) | ((with_reducible refine (grid_no _ l cols _ H.out hl HO.out).mono ?_); rintro e w' ⟨rfl, rfl⟩) | ((with_reducible refine (own_any _ l _ H.out hl).mono ?_); rintro e w1 ⟨v1, rfl, o1, b1⟩; have H1 := Lib.hid o1; have HB := Lib.hid b1; clear o1 b1))
      go_ret
      exact ⟨v1, rfl, H1.out, HB.out⟩
    | true =>
      obtain ⟨r, c, rfl, hG⟩ := gOk_of ho
      have HG := Lib.hid hG
      clear ho hb hs hG
      have hnil := run_eqlNilC' w
      have hd : ((r : Int) = rows) ∨ ¬ ((r : Int) = rows) := by omega
      rcases hd with hd | hd
      · subst hd
        go_enter Try.func23, Try.ntmps23
        go_wp2_with (first | ((with_reducible refine (Blank_no _ _ _ HS.out).mono ?_); rintro e w' ⟨rfl, rfl⟩) | ((with_reducible refine (grid_yes _ l r c _ H.out HG.out).mono ?_); rintro e w' ⟨rfl, rfl⟩) | ((with_reducible refine (own_any _ l _ H.out hl).mono ?_); rintro e w1 ⟨v1, rfl, o1, b1⟩; have H1 := Lib.hid o1; have HB := Lib.hid b1; clear o1 b1))
        go_ret
        exact ⟨v1, rfl, H1.out, HB.out⟩
      · go_enter Try.func23, Try.ntmps23
        go_wp2_with (first | ((with_reducible refine (Blank_no _ _ _ HS.out).mono ?_); rintro e w' ⟨rfl, rfl⟩) | ((with_reducible refine (grid_yes _ l r c _ H.out HG.out).mono ?_); rintro e w' ⟨rfl, rfl⟩) | ((with_reducible refine (own_any _ l _ H.out hl).mono ?_); rintro e w1 ⟨v1, rfl, o1, b1⟩; have H1 := Lib.hid o1; have HB := Lib.hid b1; clear o1 b1))
        go_ret
        exact ⟨v1, rfl, H1.out, HB.out⟩
  | true =>
    have hsz := hs
    unfold sizeOk at hsz
    rw [decide_eq_true_eq] at hsz
    obtain ⟨r2, rfl⟩ : ∃ r2 : Nat, rows2 = r2 := ⟨rows2.toNat, by omega⟩
    obtain ⟨c2, rfl⟩ : ∃ c2 : Nat, cols2 = c2 := ⟨cols2.toNat, by omega⟩
    have r3 : 1 ≤ r2 := by omega
    have r4 : r2 ≤ 1000 := by omega
    have c3 : 1 ≤ c2 := by omega
    have c4 : c2 ≤ 1000 := by omega
    have hrc2 := rc_le r4 c4
    have hpos : 1 ≤ r2 * c2 := Nat.mul_pos r3 c3
    have hbl := fun w : World => Blank_yes r2 c2 w r3 r4 c3 c4
    obtain ⟨n2, hn2⟩ : ∃ n2 : Nat, n2 = r2 * c2 := ⟨_, rfl⟩
    rw [← hn2] at hrc2 hpos hbl
    have HBL := Lib.hid hbl
    clear hn2 hbl hsz
    cases ho : gOk l.length cols with
    | false =>
      have HO := Lib.hid ho
      clear ho hb hs
      go_enter Try.func23, Try.ntmps23
      go_upto_region 2 with ((with_reducible refine (HBL.out _).mono ?_); rintro e w1 ⟨v1, rfl, o1, b1⟩; have z1 := b1.size; have HC := Lib.hid ((H.out.below b1).more z1); have HOO := Lib.hid o1; have HB := Lib.hid b1; clear o1 b1)
      obtain ⟨g, cap, rfl, hg1, hg2, hg3, hg4⟩ := HOO.out.open_ (by rw [List.length_replicate]; exact hpos)
      rw [List.length_replicate] at hg3
      rw [List.length_replicate]
      have hnil := run_eqlNilC w1 ⟨g, 0, none⟩ n2 cap
      go_wp2_with (first | ((with_reducible refine (grid_no _ l cols _ HC.out hl HO.out).mono ?_); rintro e w' ⟨rfl, rfl⟩) | ((with_reducible refine (own_any _ l _ HC.out hl).mono ?_); rintro e w3 ⟨v3, rfl, o3, b3⟩; have H3 := Lib.hid o3; have HB3 := Lib.hid b3; clear o3 b3))
      go_ret
      exact CellsPost.up ⟨v3, rfl, H3.out, HB3.out⟩ HB.out
    | true =>
      obtain ⟨r, c, rfl, hG⟩ := gOk_of ho
      have hq := hG.quo.1
      have hd : ¬ ((r : Int) = rows) := fun e => hb ⟨ho, by rw [hq]; exact e, hs⟩
      have HG := Lib.hid hG
      clear ho hb hs hG hq
      go_enter Try.func23, Try.ntmps23
      go_upto_region 2 with ((with_reducible refine (HBL.out _).mono ?_); rintro e w1 ⟨v1, rfl, o1, b1⟩; have z1 := b1.size; have HC := Lib.hid ((H.out.below b1).more z1); have HOO := Lib.hid o1; have HB := Lib.hid b1; clear o1 b1)
      obtain ⟨g, cap, rfl, hg1, hg2, hg3, hg4⟩ := HOO.out.open_ (by rw [List.length_replicate]; exact hpos)
      rw [List.length_replicate] at hg3
      rw [List.length_replicate]
      have hnil := run_eqlNilC w1 ⟨g, 0, none⟩ n2 cap
      go_wp2_with (first | ((with_reducible refine (grid_yes _ l r c _ HC.out HG.out).mono ?_); rintro e w' ⟨rfl, rfl⟩) | ((with_reducible refine (own_any _ l _ HC.out hl).mono ?_); rintro e w3 ⟨v3, rfl, o3, b3⟩; have H3 := Lib.hid o3; have HB3 := Lib.hid b3; clear o3 b3))
      go_ret
      exact CellsPost.up ⟨v3, rfl, H3.out, HB3.out⟩ HB.out
theorem Size_any (v : Value) (l : List Cl) (rows cols rows2 cols2 : Int) (w : World) (h : CS w w.heap.size v l) (hl : l.length ≤ 1099511627776) :
    Calls Try.prog 23 #[v, .int .i64 rows, .int .i64 cols, .int .i64 rows2, .int .i64 cols2] w (CellsPost (sizeL l rows cols rows2 cols2) w) := by
  by_cases hb : gOk l.length cols = true ∧ (l.length : Int) / cols = rows ∧ sizeOk rows2 cols2 = true
  · unfold sizeL
    rw [if_pos hb]
    obtain ⟨h1, h2, h3⟩ := hb
    obtain ⟨r, c, rfl, hG⟩ := gOk_of h1
    rw [hG.quo.1] at h2
    subst h2
    unfold sizeOk at h3
    rw [decide_eq_true_eq] at h3
    obtain ⟨r2, rfl⟩ : ∃ r2 : Nat, rows2 = r2 := ⟨rows2.toNat, by omega⟩
    obtain ⟨c2, rfl⟩ : ∃ c2 : Nat, cols2 = c2 := ⟨cols2.toNat, by omega⟩
    simp only [Int.toNat_natCast]
    rw [← cpL_end]
    exact Size_yes v l r c r2 c2 (min r r2) (min c c2) w h hG (by omega) (by omega) (by omega) (by omega) (by split <;> omega) (by split <;> omega)
  · unfold sizeL
    rw [if_neg hb]
    exact Size_no v l rows cols rows2 cols2 w h hl hb
end Go.Proofs.Ytejemcpkmfhenaa
