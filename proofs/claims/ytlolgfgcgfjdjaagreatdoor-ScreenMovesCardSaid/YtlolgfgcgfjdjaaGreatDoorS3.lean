/- What is proved here: words for slices of ints in memory over this translation (a slice that reads as a list of ints; a row of ints of the call's own), how they are kept, what append makes of them; words for parsers and rows of acts in memory over this translation: a slice that reads as a list and lies in certain blocks; a parser's value; cells that read as acts; a slice of acts, and one of the call's own; what append makes of it; contracts of the document's small functions on a terminal's parser: which bytes are between, one byte more, runes as acts, U+FFFD's own bytes; a contract of the document's function that takes a byte within a control sequence: in new memory, or in its argument's; the same contract, where a byte is kept (one between, a number's digit, one number more); the same contract, where a number's digit is kept, or one number more. -/
import Derived.Test.YtlolgfgcgfjdjaaGreatDoorRows
import Derived.Test.YtlolgfgcgfjdjaaGreatDoorS1
import Derived.WalkKit
import Derived.WalkSpells
import Derived.WalkLawsBesides
import Derived.Below
import Derived.Lib.Hide
import Derived.Maps.AppendAt
import Derived.Deep.AppendLies
import Derived.Deep.Draws
import Derived.OwnWalk
import Derived.Laws.BytesArg
import Derived.OpenShut
import Derived.Lib.SlBytesConst
import Derived.Test.YtlolgfgcgfjdjaaGreatDoorS2
import Derived.RegionTactic
import Derived.BigRegion
import Derived.Laws.OwnMore
namespace Go.Proofs.YtlolgfgcgfjdjaaGreatDoor
open Go.RowKit
set_option linter.unusedVariables false
set_option linter.unusedSimpArgs false
set_option maxHeartbeats 400000
set_option maxRecDepth 100000
def vI (b : Int) : Value := .int .i64 b
def vIs (l : List Int) : List Value := l.map vI
def OI (w : World) (base : Nat) (v : Value) (l : List Int) : Prop := w.ownsRow base 3 1 v l.length (vIs l)
def IS (w : World) (B : Nat) (v : Value) (l : List Int) : Prop :=
 ∃ A c, v = .slice A l.length c ∧ l.length ≤ c ∧ c ≤ maxLen ∧
  (0 < l.length → ∃ ad, A = some ad ∧ ad.block < B ∧ ∀ j b, l[j]? = some b → w.cell? (ad.add j) = some (vI b))
theorem vIs_one (l : List Int) : ∀ u ∈ vIs l, u.oneCell' = true := by
 intro u hu
 unfold vIs at hu
 rw [List.mem_map] at hu
 obtain ⟨b, _, rfl⟩ := hu
 rfl
section
variable {w w' : World} {B B' base : Nat} {v : Value} {l : List Int}
theorem IS.keep (h : IS w B v l) (hk : ∀ p : Addr, p.block < B → w'.cell? p = w.cell? p) : IS w' B v l := by
 obtain ⟨A, c, hv, h1, h2, h3⟩ := h
 refine ⟨A, c, hv, h1, h2, fun hl => ?_⟩
 obtain ⟨ad, hA, hb, hc⟩ := h3 hl
 exact ⟨ad, hA, hb, fun j b hj => (hk _ (by rw [block_add]; exact hb)).trans (hc j b hj)⟩
theorem IS.below (h : IS w B v l) (hb : Below B w w') : IS w' B v l := h.keep fun _ hp => hb.cell hp
theorem IS.more (h : IS w B v l) (hB : B ≤ B') : IS w B' v l := by
 obtain ⟨A, c, hv, h1, h2, h3⟩ := h
 refine ⟨A, c, hv, h1, h2, fun hl => ?_⟩
 obtain ⟨ad, hA, hb, hc⟩ := h3 hl
 exact ⟨ad, hA, by omega, hc⟩
theorem IS.alloc (h : IS w B v l) (hB : B ≤ w.heap.size) (o : Obj) : IS (w.alloc o) B v l := h.keep fun p hp => World.cell?_alloc_lt w o p (by omega)
theorem IS.nil (w : World) (B : Nat) : IS w B (.slice none 0 0) [] := ⟨none, 0, rfl, by simp, by simp [maxLen], fun h => absurd h (by simp)⟩
theorem IS.at_ (h : IS w B v l) : ∃ A c, v = .slice A l.length c ∧ l.length ≤ c ∧ c ≤ maxLen ∧
  ∀ k (hk : k < l.length), ∃ ad, A = some ad ∧ w.cell? (ad.add k) = some (vI (l[k]'hk)) := by
 obtain ⟨A, c, hv, h1, h2, h3⟩ := h
 refine ⟨A, c, hv, h1, h2, fun k hk => ?_⟩
 obtain ⟨ad, hA, _, hc⟩ := h3 (by omega)
 exact ⟨ad, hA, hc k _ (List.getElem?_eq_getElem hk)⟩
theorem OI.nil (w : World) (base : Nat) : OI w base (.slice none 0 0) [] := World.ownsRow_nil w base _ _
theorem OI.below (h : OI w base v l) (hb : Below w.heap.size w w') : OI w' base v l := by
 have hg : w.grownBy w' none := ⟨hb.os, hb.tape, hb.output, hb.size, fun i hi _ => hb.block i hi⟩
 unfold OI at h ⊢
 refine h.kept hg ?_
 cases hv : v.ownBlock with
 | none => exact Or.inl rfl
 | some k => exact Or.inr (by simp)
theorem OI.bs (h : OI w base v l) : IS w w.heap.size v l := by
 unfold OI at h
 rcases h.2 with ⟨rfl, hn⟩ | ⟨g, cap, cur, rfl, hbg, hg, hnc, hcm, hcs, htake⟩
 ·have : l = [] := List.eq_nil_of_length_eq_zero hn
  subst this
  exact IS.nil w _
 ·have hlt : g < w.heap.size := by
   rcases Nat.lt_or_ge g w.heap.size with hh | hh
   ·exact hh
   ·rw [Array.getElem?_eq_none hh] at hg; cases hg
  refine ⟨_, cap, rfl, hnc, hcm, fun _ => ⟨_, rfl, hlt, fun j b hj => ?_⟩⟩
  refine h.cells (g := g) rfl j (vI b) ?_
  unfold vIs
  rw [List.getElem?_map, hj]; rfl
end
theorem IS.cut {w : World} {B : Nat} {A : Option Addr} {n c : Nat} {l : List Int} (h : IS w B (.slice A n c) l) (k m j : Nat) (hk : k + m ≤ l.length) (hj : j = m) :
  IS w B (.slice (if c = k then A else Option.map (fun x => x.add k) A) j (c - k)) ((l.drop k).take m) := by
 subst hj
 obtain ⟨A', c', hv, h1, h2, h3⟩ := h
 simp only [Value.slice.injEq] at hv
 obtain ⟨rfl, rfl, rfl⟩ := hv
 have hlen : ((l.drop k).take j).length = j := by simp; omega
 refine ⟨_, c - k, by rw [hlen], by rw [hlen]; omega, by omega, fun hl => ?_⟩
 rw [hlen] at hl
 obtain ⟨ad, rfl, hb, hc⟩ := h3 (by omega)
 rw [if_neg (by omega)]
 refine ⟨ad.add k, rfl, by rw [block_add]; exact hb, fun i b hi => ?_⟩
 rw [add_add]
 refine hc _ b ?_
 rw [List.getElem?_take] at hi
 split at hi
 ·rw [List.getElem?_drop] at hi; exact hi
 ·cases hi
theorem IS.cutH {w : World} {B : Nat} {A : Option Addr} {n c : Nat} {l : List Int} (h : IS w B (.slice A n c) l) (m j : Nat) (hk : m ≤ l.length) (hj : j = m) :
  IS w B (.slice A j c) (l.take m) := by
 obtain ⟨A', c', hv, h1, h2, h3⟩ := h
 simp only [Value.slice.injEq] at hv
 obtain ⟨rfl, rfl, rfl⟩ := hv
 subst hj
 have hlen : (l.take j).length = j := by simp; omega
 refine ⟨A, c, by rw [hlen], by omega, h2, fun hl => ?_⟩
 rw [hlen] at hl
 obtain ⟨ad, rfl, hb, hc⟩ := h3 (by omega)
 refine ⟨ad, rfl, hb, fun i b hi => ?_⟩
 refine hc _ b ?_
 rw [List.getElem?_take] at hi
 split at hi
 ·exact hi
 ·cases hi
theorem IS.one (w : World) (b : Int) (t : TypeId) : IS (w.alloc (.cells #[vI b] t)) (w.heap.size + 1) (.slice (some ⟨w.heap.size, 0, none⟩) 1 1) [b] := by
 refine ⟨_, 1, rfl, by simp, by simp [maxLen], fun _ => ⟨_, rfl, by simp, fun j c hj => ?_⟩⟩
 match j, hj with
 | 0, hj =>
  simp at hj
  subst hj
  simp [Addr.add]
theorem OI.alloc {w : World} {base : Nat} {v : Value} {l : List Int} (h : OI w base v l) (o : Obj) : OI (w.alloc o) base v l := World.ownsRow.alloc h o
theorem IS.lit (w : World) (l : List Int) (n : Nat) (cs : Array Value) (t : TypeId) (hn : n = l.length) (hcs : cs = (vIs l).toArray) (hm : l.length ≤ 1048576) :
  IS (w.alloc (.cells cs t)) (w.heap.size + 1) (.slice (some ⟨w.heap.size, 0, none⟩) n n) l := by
 subst hn
 subst hcs
 refine ⟨_, _, rfl, by simp, by simp [maxLen]; omega, fun _ => ⟨_, rfl, by simp, fun j b hj => ?_⟩⟩
 have h := World.news_of_block (heap_alloc_new w (.cells (vIs l).toArray t)) j (vI b)
 exact h (by simp [vIs, hj])
theorem IS.litM (w : World) (l : List Int) (n : Nat) (cs : Array Value) (t : TypeId) (fr : Nat × Nat) (hn : n = l.length) (hcs : cs = (vIs l).toArray) (hm : l.length ≤ 1048576) :
  IS (w.alloc (.cells cs t fr)) (w.heap.size + 1) (.slice (some ⟨w.heap.size, 0, none⟩) n n) l := by
 subst hn
 subst hcs
 refine ⟨_, _, rfl, by simp, by simp [maxLen]; omega, fun _ => ⟨_, rfl, by simp, fun j b hj => ?_⟩⟩
 have h := World.news_of_block (heap_alloc_new w (.cells (vIs l).toArray t fr)) j (vI b)
 exact h (by simp [vIs, hj])
theorem intInfo : (Tryz.prog.info? 3).map (fun i => (i.zero, i.size, i.bytes)) = some (some (.int .i64 0), 1, 8) := by kernel_rfl
theorem run_appI (w : World) (ty : TypeId) {base B : Nat} {v u : Value} {l m : List Int} (hown : OI w base v l) (hr : IS w B u m) (hlen : l.length + m.length ≤ 1099511627776) (hbase : base ≤ w.heap.size) :
  ∃ v' w', (Builtin.append_ #[27, 27] ty #[v, u]).run Tryz.prog w = .ok v' w' ∧ OI w' base v' (l ++ m) ∧ w.grownBy w' v.ownBlock ∧ Below base w w' ∧ (v'.ownBlock = v.ownBlock ∨ v'.ownBlock = some w.heap.size) := by
 obtain ⟨i0, hi0, hz0, hz1, hz2⟩ := info_parts intInfo
 have hlt := World.ownsRow.lt hown
 have hfin : ∀ v' w', w'.ownsRow base 3 1 v' (l.length + m.length) (vIs l ++ vIs m) → OI w' base v' (l ++ m) := by
  intro v' w' h
  unfold OI vIs
  rw [List.length_append, List.map_append]
  exact h
 obtain ⟨A, c, rfl, h1, h2, h3⟩ := hr
 rcases Nat.eq_zero_or_pos m.length with h0 | h0
 ·have hm : m = [] := List.eq_nil_of_length_eq_zero h0
  subst hm
  refine ⟨v, w, ?_, by simpa using hown, World.grownBy.refl w _, Below.refl _ _, .inl rfl⟩
  rcases hown.2 with ⟨rfl, hn⟩ | ⟨g, cap, cur, rfl, _, _, hnc, _⟩
  ·cases A <;> simp [Builtin.append_, run_underlying Tryz.underlying27, sizeOf, typeInfo, hi0, Builtin.lenOf, Builtin.firstCells, loadCells, loadCellsFrom]
  ·cases A <;> simp [Builtin.append_, run_underlying Tryz.underlying27, sizeOf, typeInfo, hi0, Builtin.lenOf, Builtin.firstCells, hnc, storeCells, loadCells, loadCellsFrom]
 ·obtain ⟨ad, rfl, hb, hc⟩ := h3 h0
  obtain ⟨v', w', hrun, h4, h5, _, h6⟩ := run_append_own_at (P := Tryz.prog) w base 27 ty 3 i0 _ 1 8 Tryz.underlying27 hi0 hz0 hz1 hz2 rfl (by omega) v l.length (vIs l) hown ad m.length c (vIs m) (by simp [vIs])
   (fun j u hj => by
    unfold vIs at hj
    rw [List.getElem?_map] at hj
    cases hmj : m[j]? with
    | none => rw [hmj] at hj; cases hj
    | some b =>
     rw [hmj] at hj
     simp only [Option.map_some, Option.some.injEq] at hj
     subst hj
     exact hc j b hmj)
   (vIs_one m) (by simp only [maxLen]; omega) (by omega) hbase
  exact ⟨v', w', hrun, hfin v' w' h4, h5, (Below.refl _ _).grown h5 hbase (fun k hk => (hlt k hk).1), h6⟩
theorem wpl_appI (w : World) {ops : Array Oper} {rest : List Oper} {o : Oper} {a : Act} {Q : Exit → Act → World → Prop} (hgd : o.guard = none) (s x : Operand)
  (ho : o.op = .call { callee := .builtin .append, args := #[s, x], argTypes := #[27, 27] })
  (base B : Nat) (v u : Value) (l m : List Int) (hs : a.eval s = v) (hx : a.eval x = u) (hown : OI w base v l) (hr : IS w B u m) (hlen : l.length + m.length ≤ 1099511627776) (hbase : base ≤ w.heap.size)
  (h : ∀ v' w', OI w' base v' (l ++ m) → w.grownBy w' v.ownBlock → Below base w w' → (v'.ownBlock = v.ownBlock ∨ v'.ownBlock = some w.heap.size) → wpList Tryz.prog ops Q rest (a.put o.dst v') w') :
  wpList Tryz.prog ops Q (o :: rest) a w := by
 refine wpList_plain hgd fun K hK => ?_
 obtain ⟨v', w', hrun, h2, h3, h4, h5⟩ := run_appI w o.type hown hr hlen hbase
 unfold Oper.wp execOp
 simp only [ho, resolve, invoke, builtin, Sem.run_bind, Sem.run_pure, Result.andThen_ok, List.map_toArray, List.map_cons, List.map_nil, hs, hx, hrun]
 exact hK _ _ (h v' w' h2 h3 h4 h5)
end Go.Proofs.YtlolgfgcgfjdjaaGreatDoor

namespace Go.Proofs.YtlolgfgcgfjdjaaGreatDoor
open Go.RowKit
set_option linter.unusedVariables false
set_option linter.unusedSimpArgs false
set_option maxHeartbeats 400000
set_option maxRecDepth 100000
def SL {α : Type} (f : α → Value) (w : World) (S : Nat → Prop) (v : Value) (l : List α) : Prop :=
 ∃ A c, v = .slice A l.length c ∧ l.length ≤ c ∧ c ≤ maxLen ∧ (0 < l.length → ∃ ad, A = some ad ∧ S ad.block ∧ ∀ j b, l[j]? = some b → w.cell? (ad.add j) = some (f b))
section
variable {α : Type} {f : α → Value} {w w' : World} {S S' : Nat → Prop} {v : Value} {l : List α}
theorem SL.keep (h : SL f w S v l) (hk : ∀ p : Addr, S p.block → w'.cell? p = w.cell? p) : SL f w' S v l := by
 obtain ⟨A, c, hv, h1, h2, h3⟩ := h
 refine ⟨A, c, hv, h1, h2, fun hl => ?_⟩
 obtain ⟨ad, hA, hb, hc⟩ := h3 hl
 exact ⟨ad, hA, hb, fun j b hj => (hk _ (by rw [block_add]; exact hb)).trans (hc j b hj)⟩
theorem SL.mono (h : SL f w S v l) (hS : ∀ x, S x → S' x) : SL f w S' v l := by
 obtain ⟨A, c, hv, h1, h2, h3⟩ := h
 refine ⟨A, c, hv, h1, h2, fun hl => ?_⟩
 obtain ⟨ad, hA, hb, hc⟩ := h3 hl
 exact ⟨ad, hA, hS _ hb, hc⟩
theorem SL.nil (f : α → Value) (w : World) (S : Nat → Prop) : SL f w S (.slice none 0 0) [] := ⟨none, 0, rfl, by simp, by simp [maxLen], fun h => absurd h (by simp)⟩
theorem SL.form (h : SL f w S v l) : ∃ A c, v = .slice A l.length c ∧ l.length ≤ c ∧ c ≤ 9223372036854775807 := by
 obtain ⟨A, c, hv, h1, h2, _⟩ := h
 unfold maxLen at h2
 exact ⟨A, c, hv, h1, by omega⟩
end
theorem SL.bs {w : World} {S : Nat → Prop} {B : Nat} {v : Value} {l : List UInt8} (h : SL vB w S v l) (hS : ∀ x, S x → x < B) : BS w B v l := h.mono hS
theorem SL.is {w : World} {S : Nat → Prop} {B : Nat} {v : Value} {l : List Int} (h : SL vI w S v l) (hS : ∀ x, S x → x < B) : IS w B v l := h.mono hS
def NewB (w : World) (lo : Nat) (x : Nat) : Prop := lo ≤ x ∧ x < w.heap.size
theorem BN.sl {w : World} {lo : Nat} {v : Value} {l : List UInt8} (h : BN w lo v l) : SL vB w (NewB w lo) v l := by
 obtain ⟨⟨A, c, hv, h1, h2, h3⟩, h4⟩ := h
 refine ⟨A, c, hv, h1, h2, fun hl => ?_⟩
 obtain ⟨ad, hA, hb, hc⟩ := h3 hl
 exact ⟨ad, hA, ⟨h4 ad _ _ (by rw [hv, hA]) hl, hb⟩, hc⟩
theorem OB.sl {w : World} {base : Nat} {v : Value} {l : List UInt8} (h : OB w base v l) : SL vB w (NewB w base) v l := h.bn.sl
theorem OI.sl {w : World} {base : Nat} {v : Value} {l : List Int} (h : OI w base v l) : SL vI w (NewB w base) v l := by
 obtain ⟨A, c, hv, h1, h2, h3⟩ := h.bs
 refine ⟨A, c, hv, h1, h2, fun hl => ?_⟩
 obtain ⟨ad, hA, hb, hc⟩ := h3 hl
 subst hA
 exact ⟨ad, rfl, ⟨(World.ownsRow.lt h ad.block (by rw [hv]; rfl)).1, hb⟩, hc⟩
def PV (w : World) (S : Nat → Prop) (v : Value) (p : Pr) : Prop :=
 ∃ vp vi vu, v = .agg #[.int .i64 (p.mode : Int), .int .u8 (p.priv : Int), vp, vi, vu] ∧ SL vI w S vp p.params ∧ SL vB w S vi p.inter ∧ SL vB w S vu p.utf
theorem PV.keep {w w' : World} {S : Nat → Prop} {v : Value} {p : Pr} (h : PV w S v p) (hk : ∀ q : Addr, S q.block → w'.cell? q = w.cell? q) : PV w' S v p := by
 obtain ⟨vp, vi, vu, hv, h1, h2, h3⟩ := h
 exact ⟨vp, vi, vu, hv, h1.keep hk, h2.keep hk, h3.keep hk⟩
theorem PV.mono {w : World} {S S' : Nat → Prop} {v : Value} {p : Pr} (h : PV w S v p) (hS : ∀ x, S x → S' x) : PV w S' v p := by
 obtain ⟨vp, vi, vu, hv, h1, h2, h3⟩ := h
 exact ⟨vp, vi, vu, hv, h1.mono hS, h2.mono hS, h3.mono hS⟩
def AcsV (w : World) (S : Nat → Prop) : List Value → List Ac → Prop
 | xs, [] => xs = []
 | xs, a :: l => ∃ vp vi ys, xs = [.int .i64 (a.kind : Int), .int .i32 a.r, .int .u8 (a.b : Int), .int .u8 (a.priv : Int), vp, vi] ++ ys ∧ SL vI w S vp a.params ∧ SL vB w S vi a.inter ∧ AcsV w S ys l
section
variable {w w' : World} {S S' : Nat → Prop}
theorem AcsV.keep {xs : List Value} {l : List Ac} (h : AcsV w S xs l) (hk : ∀ q : Addr, S q.block → w'.cell? q = w.cell? q) : AcsV w' S xs l := by
 induction l generalizing xs with
 | nil => exact h
 | cons a l ih =>
  obtain ⟨vp, vi, ys, hx, h1, h2, h3⟩ := h
  exact ⟨vp, vi, ys, hx, h1.keep hk, h2.keep hk, ih h3⟩
theorem AcsV.mono {xs : List Value} {l : List Ac} (h : AcsV w S xs l) (hS : ∀ x, S x → S' x) : AcsV w S' xs l := by
 induction l generalizing xs with
 | nil => exact h
 | cons a l ih =>
  obtain ⟨vp, vi, ys, hx, h1, h2, h3⟩ := h
  exact ⟨vp, vi, ys, hx, h1.mono hS, h2.mono hS, ih h3⟩
theorem AcsV.len {xs : List Value} {l : List Ac} (h : AcsV w S xs l) : xs.length = l.length * 6 := by
 induction l generalizing xs with
 | nil => rw [show xs = [] from h]; simp
 | cons a l ih =>
  obtain ⟨vp, vi, ys, hx, h1, h2, h3⟩ := h
  have := ih h3
  rw [hx]
  simp
  omega
theorem AcsV.append {xs ys : List Value} {l m : List Ac} (h : AcsV w S xs l) (h2 : AcsV w S ys m) : AcsV w S (xs ++ ys) (l ++ m) := by
 induction l generalizing xs with
 | nil => rw [show xs = [] from h]; exact h2
 | cons a l ih =>
  obtain ⟨vp, vi, zs, hx, g1, g2, g3⟩ := h
  exact ⟨vp, vi, zs ++ ys, by rw [hx, List.append_assoc], g1, g2, ih g3⟩
theorem SL.one {α : Type} {f : α → Value} {v : Value} {l : List α} (h : SL f w S v l) : v.oneCell' = true := by
 obtain ⟨A, c, rfl, _⟩ := h
 rfl
theorem AcsV.ones {xs : List Value} {l : List Ac} (h : AcsV w S xs l) : ∀ u ∈ xs, u.oneCell' = true := by
 induction l generalizing xs with
 | nil => rw [show xs = [] from h]; simp
 | cons a l ih =>
  obtain ⟨vp, vi, ys, hx, h1, h2, h3⟩ := h
  intro u hu
  rw [hx] at hu
  simp only [List.cons_append, List.nil_append, List.mem_cons] at hu
  rcases hu with rfl | rfl | rfl | rfl | rfl | rfl | hu
  ·rfl
  ·rfl
  ·rfl
  ·rfl
  ·exact h1.one
  ·exact h2.one
  ·exact ih h3 u hu
end
def AS (w : World) (T S : Nat → Prop) (v : Value) (l : List Ac) : Prop :=
 ∃ A c xs, v = .slice A l.length c ∧ l.length ≤ c ∧ c ≤ maxLen ∧ AcsV w S xs l ∧ (0 < l.length → ∃ ad, A = some ad ∧ T ad.block ∧ ∀ j u, xs[j]? = some u → w.cell? (ad.add j) = some u)
def OA (w : World) (base : Nat) (S : Nat → Prop) (v : Value) (l : List Ac) : Prop :=
 ∃ xs, w.ownsRow base 72 6 v l.length xs ∧ AcsV w S xs l ∧ (∀ g, v.ownBlock = some g → ¬ S g)
section
variable {w w' : World} {T T' S S' : Nat → Prop} {v : Value} {l : List Ac} {base : Nat}
theorem AS.keep (h : AS w T S v l) (hT : ∀ q : Addr, T q.block → w'.cell? q = w.cell? q) (hk : ∀ q : Addr, S q.block → w'.cell? q = w.cell? q) : AS w' T S v l := by
 obtain ⟨A, c, xs, hv, h1, h2, h3, h4⟩ := h
 refine ⟨A, c, xs, hv, h1, h2, h3.keep hk, fun hl => ?_⟩
 obtain ⟨ad, hA, hb, hc⟩ := h4 hl
 exact ⟨ad, hA, hb, fun j u hj => (hT _ (by rw [block_add]; exact hb)).trans (hc j u hj)⟩
theorem AS.mono (h : AS w T S v l) (hT : ∀ x, T x → T' x) (hS : ∀ x, S x → S' x) : AS w T' S' v l := by
 obtain ⟨A, c, xs, hv, h1, h2, h3, h4⟩ := h
 refine ⟨A, c, xs, hv, h1, h2, h3.mono hS, fun hl => ?_⟩
 obtain ⟨ad, hA, hb, hc⟩ := h4 hl
 exact ⟨ad, hA, hT _ hb, hc⟩
theorem AS.nil (w : World) (T S : Nat → Prop) : AS w T S (.slice none 0 0) [] := ⟨none, 0, [], rfl, by simp, by simp [maxLen], rfl, fun h => absurd h (by simp)⟩
theorem AS.form (h : AS w T S v l) : ∃ A c, v = .slice A l.length c ∧ l.length ≤ c ∧ c ≤ 9223372036854775807 := by
 obtain ⟨A, c, xs, hv, h1, h2, _⟩ := h
 unfold maxLen at h2
 exact ⟨A, c, hv, h1, by omega⟩
theorem OA.nil (w : World) (base : Nat) (S : Nat → Prop) : OA w base S (.slice none 0 0) [] := ⟨[], World.ownsRow_nil w base _ _, rfl, fun g h => by cases h⟩
theorem OA.as (h : OA w base S v l) : AS w (NewB w base) S v l := by
 obtain ⟨xs, h1, h2, h3⟩ := h
 rcases h1.2 with ⟨rfl, hn⟩ | ⟨g, cap, cur, rfl, hbg, hg, hnc, hcm, hcs, htake⟩
 ·have : l = [] := List.eq_nil_of_length_eq_zero hn
  subst this
  exact AS.nil _ _ _
 ·exact ⟨_, cap, xs, rfl, hnc, hcm, h2, fun hl => ⟨_, rfl, World.ownsRow.lt h1 g rfl, fun j u hj => h1.cells (g := g) rfl j u hj⟩⟩
theorem OA.lt (h : OA w base S v l) (g : Nat) (hg : v.ownBlock = some g) : base ≤ g ∧ g < w.heap.size := by
 obtain ⟨xs, h1, _⟩ := h
 exact World.ownsRow.lt h1 g hg
theorem OA.weak (h : OA w base S v l) (h1 : ∀ x, S x → S' x) (h2 : ∀ g, v.ownBlock = some g → ¬ S' g) : OA w base S' v l := by
 obtain ⟨xs, a, b, c⟩ := h
 exact ⟨xs, a, b.mono h1, h2⟩
theorem OA.lower {b2 : Nat} (h : OA w base S v l) (hb : b2 ≤ base) : OA w b2 S v l := by
 obtain ⟨xs, ⟨a1, a2⟩, b, c⟩ := h
 refine ⟨xs, ⟨a1, ?_⟩, b, c⟩
 rcases a2 with a2 | ⟨g, cap, cur, hv, hg, hr⟩
 ·exact .inl a2
 ·exact .inr ⟨g, cap, cur, hv, Nat.le_trans hb hg, hr⟩
theorem OA.below (h : OA w base S v l) (hS : ∀ x, S x → x < w.heap.size) (hb : Below w.heap.size w w') : OA w' base S v l := by
 obtain ⟨xs, a, b, c⟩ := h
 have hg : w.grownBy w' none := ⟨hb.os, hb.tape, hb.output, hb.size, fun i hi _ => hb.block i hi⟩
 refine ⟨xs, ?_, b.keep (fun q hq => hb.cell (hS _ hq)), c⟩
 refine World.ownsRow.kept a hg ?_
 cases hv : v.ownBlock with
 | none => exact Or.inl rfl
 | some k => exact Or.inr (by simp)
end
theorem AS.one (w : World) (S : Nat → Prop) (a : Ac) (vp vi : Value) (t : TypeId) (hp : SL vI w S vp a.params) (hi : SL vB w S vi a.inter) (hS : ∀ x, S x → x < w.heap.size) :
  AS (w.alloc (.cells #[.int .i64 (a.kind : Int), .int .i32 a.r, .int .u8 (a.b : Int), .int .u8 (a.priv : Int), vp, vi] t)) (fun x => x = w.heap.size) S (.slice (some ⟨w.heap.size, 0, none⟩) 1 1) [a] := by
 have hk : ∀ q : Addr, S q.block → (w.alloc (.cells #[.int .i64 (a.kind : Int), .int .i32 a.r, .int .u8 (a.b : Int), .int .u8 (a.priv : Int), vp, vi] t)).cell? q = w.cell? q := fun q hq => World.cell?_alloc_lt w _ q (hS _ hq)
 refine ⟨_, 1, [.int .i64 (a.kind : Int), .int .i32 a.r, .int .u8 (a.b : Int), .int .u8 (a.priv : Int), vp, vi], rfl, by simp, by simp [maxLen], ⟨vp, vi, [], rfl, hp.keep hk, hi.keep hk, rfl⟩, fun _ => ⟨_, rfl, rfl, fun j u hj => ?_⟩⟩
 exact World.news_of_block (heap_alloc_new w (.cells #[.int .i64 (a.kind : Int), .int .i32 a.r, .int .u8 (a.b : Int), .int .u8 (a.priv : Int), vp, vi] t)) j u (by simpa using hj)
theorem actInfo : (Tryz.prog.info? 72).map (fun i => (i.zero, i.size, i.bytes)) = some (some (.agg #[.int .i64 0, .int .i32 0, .int .u8 0, .int .u8 0, .slice none 0 0, .slice none 0 0]), 6, 64) := by kernel_rfl
theorem grown_keep {w w' : World} {row : Option Nat} {S : Nat → Prop} (hg : w.grownBy w' row) (hS : ∀ x, S x → x < w.heap.size) (hrow : ∀ g, row = some g → ¬ S g) : ∀ q : Addr, S q.block → w'.cell? q = w.cell? q := fun q hq =>
 World.cell?_of_block (hg.block q.block (hS _ hq) (fun e => hrow _ e.symm hq))
theorem run_appA (w : World) (ty : TypeId) {base : Nat} {S T R : Nat → Prop} {v u : Value} {l m : List Ac} (hown : OA w base S v l) (hr : AS w R T u m) (hS : ∀ x, S x → x < w.heap.size) (hT : ∀ x, T x → x < w.heap.size) (hTg : ∀ g, v.ownBlock = some g → ¬ T g)
  (hlen : l.length + m.length ≤ 1099511627776) (hbase : base ≤ w.heap.size) :
  ∃ v' w', (Builtin.append_ #[68, 68] ty #[v, u]).run Tryz.prog w = .ok v' w' ∧ OA w' base (fun x => S x ∨ T x) v' (l ++ m) ∧ w.grownBy w' v.ownBlock ∧ Below base w w' ∧ (v'.ownBlock = v.ownBlock ∨ v'.ownBlock = some w.heap.size) := by
 obtain ⟨i0, hi0, hz0, hz1, hz2⟩ := info_parts actInfo
 obtain ⟨xs, hx, hax, hng⟩ := hown
 have hlt := World.ownsRow.lt hx
 obtain ⟨A, c, ys, rfl, h1, h2, h3, h4⟩ := hr
 have hlen6 : ys.length = m.length * 6 := h3.len
 rcases Nat.eq_zero_or_pos m.length with h0 | h0
 ·have hm : m = [] := List.eq_nil_of_length_eq_zero h0
  subst hm
  refine ⟨v, w, ?_, ⟨xs, by simpa using hx, by rw [List.append_nil]; exact hax.mono (fun _ h => .inl h), fun g hg h => h.elim (hng g hg) (hTg g hg)⟩, World.grownBy.refl w _, Below.refl _ _, .inl rfl⟩
  rcases hx.2 with ⟨rfl, hn⟩ | ⟨g, cap, cur, rfl, _, _, hnc, _⟩
  ·cases A <;> simp [Builtin.append_, run_underlying Tryz.underlying68, sizeOf, typeInfo, hi0, Builtin.lenOf, Builtin.firstCells, loadCells, loadCellsFrom]
  ·cases A <;> simp [Builtin.append_, run_underlying Tryz.underlying68, sizeOf, typeInfo, hi0, Builtin.lenOf, Builtin.firstCells, hnc, storeCells, loadCells, loadCellsFrom]
 ·obtain ⟨ad, rfl, hb, hc⟩ := h4 h0
  obtain ⟨v', w', hrun, h5, h6, _, h7⟩ := run_append_own_at (P := Tryz.prog) w base 68 ty 72 i0 _ 6 64 Tryz.underlying68 hi0 hz0 hz1 hz2 rfl (by omega) v l.length xs hx ad m.length c ys hlen6 hc h3.ones (by simp only [maxLen]; omega) (by omega) hbase
  have k1 := grown_keep h6 hS (fun g hg => hng g hg)
  have k2 := grown_keep h6 hT hTg
  refine ⟨v', w', hrun, ⟨xs ++ ys, by rw [List.length_append]; exact h5, ((hax.keep k1).mono (fun _ h => .inl h)).append ((h3.keep k2).mono (fun _ h => .inr h)), fun g hg h => ?_⟩, h6, (Below.refl _ _).grown h6 hbase (fun k hk => (hlt k hk).1), h7⟩
  rcases h7 with e | e
  ·rw [e] at hg
   exact h.elim (hng g hg) (hTg g hg)
  ·rw [e] at hg
   injection hg with hg
   subst hg
   rcases h with h | h
   ·exact absurd (hS _ h) (by omega)
   ·exact absurd (hT _ h) (by omega)
theorem wpl_appA (w : World) {ops : Array Oper} {rest : List Oper} {o : Oper} {a : Act} {Q : Exit → Act → World → Prop} (hgd : o.guard = none) (s x : Operand)
  (ho : o.op = .call { callee := .builtin .append, args := #[s, x], argTypes := #[68, 68] })
  (base : Nat) (S R T : Nat → Prop) (v u : Value) (l m : List Ac) (hs : a.eval s = v) (hx : a.eval x = u) (hown : OA w base S v l) (hr : AS w R T u m) (hS : ∀ x, S x → x < w.heap.size) (hT : ∀ x, T x → x < w.heap.size) (hTg : ∀ g, v.ownBlock = some g → ¬ T g) (hlen : l.length + m.length ≤ 1099511627776) (hbase : base ≤ w.heap.size)
  (h : ∀ v' w', OA w' base (fun x => S x ∨ T x) v' (l ++ m) → w.grownBy w' v.ownBlock → Below base w w' → (v'.ownBlock = v.ownBlock ∨ v'.ownBlock = some w.heap.size) → wpList Tryz.prog ops Q rest (a.put o.dst v') w') :
  wpList Tryz.prog ops Q (o :: rest) a w := by
 refine wpList_plain hgd fun K hK => ?_
 obtain ⟨v', w', hrun, h2, h3, h4, h5⟩ := run_appA w o.type hown hr hS hT hTg hlen hbase
 unfold Oper.wp execOp
 simp only [ho, resolve, invoke, builtin, Sem.run_bind, Sem.run_pure, Result.andThen_ok, List.map_toArray, List.map_cons, List.map_nil, hs, hx, hrun]
 exact hK _ _ (h v' w' h2 h3 h4 h5)
end Go.Proofs.YtlolgfgcgfjdjaaGreatDoor

namespace Go.Proofs.YtlolgfgcgfjdjaaGreatDoor
open Go.RowKit
set_option linter.unusedVariables false
set_option linter.unusedSimpArgs false
set_option maxHeartbeats 400000
set_option maxRecDepth 100000
theorem inter_yes (b : UInt8) (h0 : 32 ≤ b.toNat) (h1 : b.toNat ≤ 47) : interB b = true := by simp [interB, h0, h1]
theorem inter_no (b : UInt8) (h : b.toNat < 32 ∨ 47 < b.toNat) : interB b = false := by
 rw [← Bool.not_eq_true]
 simp [interB]
 omega
theorem AS.print (w : World) (r : Int) (t : TypeId) : AS (w.alloc (.cells #[.int .i64 0, .int .i32 r, .int .u8 0, .int .u8 0, .slice none 0 0, .slice none 0 0] t)) (fun x => x = w.heap.size) (fun _ => False) (.slice (some ⟨w.heap.size, 0, none⟩) 1 1) [acP r] :=
 AS.one w (fun _ => False) (acP r) (.slice none 0 0) (.slice none 0 0) t (SL.nil _ _ _) (SL.nil _ _ _) (fun _ h => h.elim)
theorem printsL_succ (l : List Nat) (k : Nat) (h : k < l.length) : printsL (l.take (k + 1)) = printsL (l.take k) ++ [acP (Int.ofNat l[k])] := by
 unfold printsL
 rw [List.take_succ_eq_append_getElem h, List.map_append]
 rfl
theorem formed_two (a c b : UInt8) : formedB [a, c] b = (decide (a.toNat = 239) && decide (c.toNat = 191) && decide (b.toNat = 189)) := by
 rw [Bool.eq_iff_iff]
 simp only [formedB, Bool.and_eq_true, beq_iff_eq, List.cons.injEq, and_true, decide_eq_true_eq, ← UInt8.toNat_inj]
 exact Iff.rfl
end Go.Proofs.YtlolgfgcgfjdjaaGreatDoor

namespace Go.Proofs.YtlolgfgcgfjdjaaGreatDoor
open Go.RowKit
set_option linter.unusedVariables false
set_option linter.unusedSimpArgs false
set_option maxHeartbeats 400000
set_option maxRecDepth 100000
def VtPost (S : Nat → Prop) (r : Pr × List Ac) (w : World) (e : Ending) (w' : World) : Prop :=
 ∃ qv av, e = .returned (.tuple #[qv, av]) ∧ PV w' (fun x => S x ∨ NewB w' w.heap.size x) qv r.1 ∧ AS w' (NewB w' w.heap.size) (fun x => S x ∨ NewB w' w.heap.size x) av r.2 ∧ Below w.heap.size w w'
theorem three_new (w : World) (x y z : Obj) : Below w.heap.size w (((w.alloc x).alloc y).alloc z) ∧ (((w.alloc x).alloc y).alloc z).heap.size = w.heap.size + 1 + 1 + 1 :=
 ⟨(((Below.refl w.heap.size w).alloc (Nat.le_refl _) x).alloc (by simp) y).alloc (by simp; omega) z, by simp⟩
end Go.Proofs.YtlolgfgcgfjdjaaGreatDoor

namespace Go.Proofs.YtlolgfgcgfjdjaaGreatDoor
open Go.RowKit
set_option linter.unusedVariables false
set_option linter.unusedSimpArgs false
set_option maxHeartbeats 400000
set_option maxRecDepth 100000
theorem five_cells {w : World} {g : Nat} {t : TypeId} {x0 x1 x2 x3 x4 : Value} (h : w.heap[g]? = some (.cells #[x0, x1, x2, x3, x4] t)) :
  w.cell? ⟨g, 0, none⟩ = some x0 ∧ w.cell? ⟨g, 1, none⟩ = some x1 ∧ w.cell? ⟨g, 2, none⟩ = some x2 ∧ w.cell? ⟨g, 3, none⟩ = some x3 ∧ w.cell? ⟨g, 4, none⟩ = some x4 ∧ ∀ o, w.frozen? ⟨g, o, none⟩ = false := by
 refine ⟨?_, ?_, ?_, ?_, ?_, fun o => ?_⟩
 ·rw [cell_of_row w g 0 _ t _ h]; rfl
 ·rw [cell_of_row w g 1 _ t _ h]; rfl
 ·rw [cell_of_row w g 2 _ t _ h]; rfl
 ·rw [cell_of_row w g 3 _ t _ h]; rfl
 ·rw [cell_of_row w g 4 _ t _ h]; rfl
 ·simp [World.frozen?, h]
theorem two_kept {w w4 : World} {x y z : Obj} (hb : Below (((w.alloc x).alloc y).alloc z).heap.size (((w.alloc x).alloc y).alloc z) w4) : w4.heap[w.heap.size]? = some x ∧ w4.heap[w.heap.size + 1]? = some y := by
 refine ⟨(hb.block _ (by simp; omega)).trans ?_, (hb.block _ (by simp)).trans ?_⟩
 ·show (((w.heap.push x).push y).push z)[w.heap.size]? = some x
  simp [Array.getElem?_push]
  omega
 ·show (((w.heap.push x).push y).push z)[w.heap.size + 1]? = some y
  rw [Array.getElem?_push, if_neg (by simp), Array.getElem?_push, if_pos (by simp)]
theorem SL.set {α : Type} {f : α → Value} {w : World} {S : Nat → Prop} {v u : Value} {l : List α} {a : Addr} (h : SL f w S v l) (hne : ∀ x, S x → x ≠ a.block) : SL f (w.setCell a u) S v l :=
 h.keep fun q hq => World.cell?_of_block (Below.heap_setCell _ _ _ _ (hne _ hq))
end Go.Proofs.YtlolgfgcgfjdjaaGreatDoor

namespace Go.Proofs.YtlolgfgcgfjdjaaGreatDoor
open Go.RowKit
set_option linter.unusedVariables false
set_option linter.unusedSimpArgs false
set_option maxHeartbeats 400000
set_option maxRecDepth 100000
section
variable {w : World} {base g cap : Nat} {l : List Int}
theorem OI.cellAt (h : OI w base (.slice (some ⟨g, 0, none⟩) l.length cap) l) (j : Nat) (hj : j < l.length) : w.cell? ⟨g, j, none⟩ = some (vI l[j]) := by
 unfold OI at h
 rw [World.ownsRow.cellAt h j (by omega)]
 simp [vIs, hj]
theorem OI.frozenAt (h : OI w base (.slice (some ⟨g, 0, none⟩) l.length cap) l) (j : Nat) : w.frozen? ⟨g, j, none⟩ = false := World.ownsRow.frozenAt h j
theorem OI.stored (h : OI w base (.slice (some ⟨g, 0, none⟩) l.length cap) l) (j : Nat) (x : Int) : OI (w.setCell ⟨g, j, none⟩ (vI x)) base (.slice (some ⟨g, 0, none⟩) l.length cap) (l.set j x) := by
 have := (World.ownsRow.stored h j (vI x)).1
 unfold OI
 rw [List.length_set]
 have e : vIs (l.set j x) = (vIs l).set j (vI x) := by simp [vIs, List.map_set]
 rw [e]
 exact this
theorem OI.formed {v : Value} (h : OI w base v l) (hl : 0 < l.length) : ∃ g cap, v = .slice (some ⟨g, 0, none⟩) l.length cap ∧ l.length ≤ cap ∧ cap ≤ 9223372036854775807 ∧ base ≤ g := by
 unfold OI at h
 rcases h.2 with ⟨hv, h0⟩ | ⟨g', cap', cur, hv, hb, hg, hnc, hcm, hcs, htake⟩
 ·omega
 ·unfold maxLen at hcm
  exact ⟨g', cap', hv, hnc, by omega, hb⟩
end
theorem two_kept3 {w w4 : World} {x y z : Obj} (hb : Below (w.heap.size + 1 + 1 + 1) (((w.alloc x).alloc y).alloc z) w4) : w4.heap[w.heap.size]? = some x ∧ w4.heap[w.heap.size + 1]? = some y := two_kept (by rw [(three_new w x y z).2]; exact hb)
theorem three_kept3 {w w4 : World} {x y z : Obj} (hb : Below (w.heap.size + 1 + 1 + 1) (((w.alloc x).alloc y).alloc z) w4) : w4.heap[w.heap.size]? = some x ∧ w4.heap[w.heap.size + 1]? = some y ∧ w4.heap[w.heap.size + 1 + 1]? = some z := by
 refine ⟨(two_kept3 hb).1, (two_kept3 hb).2, (hb.block _ (by omega)).trans ?_⟩
 show (((w.heap.push x).push y).push z)[w.heap.size + 1 + 1]? = some z
 rw [Array.getElem?_push, if_pos (by simp)]
theorem oneP_some (l : List Int) (h : 0 < l.length) : oneP l = l := by unfold oneP; rw [if_neg (by omega)]
theorem oneP_none (l : List Int) (h : l.length = 0) : oneP l = [0] := by unfold oneP; rw [if_pos h]
end Go.Proofs.YtlolgfgcgfjdjaaGreatDoor
