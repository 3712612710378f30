/- What is proved here: words for slices of runes in memory over this translation (a slice that reads as a list of runes; a row of runes of the call's own), how they are kept, what append makes of them, ; plain facts on UTF-8 as the document tells it: which bytes begin a rune, what a byte comes to behind others, what all come to; each rune's form comes back, bytes may be parted; no program is named; contracts of the document's functions on UTF-8 (which runes may be, which bytes begin one, which are one): memory is left alone; the contract of the document's width of a rune; the contract of the document's comparison of cells, at slices that read alike; the contract of the document's Down; words for a call that tells cells in new memory; the document's Blank of any arguments; contracts of the program's small functions on grids: a size, the nearest number, a blank, a copy, a row of a grid, blanks at a slice's end; which rows and places the program says that a grid has; parts of a slice of cells; the contract of the program's addBlanks: so many blanks at the end of a row of the call's own; the contracts of the program's ahead and back: cells of a grid further ahead or further back, blanks where they were; the contract of the program's mend: a row of a grid, mended in its place; plain facts on cells that go ahead or back in a row of cells: they are what the document's Up, Down, Insert, Delete tell. -/
import Derived.Test.YtejemcpkmfhenaaRows
import Derived.Test.YtejemcpkmfhenaaM1
import Derived.WalkKit
import Derived.WalkSpells
import Derived.WalkLawsBesides
import Derived.Below
import Derived.Lib.Hide
import Derived.Maps.AppendAt
import Derived.Deep.AppendLies
import Derived.Deep.Draws
import Derived.OwnWalk
import Derived.Laws.BytesArg
import Derived.OpenShut
import Derived.Lib.SlBytesConst
import Derived.Test.YtejemcpkmfhenaaLebPlain
import Derived.Deep.QuietTactic
import Derived.BigQuiet
import Derived.Deep.DeepCutAuto
import Derived.Deep.CutRange
import Derived.Laws.MakeOwn
import Derived.Deep.RegionLaw
namespace Go.Proofs.Ytejemcpkmfhenaa
open Go.RowKit

/-- A byte as a value. -/
def vR (b : Int) : Value := .int .i32 b
def vRs (l : List Int) : List Value := l.map vR

/-- A row of bytes of the call's own, from block 'base' on. -/
def OR (w : World) (base : Nat) (v : Value) (l : List Int) : Prop := w.ownsRow base 21 1 v l.length (vRs l)

/-- A slice that reads as the bytes l; it lies below block B. -/
def RS (w : World) (B : Nat) (v : Value) (l : List Int) : Prop :=
  ∃ A c, v = .slice A l.length c ∧ l.length ≤ c ∧ c ≤ maxLen ∧
    (0 < l.length → ∃ ad, A = some ad ∧ ad.block < B ∧ ∀ j b, l[j]? = some b → w.cell? (ad.add j) = some (vR b))

theorem vRs_one (l : List Int) : ∀ u ∈ vRs l, u.oneCell' = true := by
  intro u hu
  unfold vRs at hu
  rw [List.mem_map] at hu
  obtain ⟨b, _, rfl⟩ := hu
  rfl

section
variable {w w' : World} {B B' base : Nat} {v : Value} {l : List Int}
theorem RS.keep (h : RS w B v l) (hk : ∀ p : Addr, p.block < B → w'.cell? p = w.cell? p) : RS w' B v l := by
  obtain ⟨A, c, hv, h1, h2, h3⟩ := h
  refine ⟨A, c, hv, h1, h2, fun hl => ?_⟩
  obtain ⟨ad, hA, hb, hc⟩ := h3 hl
  exact ⟨ad, hA, hb, fun j b hj => (hk _ (by rw [block_add]; exact hb)).trans (hc j b hj)⟩
theorem RS.below (h : RS w B v l) (hb : Below B w w') : RS w' B v l := h.keep fun _ hp => hb.cell hp
theorem RS.more (h : RS w B v l) (hB : B ≤ B') : RS w B' v l := by
  obtain ⟨A, c, hv, h1, h2, h3⟩ := h
  refine ⟨A, c, hv, h1, h2, fun hl => ?_⟩
  obtain ⟨ad, hA, hb, hc⟩ := h3 hl
  exact ⟨ad, hA, by omega, hc⟩
theorem RS.alloc (h : RS w B v l) (hB : B ≤ w.heap.size) (o : Obj) : RS (w.alloc o) B v l := h.keep fun p hp => World.cell?_alloc_lt w o p (by omega)
theorem RS.nil (w : World) (B : Nat) : RS w B (.slice none 0 0) [] := ⟨none, 0, rfl, by simp, by simp [maxLen], fun h => absurd h (by simp)⟩
theorem RS.at_ (h : RS w B v l) : ∃ A c, v = .slice A l.length c ∧ l.length ≤ c ∧ c ≤ maxLen ∧
    ∀ k (hk : k < l.length), ∃ ad, A = some ad ∧ w.cell? (ad.add k) = some (vR (l[k]'hk)) := by
  obtain ⟨A, c, hv, h1, h2, h3⟩ := h
  refine ⟨A, c, hv, h1, h2, fun k hk => ?_⟩
  obtain ⟨ad, hA, _, hc⟩ := h3 (by omega)
  exact ⟨ad, hA, hc k _ (List.getElem?_eq_getElem hk)⟩

theorem OR.nil (w : World) (base : Nat) : OR w base (.slice none 0 0) [] := World.ownsRow_nil w base _ _
theorem OR.below (h : OR w base v l) (hb : Below w.heap.size w w') : OR w' base v l := by
  have hg : w.grownBy w' none := ⟨hb.os, hb.tape, hb.output, hb.size, fun i hi _ => hb.block i hi⟩
  unfold OR at h ⊢
  refine h.kept hg ?_
  cases hv : v.ownBlock with
  | none => exact Or.inl rfl
  | some k => exact Or.inr (by simp)
theorem OR.bs (h : OR w base v l) : RS w w.heap.size v l := by
  unfold OR at h
  rcases h.2 with ⟨rfl, hn⟩ | ⟨g, cap, cur, rfl, hbg, hg, hnc, hcm, hcs, htake⟩
  · have : l = [] := List.eq_nil_of_length_eq_zero hn
    subst this
    exact RS.nil w _
  · have hlt : g < w.heap.size := by
      rcases Nat.lt_or_ge g w.heap.size with hh | hh
      · exact hh
      · rw [Array.getElem?_eq_none hh] at hg; cases hg
    refine ⟨_, cap, rfl, hnc, hcm, fun _ => ⟨_, rfl, hlt, fun j b hj => ?_⟩⟩
    refine h.cells (g := g) rfl j (vR b) ?_
    unfold vRs
    rw [List.getElem?_map, hj]; rfl
end

/-- A part of a slice. -/
theorem RS.cut {w : World} {B : Nat} {A : Option Addr} {n c : Nat} {l : List Int} (h : RS w B (.slice A n c) l) (k m j : Nat) (hk : k + m ≤ l.length) (hj : j = m) :
    RS w B (.slice (if c = k then A else Option.map (fun x => x.add k) A) j (c - k)) ((l.drop k).take m) := by
  subst hj
  obtain ⟨A', c', hv, h1, h2, h3⟩ := h
  simp only [Value.slice.injEq] at hv
  obtain ⟨rfl, rfl, rfl⟩ := hv
  have hlen : ((l.drop k).take j).length = j := by simp; omega
  refine ⟨_, c - k, by rw [hlen], by rw [hlen]; omega, by omega, fun hl => ?_⟩
  rw [hlen] at hl
  obtain ⟨ad, rfl, hb, hc⟩ := h3 (by omega)
  rw [if_neg (by omega)]
  refine ⟨ad.add k, rfl, by rw [block_add]; exact hb, fun i b hi => ?_⟩
  rw [add_add]
  refine hc _ b ?_
  rw [List.getElem?_take] at hi
  split at hi
  · rw [List.getElem?_drop] at hi; exact hi
  · cases hi
theorem RS.cutH {w : World} {B : Nat} {A : Option Addr} {n c : Nat} {l : List Int} (h : RS w B (.slice A n c) l) (m j : Nat) (hk : m ≤ l.length) (hj : j = m) :
    RS w B (.slice A j c) (l.take m) := by
  obtain ⟨A', c', hv, h1, h2, h3⟩ := h
  simp only [Value.slice.injEq] at hv
  obtain ⟨rfl, rfl, rfl⟩ := hv
  subst hj
  have hlen : (l.take j).length = j := by simp; omega
  refine ⟨A, c, by rw [hlen], by omega, h2, fun hl => ?_⟩
  rw [hlen] at hl
  obtain ⟨ad, rfl, hb, hc⟩ := h3 (by omega)
  refine ⟨ad, rfl, hb, fun i b hi => ?_⟩
  refine hc _ b ?_
  rw [List.getElem?_take] at hi
  split at hi
  · exact hi
  · cases hi

/-- A slice of one byte that has just been laid. -/
theorem RS.one (w : World) (b : Int) (t : TypeId) : RS (w.alloc (.cells #[vR b] t)) (w.heap.size + 1) (.slice (some ⟨w.heap.size, 0, none⟩) 1 1) [b] := by
  refine ⟨_, 1, rfl, by simp, by simp [maxLen], fun _ => ⟨_, rfl, by simp, fun j c hj => ?_⟩⟩
  match j, hj with
  | 0, hj =>
    simp at hj
    subst hj
    simp [Addr.add]

theorem OR.alloc {w : World} {base : Nat} {v : Value} {l : List Int} (h : OR w base v l) (o : Obj) : OR (w.alloc o) base v l := World.ownsRow.alloc h o

/-- A slice that has just been laid, its bytes written out. -/
theorem RS.lit (w : World) (l : List Int) (n : Nat) (cs : Array Value) (t : TypeId) (hn : n = l.length) (hcs : cs = (vRs l).toArray) (hm : l.length ≤ 1048576) :
    RS (w.alloc (.cells cs t)) (w.heap.size + 1) (.slice (some ⟨w.heap.size, 0, none⟩) n n) l := by
  subst hn
  subst hcs
  refine ⟨_, _, rfl, by simp, by simp [maxLen]; omega, fun _ => ⟨_, rfl, by simp, fun j b hj => ?_⟩⟩
  have h := World.news_of_block (heap_alloc_new w (.cells (vRs l).toArray t)) j (vR b)
  exact h (by simp [vRs, hj])

/-- The same of a constant string's bytes: the row bears a mark. -/
theorem RS.litM (w : World) (l : List Int) (n : Nat) (cs : Array Value) (t : TypeId) (fr : Nat × Nat) (hn : n = l.length) (hcs : cs = (vRs l).toArray) (hm : l.length ≤ 1048576) :
    RS (w.alloc (.cells cs t fr)) (w.heap.size + 1) (.slice (some ⟨w.heap.size, 0, none⟩) n n) l := by
  subst hn
  subst hcs
  refine ⟨_, _, rfl, by simp, by simp [maxLen]; omega, fun _ => ⟨_, rfl, by simp, fun j b hj => ?_⟩⟩
  have h := World.news_of_block (heap_alloc_new w (.cells (vRs l).toArray t fr)) j (vR b)
  exact h (by simp [vRs, hj])

/-- A row of runes that came in. -/
theorem rs_row {W : World} {a : Addr} {len cap : Nat} {zs : List Int} (hl : len ≤ cap) (hm : cap ≤ maxLen) (hz : zs.length = cap)
    (hcell : ∀ i, i < zs.length → W.cell? (a.add i) = some (.int .i32 (zs.getD i 0))) (hwz : ∀ n ∈ zs, (Lit.int .i32 n).wf = true) : ∃ l, RS W W.heap.size (.slice (some a) len cap) l ∧ ∀ n ∈ l, (Lit.int .i32 n).wf = true := by
  have hlen : (zs.take len).length = len := by simp; omega
  refine ⟨zs.take len, ⟨_, cap, by rw [hlen], by rw [hlen]; exact hl, hm, fun h0 => ⟨a, rfl, ?_, fun j b hj => ?_⟩⟩, fun n hn => hwz n (List.mem_of_mem_take hn)⟩
  · rw [hlen] at h0
    have h := hcell 0 (by omega)
    rw [show a.add 0 = a from by simp [Addr.add]] at h
    rcases Nat.lt_or_ge a.block W.heap.size with hh | hh
    · exact hh
    · simp [World.cell?, Array.getElem?_eq_none hh] at h
  · have hj1 : j < len := by
      rcases Nat.lt_or_ge j len with hh | hh
      · exact hh
      · rw [List.getElem?_eq_none (by rw [hlen]; exact hh)] at hj; cases hj
    have hj2 : j < zs.length := by omega
    rw [hcell j hj2]
    rw [List.getElem?_take, if_pos hj1, List.getElem?_eq_getElem hj2] at hj
    injection hj with hj
    subst hj
    simp [vR, List.getD, List.getElem?_eq_getElem hj2]

theorem runeInfo : (Try.prog.info? 21).map (fun i => (i.zero, i.size, i.bytes)) = some (some (.int .i32 0), 1, 4) := by kernel_rfl

/-- append onto a row of the call's own, of whatever bytes. -/
theorem run_appR (w : World) (ty : TypeId) {base B : Nat} {v u : Value} {l m : List Int} (hown : OR w base v l) (hr : RS w B u m) (hlen : l.length + m.length ≤ 1099511627776) (hbase : base ≤ w.heap.size) :
    ∃ v' w', (Builtin.append_ #[68, 68] ty #[v, u]).run Try.prog w = .ok v' w' ∧ OR w' base v' (l ++ m) ∧ w.grownBy w' v.ownBlock ∧ Below base w w' ∧ (v'.ownBlock = v.ownBlock ∨ v'.ownBlock = some w.heap.size) := by
  obtain ⟨i0, hi0, hz0, hz1, hz2⟩ := info_parts runeInfo
  have hlt := World.ownsRow.lt hown
  have hfin : ∀ v' w', w'.ownsRow base 21 1 v' (l.length + m.length) (vRs l ++ vRs m) → OR w' base v' (l ++ m) := by
    intro v' w' h
    unfold OR vRs
    rw [List.length_append, List.map_append]
    exact h
  obtain ⟨A, c, rfl, h1, h2, h3⟩ := hr
  rcases Nat.eq_zero_or_pos m.length with h0 | h0
  · have hm : m = [] := List.eq_nil_of_length_eq_zero h0
    subst hm
    refine ⟨v, w, ?_, by simpa using hown, World.grownBy.refl w _, Below.refl _ _, .inl rfl⟩
    rcases hown.2 with ⟨rfl, hn⟩ | ⟨g, cap, cur, rfl, _, _, hnc, _⟩
    · cases A <;> simp [Builtin.append_, run_underlying Try.underlying68, sizeOf, typeInfo, hi0, Builtin.lenOf, Builtin.firstCells, loadCells, loadCellsFrom]
    · cases A <;> simp [Builtin.append_, run_underlying Try.underlying68, sizeOf, typeInfo, hi0, Builtin.lenOf, Builtin.firstCells, hnc, storeCells, loadCells, loadCellsFrom]
  · obtain ⟨ad, rfl, hb, hc⟩ := h3 h0
    obtain ⟨v', w', hrun, h4, h5, _, h6⟩ := run_append_own_at (P := Try.prog) w base 68 ty 21 i0 _ 1 4 Try.underlying68 hi0 hz0 hz1 hz2 rfl (by omega) v l.length (vRs l) hown ad m.length c (vRs m) (by simp [vRs])
      (fun j u hj => by
        unfold vRs at hj
        rw [List.getElem?_map] at hj
        cases hmj : m[j]? with
        | none => rw [hmj] at hj; cases hj
        | some b =>
          rw [hmj] at hj
          simp only [Option.map_some, Option.some.injEq] at hj
          subst hj
          exact hc j b hmj)
      (vRs_one m) (by simp only [maxLen]; omega) (by omega) hbase
    exact ⟨v', w', hrun, hfin v' w' h4, h5, (Below.refl _ _).grown h5 hbase (fun k hk => (hlt k hk).1), h6⟩

/-- The same at the operation, for the walk. -/
theorem wpl_appR (w : World) {ops : Array Oper} {rest : List Oper} {o : Oper} {a : Act} {Q : Exit → Act → World → Prop} (hgd : o.guard = none) (s x : Operand)
    (ho : o.op = .call { callee := .builtin .append, args := #[s, x], argTypes := #[68, 68] })
    (base B : Nat) (v u : Value) (l m : List Int) (hs : a.eval s = v) (hx : a.eval x = u) (hown : OR w base v l) (hr : RS w B u m) (hlen : l.length + m.length ≤ 1099511627776) (hbase : base ≤ w.heap.size)
    (h : ∀ v' w', OR w' base v' (l ++ m) → w.grownBy w' v.ownBlock → Below base w w' → (v'.ownBlock = v.ownBlock ∨ v'.ownBlock = some w.heap.size) → wpList Try.prog ops Q rest (a.put o.dst v') w') :
    wpList Try.prog ops Q (o :: rest) a w := by
  refine wpList_plain hgd fun K hK => ?_
  obtain ⟨v', w', hrun, h2, h3, h4, h5⟩ := run_appR w o.type hown hr hlen hbase
  unfold Oper.wp execOp
  simp only [ho, resolve, invoke, builtin, Sem.run_bind, Sem.run_pure, Result.andThen_ok, List.map_toArray, List.map_cons, List.map_nil, hs, hx, hrun]
  exact hK _ _ (h v' w' h2 h3 h4 h5)

end Go.Proofs.Ytejemcpkmfhenaa

namespace Go.Proofs.Ytejemcpkmfhenaa

/-- May a rune be? -/
def mayR (r : Int) : Bool := decide (0 ≤ r) && decide (r ≤ 1114111) && (decide (r < 55296) || decide (57343 < r))
/-- A byte that goes on. -/
def contB (b : UInt8) : Bool := decide (128 ≤ b.toNat) && decide (b.toNat < 192)
def loB (a : Nat) : Nat := if a = 224 then 160 else if a = 240 then 144 else 128
def hiB (a : Nat) : Nat := if a = 237 then 159 else if a = 244 then 143 else 191
theorem hiB_le (a : Nat) : hiB a ≤ 191 := by
  unfold hiB
  split
  · omega
  · split <;> omega
/-- Does b go on a rune that a begins, as its second byte? -/
def secB (a b : UInt8) : Bool := decide (loB a.toNat ≤ b.toNat) && decide (b.toNat ≤ hiB a.toNat)
theorem secB_iff (a b : UInt8) : secB a b = true ↔ loB a.toNat ≤ b.toNat ∧ b.toNat ≤ hiB a.toNat := by simp [secB]
def beginsL : List UInt8 → Bool
  | [a] => decide (194 ≤ a.toNat) && decide (a.toNat ≤ 244)
  | [a, b] => decide (224 ≤ a.toNat) && decide (a.toNat ≤ 244) && secB a b
  | [a, b, c] => decide (240 ≤ a.toNat) && decide (a.toNat ≤ 244) && secB a b && contB c
  | _ => false
/-- The rune that bytes are just a valid form of. -/
def wholeL : List UInt8 → Option Nat
  | [a] => if a.toNat < 128 then some a.toNat else none
  | [a, b] => if (decide (194 ≤ a.toNat) && decide (a.toNat < 224) && contB b) = true then some ((a.toNat - 192) * 64 + (b.toNat - 128)) else none
  | [a, b, c] => if (decide (224 ≤ a.toNat) && decide (a.toNat < 240) && secB a b && contB c) = true then some ((a.toNat - 224) * 4096 + (b.toNat - 128) * 64 + (c.toNat - 128)) else none
  | [a, b, c, d] => if (decide (240 ≤ a.toNat) && decide (a.toNat ≤ 244) && secB a b && contB c && contB d) = true then some ((a.toNat - 240) * 262144 + (b.toNat - 128) * 4096 + (c.toNat - 128) * 64 + (d.toNat - 128)) else none
  | _ => none
/-- A byte with nothing pending. -/
def firstL (b : UInt8) (out : List Nat) : List UInt8 × List Nat :=
  if b.toNat < 128 then ([], out ++ [b.toNat]) else if beginsL [b] then ([b], out) else ([], out ++ [65533])
def stepL (p : List UInt8) (b : UInt8) : List UInt8 × List Nat :=
  if beginsL p = true then
    match wholeL (p ++ [b]) with
    | some r => ([], [r])
    | none => if beginsL (p ++ [b]) then (p ++ [b], []) else firstL b [65533]
  else firstL b []
def allF (s : List UInt8 × List Nat) (l : List UInt8) : List UInt8 × List Nat := l.foldl (fun s b => ((stepL s.1 b).1, s.2 ++ (stepL s.1 b).2)) s
def allL (l : List UInt8) : List UInt8 × List Nat := allF ([], []) l
/-- A rune's form, of one that may be. -/
def formN (r : Nat) : List UInt8 :=
  if r < 128 then [UInt8.ofNat r]
  else if r < 2048 then [UInt8.ofNat (192 + r / 64), UInt8.ofNat (128 + r % 64)]
  else if r < 65536 then [UInt8.ofNat (224 + r / 4096), UInt8.ofNat (128 + r / 64 % 64), UInt8.ofNat (128 + r % 64)]
  else [UInt8.ofNat (240 + r / 262144), UInt8.ofNat (128 + r / 4096 % 64), UInt8.ofNat (128 + r / 64 % 64), UInt8.ofNat (128 + r % 64)]
/-- What a rune is put as. -/
def asR (r : Int) : Nat := if mayR r then r.toNat else 65533
def formL (r : Int) : List UInt8 := formN (asR r)

theorem allF_nil (s : List UInt8 × List Nat) : allF s [] = s := rfl
theorem allF_cons (s : List UInt8 × List Nat) (b : UInt8) (l : List UInt8) : allF s (b :: l) = allF ((stepL s.1 b).1, s.2 ++ (stepL s.1 b).2) l := rfl
theorem allF_step {p q : List UInt8} {t : List Nat} {b : UInt8} (h : stepL p b = (q, t)) (o : List Nat) (l : List UInt8) : allF (p, o) (b :: l) = allF (q, o ++ t) l := by rw [allF_cons]; simp only [h]
theorem allF_append (s : List UInt8 × List Nat) (a b : List UInt8) : allF s (a ++ b) = allF (allF s a) b := List.foldl_append
theorem allF_snoc (s : List UInt8 × List Nat) (l : List UInt8) (b : UInt8) : allF s (l ++ [b]) = ((stepL (allF s l).1 b).1, (allF s l).2 ++ (stepL (allF s l).1 b).2) := by rw [allF_append]; rfl
theorem allF_out (p : List UInt8) (o : List Nat) (l : List UInt8) : allF (p, o) l = ((allF (p, []) l).1, o ++ (allF (p, []) l).2) := by
  induction l generalizing p o with
  | nil => simp [allF_nil]
  | cons b l ih =>
    rw [allF_cons, allF_cons, ih, ih (stepL p b).1 ([] ++ (stepL p b).2)]
    simp

theorem beginsL_len (p : List UInt8) (h : beginsL p = true) : 1 ≤ p.length ∧ p.length ≤ 3 := by
  match p, h with
  | [a], _ => simp
  | [a, b], _ => simp
  | [a, b, c], _ => simp
theorem firstL_pend (b : UInt8) (o : List Nat) : (firstL b o).1 = [] ∨ beginsL (firstL b o).1 = true := by
  unfold firstL
  split
  · exact .inl rfl
  · split
    · exact .inr (by assumption)
    · exact .inl rfl
/-- What is pending is nothing, or it begins. -/
theorem stepL_pend (p : List UInt8) (b : UInt8) : (stepL p b).1 = [] ∨ beginsL (stepL p b).1 = true := by
  unfold stepL
  split
  · split
    · exact .inl rfl
    · split
      · exact .inr (by assumption)
      · exact firstL_pend _ _
  · exact firstL_pend _ _
theorem allF_pend (p : List UInt8) (o : List Nat) (l : List UInt8) (h : p = [] ∨ beginsL p = true) : (allF (p, o) l).1 = [] ∨ beginsL (allF (p, o) l).1 = true := by
  induction l generalizing p o with
  | nil => exact h
  | cons b l ih => rw [allF_cons]; exact ih _ _ (stepL_pend p b)
theorem firstL_len (b : UInt8) (o : List Nat) : (firstL b o).1.length ≤ 1 ∧ (firstL b o).2.length ≤ o.length + 1 := by
  unfold firstL
  split
  · simp
  · split <;> simp
theorem stepL_len (p : List UInt8) (b : UInt8) : (stepL p b).1.length ≤ 3 ∧ (stepL p b).2.length ≤ 2 := by
  unfold stepL
  split
  · split
    · simp
    · split
      · rename_i h
        have := beginsL_len _ h
        exact ⟨this.2, by simp⟩
      · have := firstL_len b [65533]
        simp at this
        omega
  · have := firstL_len b []
    simp at this
    omega
theorem allF_len (p : List UInt8) (o : List Nat) (l : List UInt8) (h : p.length ≤ 3) : (allF (p, o) l).1.length ≤ 3 ∧ (allF (p, o) l).2.length ≤ o.length + 2 * l.length := by
  induction l generalizing p o with
  | nil => simp [allF_nil]; exact h
  | cons b l ih =>
    rw [allF_cons]
    have h1 := stepL_len p b
    have h2 := ih (stepL p b).1 (o ++ (stepL p b).2) h1.1
    simp at h2 ⊢
    omega

theorem firstL_lt (b : UInt8) (o : List Nat) (ho : ∀ r ∈ o, r < 1114112) : ∀ r ∈ (firstL b o).2, r < 1114112 := by
  have := b.toNat_lt
  unfold firstL
  split
  · intro r hr
    rw [List.mem_append, List.mem_singleton] at hr
    rcases hr with hr | hr
    · exact ho r hr
    · omega
  · split
    · exact ho
    · intro r hr
      rw [List.mem_append, List.mem_singleton] at hr
      rcases hr with hr | hr
      · exact ho r hr
      · omega
theorem wholeL_lt (l : List UInt8) (r : Nat) (h : wholeL l = some r) : r < 1114112 := by
  match l, h with
  | [a], h =>
    have := a.toNat_lt
    simp only [wholeL] at h
    split at h <;> simp at h
    omega
  | [a, b], h =>
    have := a.toNat_lt
    have := b.toNat_lt
    simp only [wholeL] at h
    split at h <;> simp at h
    omega
  | [a, b, c], h =>
    have := a.toNat_lt
    have := b.toNat_lt
    have := c.toNat_lt
    simp only [wholeL] at h
    split at h
    · rename_i hc
      simp [contB] at hc
      simp at h
      omega
    · simp at h
  | [a, b, c, d], h =>
    have := b.toNat_lt
    have := c.toNat_lt
    have := d.toNat_lt
    simp only [wholeL] at h
    split at h
    · rename_i hc
      simp only [Bool.and_eq_true, secB_iff, decide_eq_true_eq, contB] at hc
      simp at h
      have := hiB_le a.toNat
      by_cases h4 : a.toNat = 244
      · have h5 : hiB a.toNat = 143 := by rw [h4]; rfl
        omega
      · omega
    · simp at h
theorem stepL_lt (p : List UInt8) (b : UInt8) : ∀ r ∈ (stepL p b).2, r < 1114112 := by
  unfold stepL
  split
  · split
    · rename_i r h
      intro q hq
      simp at hq
      subst hq
      exact wholeL_lt _ _ h
    · split
      · simp
      · exact firstL_lt b _ (by simp)
  · exact firstL_lt b _ (by simp)
theorem allF_lt (p : List UInt8) (o : List Nat) (l : List UInt8) (ho : ∀ r ∈ o, r < 1114112) : ∀ r ∈ (allF (p, o) l).2, r < 1114112 := by
  induction l generalizing p o with
  | nil => exact ho
  | cons b l ih =>
    rw [allF_cons]
    refine ih _ _ fun r hr => ?_
    rcases List.mem_append.1 hr with h | h
    · exact ho r h
    · exact stepL_lt p b r h

theorem step_new (b : UInt8) (h : b.toNat < 128) : stepL [] b = ([], [b.toNat]) := by
  simp [stepL, beginsL, firstL, h]
theorem step_lead (b : UInt8) (h : beginsL [b] = true) : stepL [] b = ([b], []) := by
  have h2 : ¬ b.toNat < 128 := by simp [beginsL] at h; omega
  simp only [stepL, firstL, h2, h]
  simp [beginsL]
theorem step_whole (p : List UInt8) (b : UInt8) (r : Nat) (hp : beginsL p = true) (h : wholeL (p ++ [b]) = some r) : stepL p b = ([], [r]) := by
  simp [stepL, hp, h]
theorem step_more (p : List UInt8) (b : UInt8) (q : List UInt8) (hq : p ++ [b] = q) (hp : beginsL p = true) (h : wholeL (p ++ [b]) = none) (h2 : beginsL (p ++ [b]) = true) : stepL p b = (q, []) := by
  subst hq
  simp [stepL, hp, h, h2]

theorem asR_ok (r : Int) : asR r < 1114112 ∧ (asR r < 55296 ∨ 57343 < asR r) := by
  unfold asR mayR
  split
  · rename_i h
    simp at h
    omega
  · omega
/-- Each rune's form comes back. -/
theorem formN_back (r : Nat) (h1 : r < 1114112) (h2 : r < 55296 ∨ 57343 < r) (o : List Nat) : allF ([], o) (formN r) = ([], o ++ [r]) := by
  rw [allF_out]
  unfold formN
  split
  · rename_i h
    have e : (UInt8.ofNat r).toNat = r := ofNat_toNat _ (by omega)
    rw [allF_step (step_new _ (by rw [e]; exact h)), allF_nil, e]
    rfl
  split
  · rename_i h0 h
    have ea : (UInt8.ofNat (192 + r / 64)).toNat = 192 + r / 64 := ofNat_toNat _ (by omega)
    have eb : (UInt8.ofNat (128 + r % 64)).toNat = 128 + r % 64 := ofNat_toNat _ (by omega)
    generalize UInt8.ofNat (192 + r / 64) = a at *
    generalize UInt8.ofNat (128 + r % 64) = b at *
    have p1 : beginsL [a] = true := by simp [beginsL]; omega
    have q1 : wholeL ([a] ++ [b]) = some r := by
      show wholeL [a, b] = some r
      simp only [wholeL]
      rw [if_pos (by simp [contB]; omega)]
      exact congrArg some (by omega)
    rw [allF_step (step_lead _ p1), allF_step (step_whole _ _ r p1 q1)]
    rfl
  split
  · rename_i h0 h00 h
    have ea : (UInt8.ofNat (224 + r / 4096)).toNat = 224 + r / 4096 := ofNat_toNat _ (by omega)
    have eb : (UInt8.ofNat (128 + r / 64 % 64)).toNat = 128 + r / 64 % 64 := ofNat_toNat _ (by omega)
    have ec : (UInt8.ofNat (128 + r % 64)).toNat = 128 + r % 64 := ofNat_toNat _ (by omega)
    generalize UInt8.ofNat (224 + r / 4096) = a at *
    generalize UInt8.ofNat (128 + r / 64 % 64) = b at *
    generalize UInt8.ofNat (128 + r % 64) = c at *
    have hsec : secB a b = true := by
      rw [secB_iff]
      unfold loB hiB
      refine ⟨?_, ?_⟩
      · split
        · omega
        · split <;> omega
      · split
        · omega
        · split <;> omega
    have p1 : beginsL [a] = true := by simp [beginsL]; omega
    have n1 : wholeL ([a] ++ [b]) = none := by
      show wholeL [a, b] = none
      simp only [wholeL]
      rw [if_neg (by simp; omega)]
    have p2 : beginsL ([a] ++ [b]) = true := by
      show beginsL [a, b] = true
      simp [beginsL, hsec]
      omega
    have q1 : wholeL ([a, b] ++ [c]) = some r := by
      show wholeL [a, b, c] = some r
      simp only [wholeL]
      rw [if_pos (by simp [contB, hsec]; omega)]
      exact congrArg some (by omega)
    rw [allF_step (step_lead _ p1), allF_step (step_more _ _ [a, b] rfl p1 n1 p2), allF_step (step_whole [a, b] c r p2 q1)]
    rfl
  · rename_i h0 h00 h
    have ea : (UInt8.ofNat (240 + r / 262144)).toNat = 240 + r / 262144 := ofNat_toNat _ (by omega)
    have eb : (UInt8.ofNat (128 + r / 4096 % 64)).toNat = 128 + r / 4096 % 64 := ofNat_toNat _ (by omega)
    have ec : (UInt8.ofNat (128 + r / 64 % 64)).toNat = 128 + r / 64 % 64 := ofNat_toNat _ (by omega)
    have ed : (UInt8.ofNat (128 + r % 64)).toNat = 128 + r % 64 := ofNat_toNat _ (by omega)
    generalize UInt8.ofNat (240 + r / 262144) = a at *
    generalize UInt8.ofNat (128 + r / 4096 % 64) = b at *
    generalize UInt8.ofNat (128 + r / 64 % 64) = c at *
    generalize UInt8.ofNat (128 + r % 64) = d at *
    have hsec : secB a b = true := by
      rw [secB_iff]
      unfold loB hiB
      refine ⟨?_, ?_⟩
      · split
        · omega
        · split <;> omega
      · split
        · omega
        · split <;> omega
    have hc : contB c = true := by simp [contB]; omega
    have p1 : beginsL [a] = true := by simp [beginsL]; omega
    have n1 : wholeL ([a] ++ [b]) = none := by
      show wholeL [a, b] = none
      simp only [wholeL]
      rw [if_neg (by simp; omega)]
    have p2 : beginsL ([a] ++ [b]) = true := by
      show beginsL [a, b] = true
      simp [beginsL, hsec]
      omega
    have n2 : wholeL ([a, b] ++ [c]) = none := by
      show wholeL [a, b, c] = none
      simp only [wholeL]
      rw [if_neg (by simp; omega)]
    have p3 : beginsL ([a, b] ++ [c]) = true := by
      show beginsL [a, b, c] = true
      simp [beginsL, hsec, hc]
      omega
    have q1 : wholeL ([a, b, c] ++ [d]) = some r := by
      show wholeL [a, b, c, d] = some r
      simp only [wholeL]
      rw [if_pos (by simp [contB, hsec]; omega)]
      exact congrArg some (by omega)
    rw [allF_step (step_lead _ p1), allF_step (step_more _ _ [a, b] rfl p1 n1 p2), allF_step (step_more [a, b] c [a, b, c] rfl p2 n2 p3), allF_step (step_whole [a, b, c] d r p3 q1)]
    rfl
/-- Runes that are put one behind another come back. -/
theorem forms_back (m : List Int) (o : List Nat) : allF ([], o) (m.flatMap formL) = ([], o ++ m.map asR) := by
  induction m generalizing o with
  | nil => simp [allF_nil]
  | cons r m ih =>
    rw [List.flatMap_cons, allF_append]
    have h := asR_ok r
    show allF (allF ([], o) (formN (asR r))) _ = _
    rw [formN_back _ h.1 h.2, ih]
    simp
theorem formN_len (r : Nat) : 1 ≤ (formN r).length ∧ (formN r).length ≤ 4 := by
  unfold formN
  split
  · simp
  split
  · simp
  split <;> simp
end Go.Proofs.Ytejemcpkmfhenaa

namespace Go.Proofs.Ytejemcpkmfhenaa
open Go.RowKit
set_option linter.unusedVariables false

theorem ret_bool {a b : Bool} (h : a = b) : Ending.returned (.bool a) = .returned (.bool b) := by rw [h]
theorem mayR_true {r : Int} (h0 : 0 ≤ r) (h1 : r ≤ 1114111) (h2 : r < 55296 ∨ 57343 < r) : mayR r = true := by simp [mayR, h0, h1, h2]
theorem mayR_false {r : Int} (h : r < 0 ∨ 1114111 < r ∨ (55296 ≤ r ∧ r ≤ 57343)) : mayR r = false := by
  rw [Bool.eq_false_iff]
  intro hh
  simp [mayR] at hh
  omega
theorem mayr_any (r : Int) (h0 : -2147483648 ≤ r) (h1 : r ≤ 2147483647) (w : World) : Calls Try.prog 67 #[.int .i32 r] w fun e w' => e = .returned (.bool (mayR r)) ∧ w = w' := by
  by_cases a1 : 0 ≤ r
  · by_cases a2 : r ≤ 1114111
    · by_cases a3 : r < 55296
      · rw [mayR_true a1 a2 (.inl a3)]
        go_enter Try.func67, Try.ntmps67
        go_wp2
        go_ret
        exact ⟨rfl, rfl⟩
      · have d3 : decide (r < 55296) = false := by simp; omega
        by_cases a4 : 57343 < r
        · rw [mayR_true a1 a2 (.inr a4)]
          go_enter Try.func67, Try.ntmps67
          go_wp2
          go_ret
          exact ⟨rfl, rfl⟩
        · have d4 : decide (57343 < r) = false := by simp; omega
          rw [mayR_false (.inr (.inr ⟨by omega, by omega⟩))]
          go_enter Try.func67, Try.ntmps67
          go_wp2
          go_ret
          exact ⟨rfl, rfl⟩
    · have d2 : decide (r ≤ 1114111) = false := by simp; omega
      rw [mayR_false (.inr (.inl (by omega)))]
      go_enter Try.func67, Try.ntmps67
      go_wp2
      go_ret
      exact ⟨rfl, rfl⟩
  · have d1 : decide (0 ≤ r) = false := by simp; omega
    rw [mayR_false (.inl (by omega))]
    go_enter Try.func67, Try.ntmps67
    go_wp2
    go_ret
    exact ⟨rfl, rfl⟩

theorem and192 : ∀ a : Nat, a < 256 → a &&& 192 = a / 64 * 64 := by decide +kernel
theorem and192_int (b : UInt8) : bits .and .u8 (b.toNat : Int) 192 = ((b.toNat / 64 * 64 : Nat) : Int) := by
  have := u8_and_nat b.toNat 192 b.toNat_lt (by omega)
  rw [and192 _ b.toNat_lt] at this
  exact this
theorem contB_yes (b : UInt8) (h : contB b = true) : ((bits .and .u8 (b.toNat : Int) 192) != 128) = false := by
  rw [and192_int]
  simp [contB] at h
  have : b.toNat / 64 * 64 = 128 := by omega
  rw [this]
  rfl
theorem contB_no (b : UInt8) (h : contB b = false) : ((bits .and .u8 (b.toNat : Int) 192) != 128) = true := by
  rw [and192_int]
  have h2 : ¬ (b.toNat / 64 * 64 = 128) := by
    intro e
    rw [Bool.eq_false_iff] at h
    apply h
    simp [contB]
    omega
  simp
  omega
theorem BS.lits {w : World} {B : Nat} {v : Value} {a : UInt8} {l : List UInt8} (h : BS w B v (a :: l)) : ∃ ad c, v = .slice (some ad) (a :: l).length c ∧ (a :: l).length ≤ c ∧ c ≤ maxLen ∧ w.cell? ad = some (.int .u8 (a.toNat : Int)) ∧ ∀ j b, l[j]? = some b → w.cell? ⟨ad.block, ad.off + (j + 1), none⟩ = some (.int .u8 (b.toNat : Int)) := by
  obtain ⟨A, c, rfl, h1, h2, h3⟩ := h
  obtain ⟨ad, rfl, _, hc⟩ := h3 (by simp)
  refine ⟨ad, c, rfl, h1, h2, ?_, fun j b hj => ?_⟩
  · have := hc 0 a rfl
    rw [show ad.add 0 = ad from by simp [Addr.add]] at this
    exact this
  · have := hc (j + 1) b (by simpa using hj)
    rw [show ad.add (j + 1) = ⟨ad.block, ad.off + (j + 1), none⟩ from by simp [Addr.add]] at this
    exact this

theorem lo_other (x : Nat) (h1 : x ≠ 224) (h2 : x ≠ 240) : loB x = 128 := by unfold loB; rw [if_neg h1, if_neg h2]
theorem hi_other (x : Nat) (h1 : x ≠ 237) (h2 : x ≠ 244) : hiB x = 191 := by unfold hiB; rw [if_neg h1, if_neg h2]
theorem beg1_iff (a : UInt8) : beginsL [a] = true ↔ 194 ≤ a.toNat ∧ a.toNat ≤ 244 := by simp [beginsL]
theorem beg2_iff (a b : UInt8) : beginsL [a, b] = true ↔ 224 ≤ a.toNat ∧ a.toNat ≤ 244 ∧ loB a.toNat ≤ b.toNat ∧ b.toNat ≤ hiB a.toNat := by simp [beginsL, secB, and_assoc]
theorem beg3_iff (a b c : UInt8) : beginsL [a, b, c] = true ↔ 240 ≤ a.toNat ∧ a.toNat ≤ 244 ∧ loB a.toNat ≤ b.toNat ∧ b.toNat ≤ hiB a.toNat ∧ contB c = true := by simp [beginsL, secB, and_assoc]
theorem lo_ge (x : Nat) : 128 ≤ loB x := by
  unfold loB
  split
  · omega
  · split <;> omega
theorem contB_iff (b : UInt8) : contB b = true ↔ 128 ≤ b.toNat ∧ b.toNat < 192 := by simp [contB]

/-- The last test, at the bounds that the switch has set. -/
theorem fin2 {a b : UInt8} {x L H : Nat} (ha : a.toNat = x) (h0 : 224 ≤ x) (h1 : x ≤ 244) (hL : loB x = L) (hH : hiB x = H) (hb : L ≤ b.toNat) : decide ((b.toNat : Int) ≤ (H : Int)) = beginsL [a, b] := by
  rw [Bool.eq_iff_iff, beg2_iff, ha, hL, hH, decide_eq_true_eq]
  omega
theorem fin2n {a b : UInt8} {x L : Nat} (ha : a.toNat = x) (hL : loB x = L) (hb : b.toNat < L) : false = beginsL [a, b] := by
  rw [Bool.eq_iff_iff, beg2_iff, ha, hL]
  simp
  omega
theorem fin3 {a b c : UInt8} {x L H : Nat} (ha : a.toNat = x) (h0 : 240 ≤ x) (h1 : x ≤ 244) (hL : loB x = L) (hH : hiB x = H) (hc : contB c = true) (hb : L ≤ b.toNat) : decide ((b.toNat : Int) ≤ (H : Int)) = beginsL [a, b, c] := by
  rw [Bool.eq_iff_iff, beg3_iff, ha, hL, hH, decide_eq_true_eq]
  simp only [hc, and_true]
  omega
theorem fin3n {a b c : UInt8} {x L : Nat} (ha : a.toNat = x) (hL : loB x = L) (hb : b.toNat < L) : false = beginsL [a, b, c] := by
  rw [Bool.eq_iff_iff, beg3_iff, ha, hL]
  simp
  omega

theorem nocont2 {a b : UInt8} (h : contB b = false) : false = beginsL [a, b] := by
  cases hh : beginsL [a, b]
  · rfl
  · rw [beg2_iff] at hh
    have h1 := lo_ge a.toNat
    have h2 := hiB_le a.toNat
    rw [(contB_iff b).2 (by omega)] at h
    cases h
theorem nocont3 {a b c : UInt8} (h : contB b = false) : false = beginsL [a, b, c] := by
  cases hh : beginsL [a, b, c]
  · rfl
  · rw [beg3_iff] at hh
    have h1 := lo_ge a.toNat
    have h2 := hiB_le a.toNat
    rw [(contB_iff b).2 (by omega)] at h
    cases h
theorem nocont3c {a b c : UInt8} (h : contB c = false) : false = beginsL [a, b, c] := by
  cases hh : beginsL [a, b, c]
  · rfl
  · rw [beg3_iff, h] at hh
    simp at hh

def BegPost (l : List UInt8) (w : World) (e : Ending) (w' : World) : Prop := e = .returned (.bool (beginsL l)) ∧ w = w'
theorem begPost_of {l : List UInt8} {w : World} {b : Bool} (h : b = beginsL l) : BegPost l w (.returned (.bool b)) w := ⟨by rw [h], rfl⟩

/-- The rounds that have gone by. -/
def Beg2 (b : UInt8) (i : Value) : Prop := ∃ k : Nat, i = .int .i64 (k : Int) ∧ (k = 1 ∨ (k = 2 ∧ contB b = true))
def Beg3 (b c : UInt8) (i : Value) : Prop := ∃ k : Nat, i = .int .i64 (k : Int) ∧ (k = 1 ∨ (k = 2 ∧ contB b = true) ∨ (k = 3 ∧ contB b = true ∧ contB c = true))

set_option maxHeartbeats 1000000 in
set_option maxRecDepth 100000 in
theorem begr2_224 (ad : Addr) (cp : Nat) (a b : UInt8) (x : Nat) (w : World) (ca : w.cell? ad = some (.int .u8 (x : Int))) (cb : w.cell? ⟨ad.block, ad.off + 1, none⟩ = some (.int .u8 (b.toNat : Int))) (HX : Hid (a.toNat = x)) (hx : x = 224) :
    Calls Try.prog 56 #[.slice (some ad) 2 cp] w (BegPost [a, b] w) := by
  subst hx
  have HL : Hid (loB 224 = 160) := rfl
  have HH : Hid (hiB 224 = 191) := rfl
  have y1 := b.toNat_lt
  go_enter Try.func56, Try.ntmps56
  go_wp2
  go_loop [4] (fun i => Beg2 b i) (fun i => 2 - (intOf i).toNat)
  case atStart => exact ⟨1, rfl, .inl rfl⟩
  case round =>
    obtain ⟨k, rfl, hk⟩ := hrel
    rcases hk with rfl | ⟨rfl, hcb⟩
    · cases hcb : contB b
      · have e1 := contB_no b hcb
        have HC := Lib.hid hcb
        clear hcb
        go_wp2
        go_ret
        exact begPost_of (nocont2 HC.out)
      · have e1 := contB_yes b hcb
        have HC := Lib.hid hcb
        clear hcb
        go_wp2
        go_round
        case rel => exact ⟨2, rfl, .inr ⟨rfl, HC.out⟩⟩
        case measure => simp [intOf]
    · have HC := Lib.hid hcb
      clear hcb
      by_cases hb : 160 ≤ b.toNat
      · have hb' : (160 : Int) ≤ (b.toNat : Int) := by omega
        go_wp2
        go_ret
        exact begPost_of (fin2 HX.out (by omega) (by omega) HL.out HH.out hb)
      · have hb' : decide ((160 : Int) ≤ (b.toNat : Int)) = false := by simp; omega
        go_wp2
        go_ret
        exact begPost_of (fin2n HX.out HL.out (by omega))
set_option maxHeartbeats 1000000 in
set_option maxRecDepth 100000 in
theorem begr2_237 (ad : Addr) (cp : Nat) (a b : UInt8) (x : Nat) (w : World) (ca : w.cell? ad = some (.int .u8 (x : Int))) (cb : w.cell? ⟨ad.block, ad.off + 1, none⟩ = some (.int .u8 (b.toNat : Int))) (HX : Hid (a.toNat = x)) (hx : x = 237) :
    Calls Try.prog 56 #[.slice (some ad) 2 cp] w (BegPost [a, b] w) := by
  subst hx
  have HL : Hid (loB 237 = 128) := rfl
  have HH : Hid (hiB 237 = 159) := rfl
  have y1 := b.toNat_lt
  go_enter Try.func56, Try.ntmps56
  go_wp2
  go_loop [4] (fun i => Beg2 b i) (fun i => 2 - (intOf i).toNat)
  case atStart => exact ⟨1, rfl, .inl rfl⟩
  case round =>
    obtain ⟨k, rfl, hk⟩ := hrel
    rcases hk with rfl | ⟨rfl, hcb⟩
    · cases hcb : contB b
      · have e1 := contB_no b hcb
        have HC := Lib.hid hcb
        clear hcb
        go_wp2
        go_ret
        exact begPost_of (nocont2 HC.out)
      · have e1 := contB_yes b hcb
        have HC := Lib.hid hcb
        clear hcb
        go_wp2
        go_round
        case rel => exact ⟨2, rfl, .inr ⟨rfl, HC.out⟩⟩
        case measure => simp [intOf]
    · have HC := Lib.hid hcb
      clear hcb
      by_cases hb : 128 ≤ b.toNat
      · have hb' : (128 : Int) ≤ (b.toNat : Int) := by omega
        go_wp2
        go_ret
        exact begPost_of (fin2 HX.out (by omega) (by omega) HL.out HH.out hb)
      · have hb' : decide ((128 : Int) ≤ (b.toNat : Int)) = false := by simp; omega
        go_wp2
        go_ret
        exact begPost_of (fin2n HX.out HL.out (by omega))
set_option maxHeartbeats 1000000 in
set_option maxRecDepth 100000 in
theorem begr2_240 (ad : Addr) (cp : Nat) (a b : UInt8) (x : Nat) (w : World) (ca : w.cell? ad = some (.int .u8 (x : Int))) (cb : w.cell? ⟨ad.block, ad.off + 1, none⟩ = some (.int .u8 (b.toNat : Int))) (HX : Hid (a.toNat = x)) (hx : x = 240) :
    Calls Try.prog 56 #[.slice (some ad) 2 cp] w (BegPost [a, b] w) := by
  subst hx
  have HL : Hid (loB 240 = 144) := rfl
  have HH : Hid (hiB 240 = 191) := rfl
  have y1 := b.toNat_lt
  go_enter Try.func56, Try.ntmps56
  go_wp2
  go_loop [4] (fun i => Beg2 b i) (fun i => 2 - (intOf i).toNat)
  case atStart => exact ⟨1, rfl, .inl rfl⟩
  case round =>
    obtain ⟨k, rfl, hk⟩ := hrel
    rcases hk with rfl | ⟨rfl, hcb⟩
    · cases hcb : contB b
      · have e1 := contB_no b hcb
        have HC := Lib.hid hcb
        clear hcb
        go_wp2
        go_ret
        exact begPost_of (nocont2 HC.out)
      · have e1 := contB_yes b hcb
        have HC := Lib.hid hcb
        clear hcb
        go_wp2
        go_round
        case rel => exact ⟨2, rfl, .inr ⟨rfl, HC.out⟩⟩
        case measure => simp [intOf]
    · have HC := Lib.hid hcb
      clear hcb
      by_cases hb : 144 ≤ b.toNat
      · have hb' : (144 : Int) ≤ (b.toNat : Int) := by omega
        go_wp2
        go_ret
        exact begPost_of (fin2 HX.out (by omega) (by omega) HL.out HH.out hb)
      · have hb' : decide ((144 : Int) ≤ (b.toNat : Int)) = false := by simp; omega
        go_wp2
        go_ret
        exact begPost_of (fin2n HX.out HL.out (by omega))
set_option maxHeartbeats 1000000 in
set_option maxRecDepth 100000 in
theorem begr2_244 (ad : Addr) (cp : Nat) (a b : UInt8) (x : Nat) (w : World) (ca : w.cell? ad = some (.int .u8 (x : Int))) (cb : w.cell? ⟨ad.block, ad.off + 1, none⟩ = some (.int .u8 (b.toNat : Int))) (HX : Hid (a.toNat = x)) (hx : x = 244) :
    Calls Try.prog 56 #[.slice (some ad) 2 cp] w (BegPost [a, b] w) := by
  subst hx
  have HL : Hid (loB 244 = 128) := rfl
  have HH : Hid (hiB 244 = 143) := rfl
  have y1 := b.toNat_lt
  go_enter Try.func56, Try.ntmps56
  go_wp2
  go_loop [4] (fun i => Beg2 b i) (fun i => 2 - (intOf i).toNat)
  case atStart => exact ⟨1, rfl, .inl rfl⟩
  case round =>
    obtain ⟨k, rfl, hk⟩ := hrel
    rcases hk with rfl | ⟨rfl, hcb⟩
    · cases hcb : contB b
      · have e1 := contB_no b hcb
        have HC := Lib.hid hcb
        clear hcb
        go_wp2
        go_ret
        exact begPost_of (nocont2 HC.out)
      · have e1 := contB_yes b hcb
        have HC := Lib.hid hcb
        clear hcb
        go_wp2
        go_round
        case rel => exact ⟨2, rfl, .inr ⟨rfl, HC.out⟩⟩
        case measure => simp [intOf]
    · have HC := Lib.hid hcb
      clear hcb
      by_cases hb : 128 ≤ b.toNat
      · have hb' : (128 : Int) ≤ (b.toNat : Int) := by omega
        go_wp2
        go_ret
        exact begPost_of (fin2 HX.out (by omega) (by omega) HL.out HH.out hb)
      · have hb' : decide ((128 : Int) ≤ (b.toNat : Int)) = false := by simp; omega
        go_wp2
        go_ret
        exact begPost_of (fin2n HX.out HL.out (by omega))
set_option maxHeartbeats 1000000 in
set_option maxRecDepth 100000 in
theorem begr2_o3 (ad : Addr) (cp : Nat) (a b : UInt8) (x : Nat) (w : World) (ca : w.cell? ad = some (.int .u8 (x : Int))) (cb : w.cell? ⟨ad.block, ad.off + 1, none⟩ = some (.int .u8 (b.toNat : Int))) (HX : Hid (a.toNat = x)) (hx0 : 224 < x) (hx1 : x < 240) (hx2 : x ≠ 237) :
    Calls Try.prog 56 #[.slice (some ad) 2 cp] w (BegPost [a, b] w) := by
  have HL : Hid (loB x = 128) := lo_other x (by omega) (by omega)
  have HH : Hid (hiB x = 191) := hi_other x (by omega) (by omega)
  have d3 : decide ((x : Int) < 194) = false := by simp; omega
  have d4 : decide (244 < (x : Int)) = false := by simp; omega
  have r1 : 224 ≤ (x : Int) := by omega
  have r2 : decide (240 ≤ (x : Int)) = false := by simp; omega
  have e224 : ((x : Int) == 224) = false := beq_eq_false_iff_ne.2 (by omega)
  have e237 : ((x : Int) == 237) = false := beq_eq_false_iff_ne.2 (by omega)
  have e240 : ((x : Int) == 240) = false := beq_eq_false_iff_ne.2 (by omega)
  have e244 : ((x : Int) == 244) = false := beq_eq_false_iff_ne.2 (by omega)
  clear hx2
  have y1 := b.toNat_lt
  go_enter Try.func56, Try.ntmps56
  go_wp2
  go_loop [4] (fun i => Beg2 b i) (fun i => 2 - (intOf i).toNat)
  case atStart => exact ⟨1, rfl, .inl rfl⟩
  case round =>
    obtain ⟨k, rfl, hk⟩ := hrel
    rcases hk with rfl | ⟨rfl, hcb⟩
    · cases hcb : contB b
      · have e1 := contB_no b hcb
        have HC := Lib.hid hcb
        clear hcb
        go_wp2
        go_ret
        exact begPost_of (nocont2 HC.out)
      · have e1 := contB_yes b hcb
        have HC := Lib.hid hcb
        clear hcb
        go_wp2
        go_round
        case rel => exact ⟨2, rfl, .inr ⟨rfl, HC.out⟩⟩
        case measure => simp [intOf]
    · have HC := Lib.hid hcb
      clear hcb
      by_cases hb : 128 ≤ b.toNat
      · have hb' : (128 : Int) ≤ (b.toNat : Int) := by omega
        go_wp2
        go_ret
        exact begPost_of (fin2 HX.out (by omega) (by omega) HL.out HH.out hb)
      · have hb' : decide ((128 : Int) ≤ (b.toNat : Int)) = false := by simp; omega
        go_wp2
        go_ret
        exact begPost_of (fin2n HX.out HL.out (by omega))
set_option maxHeartbeats 1000000 in
set_option maxRecDepth 100000 in
theorem begr2_o4 (ad : Addr) (cp : Nat) (a b : UInt8) (x : Nat) (w : World) (ca : w.cell? ad = some (.int .u8 (x : Int))) (cb : w.cell? ⟨ad.block, ad.off + 1, none⟩ = some (.int .u8 (b.toNat : Int))) (HX : Hid (a.toNat = x)) (hx0 : 240 < x) (hx1 : x < 244) :
    Calls Try.prog 56 #[.slice (some ad) 2 cp] w (BegPost [a, b] w) := by
  have HL : Hid (loB x = 128) := lo_other x (by omega) (by omega)
  have HH : Hid (hiB x = 191) := hi_other x (by omega) (by omega)
  have d3 : decide ((x : Int) < 194) = false := by simp; omega
  have d4 : decide (244 < (x : Int)) = false := by simp; omega
  have r1 : 224 ≤ (x : Int) := by omega
  have r2 : 240 ≤ (x : Int) := by omega
  have e224 : ((x : Int) == 224) = false := beq_eq_false_iff_ne.2 (by omega)
  have e237 : ((x : Int) == 237) = false := beq_eq_false_iff_ne.2 (by omega)
  have e240 : ((x : Int) == 240) = false := beq_eq_false_iff_ne.2 (by omega)
  have e244 : ((x : Int) == 244) = false := beq_eq_false_iff_ne.2 (by omega)
  have y1 := b.toNat_lt
  go_enter Try.func56, Try.ntmps56
  go_wp2
  go_loop [4] (fun i => Beg2 b i) (fun i => 2 - (intOf i).toNat)
  case atStart => exact ⟨1, rfl, .inl rfl⟩
  case round =>
    obtain ⟨k, rfl, hk⟩ := hrel
    rcases hk with rfl | ⟨rfl, hcb⟩
    · cases hcb : contB b
      · have e1 := contB_no b hcb
        have HC := Lib.hid hcb
        clear hcb
        go_wp2
        go_ret
        exact begPost_of (nocont2 HC.out)
      · have e1 := contB_yes b hcb
        have HC := Lib.hid hcb
        clear hcb
        go_wp2
        go_round
        case rel => exact ⟨2, rfl, .inr ⟨rfl, HC.out⟩⟩
        case measure => simp [intOf]
    · have HC := Lib.hid hcb
      clear hcb
      by_cases hb : 128 ≤ b.toNat
      · have hb' : (128 : Int) ≤ (b.toNat : Int) := by omega
        go_wp2
        go_ret
        exact begPost_of (fin2 HX.out (by omega) (by omega) HL.out HH.out hb)
      · have hb' : decide ((128 : Int) ≤ (b.toNat : Int)) = false := by simp; omega
        go_wp2
        go_ret
        exact begPost_of (fin2n HX.out HL.out (by omega))
set_option maxHeartbeats 1000000 in
set_option maxRecDepth 100000 in
theorem begr3_240 (ad : Addr) (cp : Nat) (a b c : UInt8) (x : Nat) (w : World) (ca : w.cell? ad = some (.int .u8 (x : Int))) (cb : w.cell? ⟨ad.block, ad.off + 1, none⟩ = some (.int .u8 (b.toNat : Int))) (cc : w.cell? ⟨ad.block, ad.off + 2, none⟩ = some (.int .u8 (c.toNat : Int))) (HX : Hid (a.toNat = x)) (hx : x = 240) :
    Calls Try.prog 56 #[.slice (some ad) 3 cp] w (BegPost [a, b, c] w) := by
  subst hx
  have HL : Hid (loB 240 = 144) := rfl
  have HH : Hid (hiB 240 = 191) := rfl
  have y1 := b.toNat_lt
  go_enter Try.func56, Try.ntmps56
  go_wp2
  go_loop [4] (fun i => Beg3 b c i) (fun i => 3 - (intOf i).toNat)
  case atStart => exact ⟨1, rfl, .inl rfl⟩
  case round =>
    obtain ⟨k, rfl, hk⟩ := hrel
    rcases hk with rfl | ⟨rfl, hcb⟩ | ⟨rfl, hcb, hcc⟩
    · cases hcb : contB b
      · have e1 := contB_no b hcb
        have HC := Lib.hid hcb
        clear hcb
        go_wp2
        go_ret
        exact begPost_of (nocont3 HC.out)
      · have e1 := contB_yes b hcb
        have HC := Lib.hid hcb
        clear hcb
        go_wp2
        go_round
        case rel => exact ⟨2, rfl, .inr (.inl ⟨rfl, HC.out⟩)⟩
        case measure => simp [intOf]
    · have HC := Lib.hid hcb
      clear hcb
      cases hcc : contB c
      · have e1 := contB_no c hcc
        have HD := Lib.hid hcc
        clear hcc
        go_wp2
        go_ret
        exact begPost_of (nocont3c HD.out)
      · have e1 := contB_yes c hcc
        have HD := Lib.hid hcc
        clear hcc
        go_wp2
        go_round
        case rel => exact ⟨3, rfl, .inr (.inr ⟨rfl, HC.out, HD.out⟩)⟩
        case measure => simp [intOf]
    · have HC := Lib.hid hcb
      have HD := Lib.hid hcc
      clear hcb hcc
      by_cases hb : 144 ≤ b.toNat
      · have hb' : (144 : Int) ≤ (b.toNat : Int) := by omega
        go_wp2
        go_ret
        exact begPost_of (fin3 HX.out (by omega) (by omega) HL.out HH.out HD.out hb)
      · have hb' : decide ((144 : Int) ≤ (b.toNat : Int)) = false := by simp; omega
        go_wp2
        go_ret
        exact begPost_of (fin3n HX.out HL.out (by omega))
set_option maxHeartbeats 1000000 in
set_option maxRecDepth 100000 in
theorem begr3_244 (ad : Addr) (cp : Nat) (a b c : UInt8) (x : Nat) (w : World) (ca : w.cell? ad = some (.int .u8 (x : Int))) (cb : w.cell? ⟨ad.block, ad.off + 1, none⟩ = some (.int .u8 (b.toNat : Int))) (cc : w.cell? ⟨ad.block, ad.off + 2, none⟩ = some (.int .u8 (c.toNat : Int))) (HX : Hid (a.toNat = x)) (hx : x = 244) :
    Calls Try.prog 56 #[.slice (some ad) 3 cp] w (BegPost [a, b, c] w) := by
  subst hx
  have HL : Hid (loB 244 = 128) := rfl
  have HH : Hid (hiB 244 = 143) := rfl
  have y1 := b.toNat_lt
  go_enter Try.func56, Try.ntmps56
  go_wp2
  go_loop [4] (fun i => Beg3 b c i) (fun i => 3 - (intOf i).toNat)
  case atStart => exact ⟨1, rfl, .inl rfl⟩
  case round =>
    obtain ⟨k, rfl, hk⟩ := hrel
    rcases hk with rfl | ⟨rfl, hcb⟩ | ⟨rfl, hcb, hcc⟩
    · cases hcb : contB b
      · have e1 := contB_no b hcb
        have HC := Lib.hid hcb
        clear hcb
        go_wp2
        go_ret
        exact begPost_of (nocont3 HC.out)
      · have e1 := contB_yes b hcb
        have HC := Lib.hid hcb
        clear hcb
        go_wp2
        go_round
        case rel => exact ⟨2, rfl, .inr (.inl ⟨rfl, HC.out⟩)⟩
        case measure => simp [intOf]
    · have HC := Lib.hid hcb
      clear hcb
      cases hcc : contB c
      · have e1 := contB_no c hcc
        have HD := Lib.hid hcc
        clear hcc
        go_wp2
        go_ret
        exact begPost_of (nocont3c HD.out)
      · have e1 := contB_yes c hcc
        have HD := Lib.hid hcc
        clear hcc
        go_wp2
        go_round
        case rel => exact ⟨3, rfl, .inr (.inr ⟨rfl, HC.out, HD.out⟩)⟩
        case measure => simp [intOf]
    · have HC := Lib.hid hcb
      have HD := Lib.hid hcc
      clear hcb hcc
      by_cases hb : 128 ≤ b.toNat
      · have hb' : (128 : Int) ≤ (b.toNat : Int) := by omega
        go_wp2
        go_ret
        exact begPost_of (fin3 HX.out (by omega) (by omega) HL.out HH.out HD.out hb)
      · have hb' : decide ((128 : Int) ≤ (b.toNat : Int)) = false := by simp; omega
        go_wp2
        go_ret
        exact begPost_of (fin3n HX.out HL.out (by omega))
set_option maxHeartbeats 1000000 in
set_option maxRecDepth 100000 in
theorem begr3_o4 (ad : Addr) (cp : Nat) (a b c : UInt8) (x : Nat) (w : World) (ca : w.cell? ad = some (.int .u8 (x : Int))) (cb : w.cell? ⟨ad.block, ad.off + 1, none⟩ = some (.int .u8 (b.toNat : Int))) (cc : w.cell? ⟨ad.block, ad.off + 2, none⟩ = some (.int .u8 (c.toNat : Int))) (HX : Hid (a.toNat = x)) (hx0 : 240 < x) (hx1 : x < 244) :
    Calls Try.prog 56 #[.slice (some ad) 3 cp] w (BegPost [a, b, c] w) := by
  have HL : Hid (loB x = 128) := lo_other x (by omega) (by omega)
  have HH : Hid (hiB x = 191) := hi_other x (by omega) (by omega)
  have d3 : decide ((x : Int) < 194) = false := by simp; omega
  have d4 : decide (244 < (x : Int)) = false := by simp; omega
  have r1 : 224 ≤ (x : Int) := by omega
  have r2 : 240 ≤ (x : Int) := by omega
  have e224 : ((x : Int) == 224) = false := beq_eq_false_iff_ne.2 (by omega)
  have e237 : ((x : Int) == 237) = false := beq_eq_false_iff_ne.2 (by omega)
  have e240 : ((x : Int) == 240) = false := beq_eq_false_iff_ne.2 (by omega)
  have e244 : ((x : Int) == 244) = false := beq_eq_false_iff_ne.2 (by omega)
  have y1 := b.toNat_lt
  go_enter Try.func56, Try.ntmps56
  go_wp2
  go_loop [4] (fun i => Beg3 b c i) (fun i => 3 - (intOf i).toNat)
  case atStart => exact ⟨1, rfl, .inl rfl⟩
  case round =>
    obtain ⟨k, rfl, hk⟩ := hrel
    rcases hk with rfl | ⟨rfl, hcb⟩ | ⟨rfl, hcb, hcc⟩
    · cases hcb : contB b
      · have e1 := contB_no b hcb
        have HC := Lib.hid hcb
        clear hcb
        go_wp2
        go_ret
        exact begPost_of (nocont3 HC.out)
      · have e1 := contB_yes b hcb
        have HC := Lib.hid hcb
        clear hcb
        go_wp2
        go_round
        case rel => exact ⟨2, rfl, .inr (.inl ⟨rfl, HC.out⟩)⟩
        case measure => simp [intOf]
    · have HC := Lib.hid hcb
      clear hcb
      cases hcc : contB c
      · have e1 := contB_no c hcc
        have HD := Lib.hid hcc
        clear hcc
        go_wp2
        go_ret
        exact begPost_of (nocont3c HD.out)
      · have e1 := contB_yes c hcc
        have HD := Lib.hid hcc
        clear hcc
        go_wp2
        go_round
        case rel => exact ⟨3, rfl, .inr (.inr ⟨rfl, HC.out, HD.out⟩)⟩
        case measure => simp [intOf]
    · have HC := Lib.hid hcb
      have HD := Lib.hid hcc
      clear hcb hcc
      by_cases hb : 128 ≤ b.toNat
      · have hb' : (128 : Int) ≤ (b.toNat : Int) := by omega
        go_wp2
        go_ret
        exact begPost_of (fin3 HX.out (by omega) (by omega) HL.out HH.out HD.out hb)
      · have hb' : decide ((128 : Int) ≤ (b.toNat : Int)) = false := by simp; omega
        go_wp2
        go_ret
        exact begPost_of (fin3n HX.out HL.out (by omega))
set_option maxHeartbeats 1000000 in
set_option maxRecDepth 100000 in
theorem begr1_2 (ad : Addr) (cp : Nat) (a : UInt8) (x : Nat) (w : World) (ca : w.cell? ad = some (.int .u8 (x : Int))) (HX : Hid (a.toNat = x)) (hx0 : 194 ≤ x) (hx1 : x < 224) :
    Calls Try.prog 56 #[.slice (some ad) 1 cp] w (BegPost [a] w) := by
  have d3 : decide ((x : Int) < 194) = false := by simp; omega
  have d4 : decide (244 < (x : Int)) = false := by simp; omega
  have r1 : decide (224 ≤ (x : Int)) = false := by simp; omega
  have r2 : decide (240 ≤ (x : Int)) = false := by simp; omega
  go_enter Try.func56, Try.ntmps56
  go_wp2
  go_loop [4] (fun i => i = .int .i64 1) (fun i => 1 - (intOf i).toNat)
  case atStart => rfl
  case round =>
    obtain rfl := hrel
    go_wp2
    go_ret
    exact begPost_of (((beg1_iff a).2 (by rw [HX.out]; omega)).symm)
set_option maxHeartbeats 1000000 in
set_option maxRecDepth 100000 in
theorem begr1_3 (ad : Addr) (cp : Nat) (a : UInt8) (x : Nat) (w : World) (ca : w.cell? ad = some (.int .u8 (x : Int))) (HX : Hid (a.toNat = x)) (hx0 : 224 ≤ x) (hx1 : x < 240) :
    Calls Try.prog 56 #[.slice (some ad) 1 cp] w (BegPost [a] w) := by
  have d3 : decide ((x : Int) < 194) = false := by simp; omega
  have d4 : decide (244 < (x : Int)) = false := by simp; omega
  have r1 : 224 ≤ (x : Int) := by omega
  have r2 : decide (240 ≤ (x : Int)) = false := by simp; omega
  go_enter Try.func56, Try.ntmps56
  go_wp2
  go_loop [4] (fun i => i = .int .i64 1) (fun i => 1 - (intOf i).toNat)
  case atStart => rfl
  case round =>
    obtain rfl := hrel
    go_wp2
    go_ret
    exact begPost_of (((beg1_iff a).2 (by rw [HX.out]; omega)).symm)
set_option maxHeartbeats 1000000 in
set_option maxRecDepth 100000 in
theorem begr1_4 (ad : Addr) (cp : Nat) (a : UInt8) (x : Nat) (w : World) (ca : w.cell? ad = some (.int .u8 (x : Int))) (HX : Hid (a.toNat = x)) (hx0 : 240 ≤ x) (hx1 : x ≤ 244) :
    Calls Try.prog 56 #[.slice (some ad) 1 cp] w (BegPost [a] w) := by
  have d3 : decide ((x : Int) < 194) = false := by simp; omega
  have d4 : decide (244 < (x : Int)) = false := by simp; omega
  have r1 : 224 ≤ (x : Int) := by omega
  have r2 : 240 ≤ (x : Int) := by omega
  go_enter Try.func56, Try.ntmps56
  go_wp2
  go_loop [4] (fun i => i = .int .i64 1) (fun i => 1 - (intOf i).toNat)
  case atStart => rfl
  case round =>
    obtain rfl := hrel
    go_wp2
    go_ret
    exact begPost_of (((beg1_iff a).2 (by rw [HX.out]; omega)).symm)
set_option maxHeartbeats 1000000 in
set_option maxRecDepth 100000 in
theorem begr_low (ad : Addr) (cp n : Nat) (l : List UInt8) (x : Nat) (w : World) (ca : w.cell? ad = some (.int .u8 (x : Int))) (hf : beginsL l = false) (hn : 1 ≤ n) (hn3 : n ≤ 3) (hx : x < 194) :
    Calls Try.prog 56 #[.slice (some ad) n cp] w (BegPost l w) := by
  have HF := Lib.hid hf
  clear hf
  have l1 : decide ((n : Int) < 1) = false := by simp; omega
  have l2 : decide (3 < (n : Int)) = false := by simp; omega
  have l3 : 0 < n := by omega
  have d3 : (x : Int) < 194 := by omega
  go_enter Try.func56, Try.ntmps56
  go_wp2
  go_ret
  exact begPost_of HF.out.symm
set_option maxHeartbeats 1000000 in
set_option maxRecDepth 100000 in
theorem begr_high (ad : Addr) (cp n : Nat) (l : List UInt8) (x : Nat) (w : World) (ca : w.cell? ad = some (.int .u8 (x : Int))) (hf : beginsL l = false) (hn : 1 ≤ n) (hn3 : n ≤ 3) (hx : 244 < x) :
    Calls Try.prog 56 #[.slice (some ad) n cp] w (BegPost l w) := by
  have HF := Lib.hid hf
  clear hf
  have l1 : decide ((n : Int) < 1) = false := by simp; omega
  have l2 : decide (3 < (n : Int)) = false := by simp; omega
  have l3 : 0 < n := by omega
  have d3 : decide ((x : Int) < 194) = false := by simp; omega
  have d4 : 244 < (x : Int) := by omega
  go_enter Try.func56, Try.ntmps56
  go_wp2
  go_ret
  exact begPost_of HF.out.symm
set_option maxHeartbeats 1000000 in
set_option maxRecDepth 100000 in
theorem begr_2 (ad : Addr) (cp n : Nat) (l : List UInt8) (x : Nat) (w : World) (ca : w.cell? ad = some (.int .u8 (x : Int))) (hf : beginsL l = false) (hn : 1 ≤ n) (hn3 : n ≤ 3) (hx0 : 194 ≤ x) (hx1 : x < 224) (hn2 : 2 ≤ n) :
    Calls Try.prog 56 #[.slice (some ad) n cp] w (BegPost l w) := by
  have HF := Lib.hid hf
  clear hf
  have l1 : decide ((n : Int) < 1) = false := by simp; omega
  have l2 : decide (3 < (n : Int)) = false := by simp; omega
  have l3 : 0 < n := by omega
  have d3 : decide ((x : Int) < 194) = false := by simp; omega
  have d4 : decide (244 < (x : Int)) = false := by simp; omega
  have r1 : decide (224 ≤ (x : Int)) = false := by simp; omega
  have r2 : decide (240 ≤ (x : Int)) = false := by simp; omega
  have l4 : (2 : Int) ≤ (n : Int) := by omega
  go_enter Try.func56, Try.ntmps56
  go_wp2
  go_ret
  exact begPost_of HF.out.symm
set_option maxHeartbeats 1000000 in
set_option maxRecDepth 100000 in
theorem begr_3 (ad : Addr) (cp n : Nat) (l : List UInt8) (x : Nat) (w : World) (ca : w.cell? ad = some (.int .u8 (x : Int))) (hf : beginsL l = false) (hn : 1 ≤ n) (hn3 : n ≤ 3) (hx0 : 224 ≤ x) (hx1 : x < 240) (hn2 : 3 ≤ n) :
    Calls Try.prog 56 #[.slice (some ad) n cp] w (BegPost l w) := by
  have HF := Lib.hid hf
  clear hf
  have l1 : decide ((n : Int) < 1) = false := by simp; omega
  have l2 : decide (3 < (n : Int)) = false := by simp; omega
  have l3 : 0 < n := by omega
  have d3 : decide ((x : Int) < 194) = false := by simp; omega
  have d4 : decide (244 < (x : Int)) = false := by simp; omega
  have r1 : 224 ≤ (x : Int) := by omega
  have r2 : decide (240 ≤ (x : Int)) = false := by simp; omega
  have l4 : (3 : Int) ≤ (n : Int) := by omega
  go_enter Try.func56, Try.ntmps56
  go_wp2
  go_ret
  exact begPost_of HF.out.symm
theorem begr_nil (A : Option Addr) (cp : Nat) (w : World) : Calls Try.prog 56 #[.slice A 0 cp] w (BegPost [] w) := by
  go_enter Try.func56, Try.ntmps56
  go_wp2
  go_ret
  exact begPost_of rfl
theorem begr_long (A : Option Addr) (cp n : Nat) (l : List UInt8) (w : World) (hf : beginsL l = false) (hn : 4 ≤ n) : Calls Try.prog 56 #[.slice A n cp] w (BegPost l w) := by
  have HF := Lib.hid hf
  clear hf
  have l1 : decide ((n : Int) < 1) = false := by simp; omega
  have l2 : 3 < (n : Int) := by omega
  go_enter Try.func56, Try.ntmps56
  go_wp2
  go_ret
  exact begPost_of HF.out.symm

/-- The document's Begins. -/
theorem beginsr_any (v : Value) (l : List UInt8) (B : Nat) (w : World) (hv : BS w B v l) : Calls Try.prog 56 #[v] w fun e w' => e = .returned (.bool (beginsL l)) ∧ w = w' := by
  show Calls Try.prog 56 #[v] w (BegPost l w)
  match l, hv with
  | [], hv =>
    obtain ⟨A, c, rfl, _⟩ := hv
    exact begr_nil A c w
  | a :: l, hv =>
    obtain ⟨ad, cp, rfl, _, _, ca, hcs⟩ := hv.lits
    obtain ⟨x, hx⟩ : ∃ x, a.toNat = x := ⟨_, rfl⟩
    have hx1 : x < 256 := by rw [← hx]; exact a.toNat_lt
    rw [hx] at ca
    have HX : Hid (a.toNat = x) := hx
    match l, hcs with
    | [], hcs =>
      by_cases h0 : x < 194
      · exact begr_low ad cp 1 [a] x w ca (by rw [← Bool.not_eq_true, beg1_iff]; omega) (by omega) (by omega) h0
      by_cases h1 : x < 224
      · exact begr1_2 ad cp a x w ca HX (by omega) h1
      by_cases h2 : x < 240
      · exact begr1_3 ad cp a x w ca HX (by omega) h2
      by_cases h3 : x ≤ 244
      · exact begr1_4 ad cp a x w ca HX (by omega) h3
      · exact begr_high ad cp 1 [a] x w ca (by rw [← Bool.not_eq_true, beg1_iff]; omega) (by omega) (by omega) (by omega)
    | [b], hcs =>
      have cb := hcs 0 b rfl
      by_cases h0 : x < 194
      · exact begr_low ad cp 2 [a, b] x w ca (by rw [← Bool.not_eq_true, beg2_iff]; omega) (by omega) (by omega) h0
      by_cases h1 : x < 224
      · exact begr_2 ad cp 2 [a, b] x w ca (by rw [← Bool.not_eq_true, beg2_iff]; omega) (by omega) (by omega) (by omega) h1 (by omega)
      by_cases h2 : x = 224
      · exact begr2_224 ad cp a b x w ca cb HX h2
      by_cases h3 : x = 237
      · exact begr2_237 ad cp a b x w ca cb HX h3
      by_cases h4 : x = 240
      · exact begr2_240 ad cp a b x w ca cb HX h4
      by_cases h5 : x = 244
      · exact begr2_244 ad cp a b x w ca cb HX h5
      by_cases h6 : x < 240
      · exact begr2_o3 ad cp a b x w ca cb HX (by omega) h6 h3
      by_cases h7 : x < 244
      · exact begr2_o4 ad cp a b x w ca cb HX (by omega) h7
      · exact begr_high ad cp 2 [a, b] x w ca (by rw [← Bool.not_eq_true, beg2_iff]; omega) (by omega) (by omega) (by omega)
    | [b, c], hcs =>
      have cb := hcs 0 b rfl
      have cc := hcs 1 c rfl
      by_cases h0 : x < 194
      · exact begr_low ad cp 3 [a, b, c] x w ca (by rw [← Bool.not_eq_true, beg3_iff]; omega) (by omega) (by omega) h0
      by_cases h1 : x < 224
      · exact begr_2 ad cp 3 [a, b, c] x w ca (by rw [← Bool.not_eq_true, beg3_iff]; omega) (by omega) (by omega) (by omega) h1 (by omega)
      by_cases h6 : x < 240
      · exact begr_3 ad cp 3 [a, b, c] x w ca (by rw [← Bool.not_eq_true, beg3_iff]; omega) (by omega) (by omega) (by omega) h6 (by omega)
      by_cases h4 : x = 240
      · exact begr3_240 ad cp a b c x w ca cb cc HX h4
      by_cases h5 : x = 244
      · exact begr3_244 ad cp a b c x w ca cb cc HX h5
      by_cases h7 : x < 244
      · exact begr3_o4 ad cp a b c x w ca cb cc HX (by omega) h7
      · exact begr_high ad cp 3 [a, b, c] x w ca (by rw [← Bool.not_eq_true, beg3_iff]; omega) (by omega) (by omega) (by omega)
    | b :: c :: d :: m, hcs => exact begr_long (some ad) cp _ _ w (by simp [beginsL]) (by simp)
end Go.Proofs.Ytejemcpkmfhenaa

namespace Go.Proofs.Ytejemcpkmfhenaa
open Go.RowKit
set_option linter.unusedVariables false
set_option linter.unusedSimpArgs false

def inB (r a b : Int) : Bool := decide (a ≤ r) && decide (r ≤ b)
def wideT : List Int := [4352, 4447, 11904, 12350, 12353, 13311, 13312, 19903, 19968, 40959, 40960, 42191, 44032, 55203, 63744, 64255, 65072, 65135, 65280, 65376, 65504, 65510, 127744, 128591, 129280, 129535, 131072, 196605, 196608, 262141]
def wideB (r : Int) : Bool := (List.range 15).any fun k => inB r (wideT.getD (2 * k) 0) (wideT.getD (2 * k + 1) 0)
def zeroB (r : Int) : Bool := !mayR r || decide (r < 32) || inB r 127 159 || inB r 768 879 || inB r 8203 8207 || inB r 65024 65039
def widthL (r : Int) : Int := if zeroB r = true then 0 else if wideB r = true then 2 else 1
theorem inr_any (r a b : Int) (w : World) : Calls Try.prog 68 #[.int .i32 r, .int .i32 a, .int .i32 b] w fun e w' => e = .returned (.bool (inB r a b)) ∧ w = w' := by
  unfold inB
  by_cases h1 : a ≤ r
  · by_cases h2 : r ≤ b
    · go_enter Try.func68, Try.ntmps68
      go_wp2
      go_ret
      exact ⟨by simp [h1, h2], rfl⟩
    · go_enter Try.func68, Try.ntmps68
      go_wp2
      go_ret
      exact ⟨by simp [h1, h2], rfl⟩
  · go_enter Try.func68, Try.ntmps68
    go_wp2
    go_ret
    exact ⟨by simp [show decide (a ≤ r) = false by simpa using h1], rfl⟩
theorem widthr_zero (r : Int) (h0 : -2147483648 ≤ r) (h1 : r ≤ 2147483647) (w : World) (hz : zeroB r = true) : Calls Try.prog 61 #[.int .i32 r] w fun e w' => e = .returned (.int .i64 0) ∧ Below w.heap.size w w' := by
  unfold zeroB at hz
  cases a1 : mayR r with
  | false =>
    clear hz
    go_enter Try.func61, Try.ntmps61
    go_wp2_with (first | ((with_reducible refine (mayr_any _ h0 h1 _).mono ?_); rintro e w' ⟨rfl, rfl⟩) | ((with_reducible refine (inr_any _ _ _ _).mono ?_); rintro e w' ⟨rfl, rfl⟩))
    go_ret
    exact ⟨rfl, Below.refl _ _⟩
  | true =>
    by_cases a2 : r < 32
    · clear hz
      go_enter Try.func61, Try.ntmps61
      go_wp2_with (first | ((with_reducible refine (mayr_any _ h0 h1 _).mono ?_); rintro e w' ⟨rfl, rfl⟩) | ((with_reducible refine (inr_any _ _ _ _).mono ?_); rintro e w' ⟨rfl, rfl⟩))
      go_ret
      exact ⟨rfl, Below.refl _ _⟩
    · cases a3 : inB r 127 159 with
      | true =>
        clear hz
        go_enter Try.func61, Try.ntmps61
        go_wp2_with (first | ((with_reducible refine (mayr_any _ h0 h1 _).mono ?_); rintro e w' ⟨rfl, rfl⟩) | ((with_reducible refine (inr_any _ _ _ _).mono ?_); rintro e w' ⟨rfl, rfl⟩))
        go_ret
        exact ⟨rfl, Below.refl _ _⟩
      | false =>
        cases a4 : inB r 768 879 with
        | true =>
          clear hz
          go_enter Try.func61, Try.ntmps61
          go_wp2_with (first | ((with_reducible refine (mayr_any _ h0 h1 _).mono ?_); rintro e w' ⟨rfl, rfl⟩) | ((with_reducible refine (inr_any _ _ _ _).mono ?_); rintro e w' ⟨rfl, rfl⟩))
          go_ret
          exact ⟨rfl, Below.refl _ _⟩
        | false =>
          cases a5 : inB r 8203 8207 with
          | true =>
            clear hz
            go_enter Try.func61, Try.ntmps61
            go_wp2_with (first | ((with_reducible refine (mayr_any _ h0 h1 _).mono ?_); rintro e w' ⟨rfl, rfl⟩) | ((with_reducible refine (inr_any _ _ _ _).mono ?_); rintro e w' ⟨rfl, rfl⟩))
            go_ret
            exact ⟨rfl, Below.refl _ _⟩
          | false =>
            have a6 : inB r 65024 65039 = true := by simpa [a1, a2, a3, a4, a5] using hz
            clear hz
            go_enter Try.func61, Try.ntmps61
            go_wp2_with (first | ((with_reducible refine (mayr_any _ h0 h1 _).mono ?_); rintro e w' ⟨rfl, rfl⟩) | ((with_reducible refine (inr_any _ _ _ _).mono ?_); rintro e w' ⟨rfl, rfl⟩))
            go_ret
            exact ⟨rfl, Below.refl _ _⟩
theorem wide_cell (w : World) (j : Nat) (h : j < 30) : (w.alloc (.cells #[.int .i32 4352, .int .i32 4447, .int .i32 11904, .int .i32 12350, .int .i32 12353, .int .i32 13311, .int .i32 13312, .int .i32 19903, .int .i32 19968, .int .i32 40959, .int .i32 40960, .int .i32 42191, .int .i32 44032, .int .i32 55203, .int .i32 63744, .int .i32 64255, .int .i32 65072, .int .i32 65135, .int .i32 65280, .int .i32 65376, .int .i32 65504, .int .i32 65510, .int .i32 127744, .int .i32 128591, .int .i32 129280, .int .i32 129535, .int .i32 131072, .int .i32 196605, .int .i32 196608, .int .i32 262141] 21)).cell? ⟨w.heap.size, j, none⟩ = some (.int .i32 (wideT.getD j 0)) := by
  have h' := World.news_of_block (heap_alloc_new w (.cells #[.int .i32 4352, .int .i32 4447, .int .i32 11904, .int .i32 12350, .int .i32 12353, .int .i32 13311, .int .i32 13312, .int .i32 19903, .int .i32 19968, .int .i32 40959, .int .i32 40960, .int .i32 42191, .int .i32 44032, .int .i32 55203, .int .i32 63744, .int .i32 64255, .int .i32 65072, .int .i32 65135, .int .i32 65280, .int .i32 65376, .int .i32 65504, .int .i32 65510, .int .i32 127744, .int .i32 128591, .int .i32 129280, .int .i32 129535, .int .i32 131072, .int .i32 196605, .int .i32 196608, .int .i32 262141] 21)) j (.int .i32 (wideT.getD j 0))
  rw [show (⟨w.heap.size, 0, none⟩ : Addr).add j = ⟨w.heap.size, j, none⟩ by unfold Addr.add; split <;> simp_all] at h'
  refine h' ?_
  have e : (#[.int .i32 4352, .int .i32 4447, .int .i32 11904, .int .i32 12350, .int .i32 12353, .int .i32 13311, .int .i32 13312, .int .i32 19903, .int .i32 19968, .int .i32 40959, .int .i32 40960, .int .i32 42191, .int .i32 44032, .int .i32 55203, .int .i32 63744, .int .i32 64255, .int .i32 65072, .int .i32 65135, .int .i32 65280, .int .i32 65376, .int .i32 65504, .int .i32 65510, .int .i32 127744, .int .i32 128591, .int .i32 129280, .int .i32 129535, .int .i32 131072, .int .i32 196605, .int .i32 196608, .int .i32 262141] : Array Value) = (wideT.map (Value.int .i32)).toArray := rfl
  rw [e]
  have hl : wideT.length = 30 := rfl
  simp [List.getElem?_eq_getElem (show j < wideT.length by omega), List.getD]
def WidePost (r : Int) (w : World) (e : Ending) (w' : World) : Prop := e = .returned (.int .i64 (if wideB r = true then 2 else 1)) ∧ Below w.heap.size w w'
def WideRel (r : Int) (W : World) (i : Value) (wr : World) : Prop := ∃ k : Nat, k ≤ 15 ∧ i = .int .i64 ((2 * k : Nat) : Int) ∧ (∀ j, j < k → inB r (wideT.getD (2 * j) 0) (wideT.getD (2 * j + 1) 0) = false) ∧ Below W.heap.size W wr
theorem below_drewW {B : Nat} {w w' : World} (h : Below B w w') (n : Nat) : Below B w (w'.drewN n) := ⟨h.os, h.tape, h.output, h.size, h.block⟩
set_option maxHeartbeats 1000000 in
set_option maxRecDepth 100000 in
theorem widthr_some (r : Int) (h0 : -2147483648 ≤ r) (h1 : r ≤ 2147483647) (w : World) (hz : zeroB r = false) : Calls Try.prog 61 #[.int .i32 r] w (WidePost r w) := by
  unfold zeroB at hz
  simp only [Bool.or_eq_false_iff, Bool.not_eq_false', decide_eq_false_iff_not] at hz
  obtain ⟨⟨⟨⟨⟨a1, a2⟩, a3⟩, a4⟩, a5⟩, a6⟩ := hz
  obtain ⟨W, hW⟩ : ∃ W, W = w.alloc (.cells #[.int .i32 4352, .int .i32 4447, .int .i32 11904, .int .i32 12350, .int .i32 12353, .int .i32 13311, .int .i32 13312, .int .i32 19903, .int .i32 19968, .int .i32 40959, .int .i32 40960, .int .i32 42191, .int .i32 44032, .int .i32 55203, .int .i32 63744, .int .i32 64255, .int .i32 65072, .int .i32 65135, .int .i32 65280, .int .i32 65376, .int .i32 65504, .int .i32 65510, .int .i32 127744, .int .i32 128591, .int .i32 129280, .int .i32 129535, .int .i32 131072, .int .i32 196605, .int .i32 196608, .int .i32 262141] 21) := ⟨_, rfl⟩
  have hcell : ∀ j, j < 30 → W.cell? ⟨w.heap.size, j, none⟩ = some (.int .i32 (wideT.getD j 0)) := fun j hj => by rw [hW]; exact wide_cell w j hj
  have hWz : w.heap.size < W.heap.size := by rw [hW]; simp
  have hWb : Below w.heap.size w W := by rw [hW]; exact (Below.refl _ _).alloc (Nat.le_refl _) _
  have HC := Lib.hid hcell
  have HWB := Lib.hid hWb
  have HW := Lib.hid hW
  clear hcell hWb hW
  go_enter Try.func61, Try.ntmps61
  go_wp2_with (first | ((with_reducible refine (mayr_any _ h0 h1 _).mono ?_); rintro e w' ⟨rfl, rfl⟩) | ((with_reducible refine (inr_any _ _ _ _).mono ?_); rintro e w' ⟨rfl, rfl⟩))
  rw [← HW.out]
  go_loopw [4] (fun i wr => WideRel r W i wr) (fun i _ => 30 - (intOf i).toNat)
  case atStart => exact ⟨0, by omega, rfl, fun j hj => absurd hj (by omega), Below.refl _ _⟩
  case round =>
    obtain ⟨k, hk, rfl, hf, hb⟩ := hrel
    have HF := Lib.hid hf
    have HB := Lib.hid hb
    clear hf
    by_cases hlt : k < 15
    · obtain ⟨j, hj⟩ : ∃ j, j = 2 * k := ⟨_, rfl⟩
      have c0 : wr.cell? ⟨w.heap.size, j, none⟩ = some (.int .i32 (wideT.getD (2 * k) 0)) := by rw [hj]; exact (hb.cell (p := ⟨w.heap.size, 2 * k, none⟩) hWz).trans (HC.out _ (by omega))
      have c1 : wr.cell? ⟨w.heap.size, j + 1, none⟩ = some (.int .i32 (wideT.getD (2 * k + 1) 0)) := by rw [hj]; exact (hb.cell (p := ⟨w.heap.size, 2 * k + 1, none⟩) hWz).trans (HC.out _ (by omega))
      rw [← hj]
      have hj30 : j < 30 := by omega
      have hj31 : j + 1 < 30 := by omega
      generalize hg0 : wideT.getD (2 * k) 0 = lo at c0
      generalize hg1 : wideT.getD (2 * k + 1) 0 = hi at c1
      have HJ := Lib.hid hj
      have HG0 := Lib.hid hg0
      have HG1 := Lib.hid hg1
      clear hb hj hg0 hg1
      have hsum : IntKind.i64.wrap ((j : Int) + 1) = (j : Int) + 1 := IntWalk.i64_in _ (by omega)
      have hs0 : 0 ≤ (j : Int) + 1 := by omega
      have hs1 : ((j : Int) + 1).toNat = j + 1 := by omega
      go_wp2
      go_quiet ((go_at_call 68; exact Calls.quiet_of_same ((inr_any _ _ _ _).mono (fun e w' h => ⟨h.1, h.2.symm⟩))))
      clear hsum hs0 hs1
      go_wp2
      · rename_i hin
        go_ret
        refine ⟨?_, HWB.out.trans ((below_drewW HB.out nq).mono (by omega))⟩
        have hw : wideB r = true := by
          unfold wideB
          rw [List.any_eq_true]
          refine ⟨k, List.mem_range.2 hlt, ?_⟩
          rw [HG0.out, HG1.out]
          exact hin
        rw [if_pos hw]
        rfl
      · rename_i hin
        go_roundw
        case rel =>
          refine ⟨k + 1, by omega, by rw [HJ.out]; go_num, fun i hi => ?_, below_drewW HB.out nq⟩
          by_cases e : i = k
          · rw [e, HG0.out, HG1.out]; exact hin
          · exact HF.out i (by omega)
        case measure => simp [intOf]; omega
    · obtain rfl : k = 15 := by omega
      go_wp2
      go_ret
      refine ⟨?_, HWB.out.trans (HB.out.mono (by omega))⟩
      have hw : wideB r = false := by
        unfold wideB
        rw [List.any_eq_false]
        intro i hi
        rw [HF.out i (List.mem_range.1 hi)]
        simp
      rw [hw]
      rfl
theorem widthr_any (r : Int) (h0 : -2147483648 ≤ r) (h1 : r ≤ 2147483647) (w : World) : Calls Try.prog 61 #[.int .i32 r] w fun e w' => e = .returned (.int .i64 (widthL r)) ∧ Below w.heap.size w w' := by
  cases hz : zeroB r with
  | true => unfold widthL; rw [hz]; exact widthr_zero r h0 h1 w hz
  | false => unfold widthL; rw [hz]; exact widthr_some r h0 h1 w hz
end Go.Proofs.Ytejemcpkmfhenaa

namespace Go.Proofs.Ytejemcpkmfhenaa
open Go.RowKit
set_option linter.unusedVariables false

def SameCRel (n : Nat) (w : World) (i : Value) (wr : World) : Prop := ∃ k : Nat, k ≤ n ∧ i = .int .i64 (k : Int) ∧ Below w.heap.size w wr
set_option maxHeartbeats 1000000 in
set_option maxRecDepth 100000 in
theorem sameC_eq (va vb : Value) (l : List Cl) (w : World) (ha : CS w w.heap.size va l) (hb : CS w w.heap.size vb l) (hl : l.length ≤ 1099511627776) :
    Calls Try.prog 9 #[va, vb] w fun e w' => e = .returned (.bool true) ∧ Below w.heap.size w w' := by
  obtain ⟨A1, c1, rfl, p1, p2⟩ := ha.form
  obtain ⟨A2, c2, rfl, q1, q2⟩ := hb.form
  have HA := Lib.hid ha
  have HB := Lib.hid hb
  clear ha hb
  go_enter Try.func9, Try.ntmps9
  go_wp2
  go_loopw [5] (fun i wr => SameCRel l.length w i wr) (fun i _ => l.length - (intOf i).toNat)
  case atStart => exact ⟨0, Nat.zero_le _, rfl, Below.refl _ _⟩
  case round =>
    obtain ⟨k, hk, rfl, hbel⟩ := hrel
    by_cases hlt : k < l.length
    · obtain ⟨x, hx⟩ : ∃ x, l[k]? = some x := ⟨_, List.getElem?_eq_getElem hlt⟩
      obtain ⟨a1, hA, hba, t0, t1, t2⟩ := (HA.out.below hbel).get k x hx
      obtain ⟨a2, hB, hbb, u0, u1, u2⟩ := (HB.out.below hbel).get k x hx
      subst hA hB
      have HBEL := Lib.hid hbel
      have hki : (k : Int) < (l.length : Int) := by omega
      clear hx hbel
      go_wp2
      go_quiet (fail)
      have hbq := below_drewW HBEL.out nq
      go_wp2
      go_roundw
      case rel => exact ⟨k + 1, hlt, by go_num, hbq⟩
      case measure => simp [intOf]; omega
    · obtain rfl : k = l.length := by omega
      go_wp2
      go_ret
      exact ⟨rfl, hbel⟩
end Go.Proofs.Ytejemcpkmfhenaa

namespace Go.Proofs.Ytejemcpkmfhenaa
open Go.RowKit
set_option linter.unusedVariables false
set_option maxHeartbeats 1000000 in
set_option maxRecDepth 100000 in
theorem Down_yes (v : Value) (l : List Cl) (r c top bottom : Nat) (n : Int) (w : World) (h : CS w w.heap.size v l) (hg : GOk l.length r c) (htb : top ≤ bottom) (hbr : bottom < r) :
    Calls Try.prog 13 #[v, .int .i64 (c : Int), .int .i64 (top : Int), .int .i64 (bottom : Int), .int .i64 n] w (CellsPost (fillL l (downF l c top (capN n)) (top * c) ((bottom + 1) * c)) w) := by
  obtain ⟨A, k, rfl, h1, h2⟩ := h.form
  have H := Lib.hid h
  have HG := Lib.hid hg
  have c1 := hg.c1
  have c2 := hg.c2
  have r2 := hg.r2
  have hn := hg.n
  have hrc := rc_le hg.r2 hg.c2
  have hlen : l.length ≤ 1000000 := by omega
  have HN := Lib.hid hn
  clear h hg hn
  have d1 : decide ((top : Int) < 0) = false := by simp
  have d2 : decide (r ≤ bottom) = false := by simpa using hbr
  have d3 : decide (bottom < top) = false := by simpa using htb
  go_enter Try.func13, Try.ntmps13
  go_upto_region 6 with (first | ((with_reducible refine (own_any _ l _ H.out (by omega)).mono ?_); rintro e w1 ⟨v1, rfl, o1, b1⟩; have z1 := b1.size; have HC := Lib.hid ((H.out.below b1).more z1); have HO := Lib.hid o1; have HB := Lib.hid b1; clear o1 b1) | ((with_reducible refine (grid_yes _ l r c _ HC.out HG.out).mono ?_); rintro e w' ⟨rfl, rfl⟩))
  rw [cap_if]
  have hm := capN_le n
  generalize capN n = m at *
  generalize (if n < 0 then 0 else n) = q
  have hpos : 0 < l.length := by rw [HN.out]; exact Nat.mul_pos (by omega) (by omega)
  obtain ⟨g, cap, rfl, hg1, hg2, hg3, hg4⟩ := HO.out.open_ hpos
  go_wp2
  go_loopw [14] (fun i wr => RowsRel l (downF l c top m) c top bottom w w.heap.size g cap i wr) (fun i _ => bottom + 1 - (intOf i).toNat)
  case atStart => exact ⟨top, Nat.le_refl _, by omega, rfl, by rw [fillL_none _ _ _ _ (Nat.le_refl _)]; exact HO.out, HB.out⟩
  case round =>
    generalize wr = w2 at *
    obtain ⟨y, hy1, hy2, rfl, ho, hb⟩ := hrel
    have HO2 := Lib.hid ho
    have HB2 := Lib.hid hb
    clear ho hb
    by_cases hlt : y ≤ bottom
    · go_wp2
      go_loopw [15] (fun i wr => ColsRel l (downF l c top m) c top y w w.heap.size g cap i wr) (fun i _ => c - (intOf i).toNat)
      case atStart => exact ⟨0, by omega, rfl, HO2.out, HB2.out⟩
      case round =>
        generalize wr = w3 at *
        obtain ⟨x, hx, rfl, ho, hb⟩ := hrel
        have HO3 := Lib.hid ho
        have HB3 := Lib.hid hb
        have z3 := hb.size
        clear ho hb
        by_cases hxc : x < c
        · obtain ⟨p, hp⟩ : ∃ p : Nat, p = y * c := ⟨_, rfl⟩
          have hyc : (y : Int) * (c : Int) = (p : Int) := by rw [hp]; simp
          have hpx : p + x < l.length := by rw [hp, HN.out]; exact rc_lt (by omega) hxc
          have hdv := rc_div y c x hxc
          rw [← hp] at hdv
          have HD := Lib.hid hdv
          have HP := Lib.hid hp
          clear hp hdv
          by_cases hym : top + m ≤ y
          · obtain ⟨p2, hp2⟩ : ∃ p2 : Nat, p2 = (y - m) * c := ⟨_, rfl⟩
            have hyc2 : ((y : Int) - (m : Int)) * (c : Int) = (p2 : Int) := by rw [hp2, Int.natCast_mul, Int.ofNat_sub (by omega)]
            have hpx2 : p2 + x < l.length := by rw [hp2, HN.out]; exact rc_lt (by omega) hxc
            have hym' : (top : Int) ≤ (y : Int) - (m : Int) := by omega
            obtain ⟨d, hd⟩ : ∃ d, l[p2 + x]? = some d := ⟨_, List.getElem?_eq_getElem hpx2⟩
            have HD2 := Lib.hid hd
            have HP2 := Lib.hid hp2
            clear hd hp2
            obtain ⟨ad, hA, hab, -⟩ := H.out.get (p2 + x) d HD2.out
            subst hA
            go_wp2_with ((with_reducible refine (blank_any _).mono ?_); rintro e w' ⟨rfl, hw'⟩; have z4 := hw'.size; have H1 := Lib.hid (HO3.out.below hw'); have HW := Lib.hid hw'; obtain ⟨x0, y0, z0, s0, s1, s2, f0, f1, f2⟩ := (HO3.out.below hw').spot (p + x) hpx; obtain ⟨_, hA, hab2, t0, t1, t2⟩ := ((H.out.below HB3.out).below (hw'.mono z3)).get (p2 + x) d HD2.out; cases hA; have tb : (ad.add ((p2 + x) * 3)).block < w'.heap.size := (by rw [block_add]; omega); have hg5 : g < w'.heap.size := (HO3.out.below hw').block.2; clear hw')
            go_roundw
            case rel =>
              refine ⟨x + 1, by omega, by go_num, ?_, (below_put (HB3.out.trans (HW.out.mono z3)) hg1 _ _ _ _).alloc (by simp; omega) _⟩
              have e : d = downF l c top m (p + x) := by
                unfold downF
                rw [HD.out.1, if_pos hym]
                have e2 : p + x - m * c = p2 + x := by
                  have e3 : (y - m) * c + m * c = y * c := by rw [← Nat.add_mul]; congr 1; omega
                  rw [HP.out, HP2.out]; omega
                rw [e2]
                have := getC_of hpx2
                rw [HD2.out] at this
                exact Option.some.inj this
              have hpe := HP.out
              have := (H1.out.put (p + x) hpx d).alloc (.cells #[.int .i32 d.r, .int .u16 (d.a : Int), .int .u8 (d.h : Int)] 42)
              rw [← hpe, fillL_set _ _ _ _ _ (by rw [HP.out]; exact Nat.le_trans (Nat.mul_le_mul_right _ hy1) (Nat.le_add_right _ _)) e] at this
              rw [show y * c + (x + 1) = p + x + 1 by rw [HP.out]; omega]
              exact this
            case measure => simp [intOf]; omega
          · have hym' : (y : Int) - (m : Int) < (top : Int) := by omega
            go_wp2_with ((with_reducible refine (blank_any _).mono ?_); rintro e w' ⟨rfl, hw'⟩; have z4 := hw'.size; have H1 := Lib.hid (HO3.out.below hw'); have HW := Lib.hid hw'; obtain ⟨x0, y0, z0, s0, s1, s2, f0, f1, f2⟩ := (HO3.out.below hw').spot (p + x) hpx; have hg5 : g < w'.heap.size := (HO3.out.below hw').block.2; clear hw')
            go_roundw
            case rel =>
              refine ⟨x + 1, by omega, by go_num, ?_, (below_put (HB3.out.trans (HW.out.mono z3)) hg1 _ _ _ _).alloc (by simp; omega) _⟩
              have e : blankC = downF l c top m (p + x) := by
                unfold downF
                rw [HD.out.1, if_neg hym]
              have hpe := HP.out
              have := (H1.out.put (p + x) hpx blankC).alloc (.cells #[.int .i32 32, .int .u16 0, .int .u8 0] 42)
              rw [← hpe, fillL_set _ _ _ _ _ (by rw [HP.out]; exact Nat.le_trans (Nat.mul_le_mul_right _ hy1) (Nat.le_add_right _ _)) e] at this
              rw [show y * c + (x + 1) = p + x + 1 by rw [HP.out]; omega]
              exact this
            case measure => simp [intOf]; omega
        · obtain rfl : c = x := by omega
          go_wp2
          go_roundw
          case rel =>
            refine ⟨y + 1, by omega, by omega, by go_num, ?_, HB3.out⟩
            have e : (y + 1) * c = y * c + c := by rw [Nat.add_mul, Nat.one_mul]
            rw [e]
            exact HO3.out
          case measure => simp [intOf]; omega
    · obtain rfl : y = bottom + 1 := by omega
      go_wp2
      go_ret
      exact ⟨_, rfl, HO2.out, HB2.out⟩
theorem Down_no (v : Value) (l : List Cl) (cols top bottom n : Int) (w : World) (h : CS w w.heap.size v l) (hl : l.length ≤ 1099511627776) (hb : upB l.length cols top bottom = false) :
    Calls Try.prog 13 #[v, .int .i64 cols, .int .i64 top, .int .i64 bottom, .int .i64 n] w (CellsPost l w) := by
  obtain ⟨A, k, rfl, h1, h2⟩ := h.form
  have H := Lib.hid h
  unfold upB at hb
  rw [decide_eq_false_iff_not] at hb
  clear h
  cases ho : gOk l.length cols with
  | false =>
    have HO := Lib.hid ho
    clear ho hb
    go_enter Try.func13, Try.ntmps13
    go_wp2_with (first | ((with_reducible refine (own_any _ l _ H.out hl).mono ?_); rintro e w1 ⟨v1, rfl, o1, b1⟩; have z1 := b1.size; have HC := Lib.hid ((H.out.below b1).more z1); have H1 := Lib.hid o1; have HB := Lib.hid b1; clear o1 b1) | ((with_reducible refine (grid_no _ l cols _ HC.out hl HO.out).mono ?_); rintro e w' ⟨rfl, rfl⟩))
    go_ret
    exact ⟨v1, rfl, H1.out, HB.out⟩
  | true =>
    obtain ⟨r, c, rfl, hG⟩ := gOk_of ho
    have hq := hG.quo.1
    rw [hq] at hb
    have hno : top < 0 ∨ (0 ≤ top ∧ (r : Int) ≤ bottom) ∨ (0 ≤ top ∧ bottom < (r : Int) ∧ bottom < top) := by
      by_cases e1 : top < 0
      · exact .inl e1
      by_cases e2 : (r : Int) ≤ bottom
      · exact .inr (.inl ⟨by omega, e2⟩)
      · refine .inr (.inr ⟨by omega, by omega, ?_⟩)
        by_cases e3 : bottom < top
        · exact e3
        · exact absurd ⟨ho, by omega, by omega, by omega⟩ hb
    have HG := Lib.hid hG
    clear ho hG hq hb
    rcases hno with e1 | ⟨e1, e2⟩ | ⟨e1, e2, e3⟩
    all_goals
      go_enter Try.func13, Try.ntmps13
      go_wp2_with (first | ((with_reducible refine (own_any _ l _ H.out hl).mono ?_); rintro e w1 ⟨v1, rfl, o1, b1⟩; have z1 := b1.size; have HC := Lib.hid ((H.out.below b1).more z1); have H1 := Lib.hid o1; have HB := Lib.hid b1; clear o1 b1) | ((with_reducible refine (grid_yes _ l r c _ HC.out HG.out).mono ?_); rintro e w' ⟨rfl, rfl⟩))
      go_ret
      exact ⟨v1, rfl, H1.out, HB.out⟩
theorem Down_any (v : Value) (l : List Cl) (cols top bottom n : Int) (w : World) (h : CS w w.heap.size v l) (hl : l.length ≤ 1099511627776) :
    Calls Try.prog 13 #[v, .int .i64 cols, .int .i64 top, .int .i64 bottom, .int .i64 n] w (CellsPost (downL l cols top bottom n) w) := by
  cases hb : upB l.length cols top bottom with
  | false =>
    have hno := hb
    unfold upB at hno
    rw [decide_eq_false_iff_not] at hno
    unfold downL
    rw [if_neg hno]
    exact Down_no v l cols top bottom n w h hl hb
  | true =>
    unfold upB at hb
    rw [decide_eq_true_eq] at hb
    unfold downL
    rw [if_pos hb]
    obtain ⟨h1, h2, h3, h4⟩ := hb
    obtain ⟨r, c, rfl, hG⟩ := gOk_of h1
    rw [hG.quo.1] at h3
    obtain ⟨t, rfl⟩ : ∃ t : Nat, top = t := ⟨top.toNat, by omega⟩
    obtain ⟨b, rfl⟩ : ∃ b : Nat, bottom = b := ⟨bottom.toNat, by omega⟩
    simp only [Int.toNat_natCast]
    exact Down_yes v l r c t b n w h hG (by omega) (by omega)
end Go.Proofs.Ytejemcpkmfhenaa

namespace Go.Proofs.Ytejemcpkmfhenaa
open Go.RowKit
set_option linter.unusedVariables false
/-- What a call answers that tells cells: a slice that reads as l; memory that was there is as it was. -/
def CsPost (l : List Cl) (w : World) (e : Ending) (w' : World) : Prop := ∃ v, e = .returned v ∧ CS w' w'.heap.size v l ∧ Below w.heap.size w w'
theorem CellsPost.toCs {l : List Cl} {w w' : World} {e : Ending} (h : CellsPost l w e w') : CsPost l w e w' := by
  obtain ⟨v, he, ho, hb⟩ := h
  exact ⟨v, he, ho.cs, hb⟩
theorem blankr_any (rows cols : Int) (w : World) : Calls Try.prog 25 #[.int .i64 rows, .int .i64 cols] w (CellsPost (blankL rows cols) w) := by
  cases h : sizeOk rows cols with
  | true =>
    unfold blankL
    rw [h, if_pos rfl]
    unfold sizeOk at h
    rw [decide_eq_true_eq] at h
    obtain ⟨r, rfl⟩ : ∃ r : Nat, rows = r := ⟨rows.toNat, by omega⟩
    obtain ⟨c, rfl⟩ : ∃ c : Nat, cols = c := ⟨cols.toNat, by omega⟩
    simp only [Int.toNat_natCast]
    exact Blank_yes r c w (by omega) (by omega) (by omega) (by omega)
  | false =>
    refine (Blank_no rows cols w h).mono ?_
    rintro e w' ⟨rfl, rfl⟩
    unfold blankL
    rw [h, if_neg (by decide)]
    exact ⟨_, rfl, OC.nil _ _, Below.refl _ _⟩
end Go.Proofs.Ytejemcpkmfhenaa

namespace Go.Proofs.Ytejemcpkmfhenaa
open Go.RowKit
set_option linter.unusedVariables false
set_option linter.unusedSimpArgs false

def sizeB (n : Int) : Bool := decide (1 ≤ n ∧ n ≤ 1000)
theorem isSize_any (n : Int) (w : World) : Calls Try.prog 42 #[.int .i64 n] w fun e w' => e = .returned (.bool (sizeB n)) ∧ w = w' := by
  unfold sizeB
  by_cases h1 : 1 ≤ n
  · by_cases h2 : n ≤ 1000
    · rw [decide_eq_true ⟨h1, h2⟩]
      go_enter Try.func42, Try.ntmps42
      go_wp2
      go_ret
      exact ⟨rfl, rfl⟩
    · rw [decide_eq_false (fun h => h2 h.2)]
      have h3 : decide (n ≤ 1000) = false := decide_eq_false h2
      go_enter Try.func42, Try.ntmps42
      go_wp2
      go_ret
      exact ⟨rfl, rfl⟩
  · rw [decide_eq_false (fun h => h1 h.1)]
    have h3 : decide (1 ≤ n) = false := decide_eq_false h1
    go_enter Try.func42, Try.ntmps42
    go_wp2
    go_ret
    exact ⟨rfl, rfl⟩
theorem capC_if (n most : Int) (h : 0 ≤ most) : (if most < (if n < 0 then 0 else n) then most else (if n < 0 then 0 else n)) = (capC n most : Int) := by
  unfold capC
  by_cases h : n < 0
  · simp only [h, if_true]; split <;> omega
  · simp only [h, if_false]
    split <;> omega
theorem nearest_any (n most : Int) (w : World) (h : 0 ≤ most) : Calls Try.prog 32 #[.int .i64 n, .int .i64 most] w fun e w' => e = .returned (.int .i64 (capC n most : Int)) ∧ w = w' := by
  have hq := capC_if n most h
  have HQ := Lib.hid hq
  clear hq
  go_enter Try.func32, Try.ntmps32
  go_wp2
  all_goals
    go_ret
    exact ⟨congrArg Ending.returned (congrArg (Value.int .i64) (by rw [← HQ.out]; split <;> (try split) <;> omega)), rfl⟩
theorem gblankp_any (w : World) : Calls Try.prog 41 #[] w fun e w' => e = .returned (.agg #[.int .i32 32, .int .u16 0, .int .u8 0]) ∧ Below w.heap.size w w' := by
  go_enter Try.func41, Try.ntmps41
  go_wp2
  exact bodyPost_ret (v := .agg #[.int .i32 32, .int .u16 0, .int .u8 0]) (by simp [results, Try.results41, go_sem]) rfl ⟨rfl, (Below.refl _ _).alloc (Nat.le_refl _) _⟩
theorem ownp_any (v : Value) (l : List Cl) (w : World) (h : CS w w.heap.size v l) (hl : l.length ≤ 1099511627776) : Calls Try.prog 30 #[v] w (CellsPost l w) := by
  have H := Lib.hid h
  obtain ⟨A, c, rfl, h1, h2⟩ := h.form
  clear h
  go_enter Try.func30, Try.ntmps30
  go_wp2_with (refine wpl_appC _ rfl _ _ rfl w.heap.size w.heap.size (.slice none 0 0) (.slice A l.length c) [] l rfl rfl (OC.nil _ _) H.out (by simp; omega) (Nat.le_refl _) ?_; intro v' w' g1 g2 g3 g4)
  go_ret
  exact ⟨v', rfl, g1, g3⟩
/-- A row of a grid: where it lies. -/
theorem rowOf_any (ad : Addr) (n k c y p : Nat) (w : World) (hp : (y : Int) * (c : Int) = (p : Int)) (hp2 : ((y : Int) + 1) * (c : Int) = (p : Int) + (c : Int)) (hn : p + c ≤ n) (hk : n ≤ k) (hk2 : k ≤ 9223372036854775807) (hc : 1 ≤ c) (hy : y ≤ 1000000) :
    Calls Try.prog 39 #[.slice (some ad) n k, .int .i64 (c : Int), .int .i64 (y : Int)] w fun e w' => e = .returned (.slice (some (ad.add (p * 3))) c (k - p)) ∧ w = w' := by
  have hq : p + c - p = c := by omega
  have hne : ¬ k = p := by omega
  go_enter Try.func39, Try.ntmps39
  go_wp2
  go_ret
  refine ⟨?_, rfl⟩
  show Ending.returned (.slice (some (ad.add (p * 3))) (p + c - p) (k - p)) = _
  rw [hq]
end Go.Proofs.Ytejemcpkmfhenaa

namespace Go.Proofs.Ytejemcpkmfhenaa
open Go.RowKit
set_option linter.unusedVariables false
set_option linter.unusedSimpArgs false

theorem CS.cut {w : World} {B : Nat} {A : Option Addr} {n c : Nat} {l : List Cl} (h : CS w B (.slice A n c) l) (k m j : Nat) (hk : k + m ≤ l.length) (hj : j = m) :
    CS w B (.slice (if c = k then A else Option.map (fun x => x.add (k * 3)) A) j (c - k)) ((l.drop k).take m) := by
  subst hj
  obtain ⟨A', c', hv, h1, h2, h3⟩ := h
  simp only [Value.slice.injEq] at hv
  obtain ⟨rfl, rfl, rfl⟩ := hv
  have hlen : ((l.drop k).take j).length = j := by simp; omega
  refine ⟨_, c - k, by rw [hlen], by rw [hlen]; omega, by omega, fun hl => ?_⟩
  rw [hlen] at hl
  obtain ⟨ad, rfl, hb, hc⟩ := h3 (by omega)
  rw [if_neg (by omega)]
  refine ⟨ad.add (k * 3), rfl, by rw [block_add]; exact hb, fun i b hi => ?_⟩
  rw [add_add, ← Nat.add_mul]
  refine hc _ b ?_
  rw [List.getElem?_take] at hi
  split at hi
  · rw [List.getElem?_drop] at hi; exact hi
  · cases hi
theorem CS.cutH {w : World} {B : Nat} {A : Option Addr} {n c : Nat} {l : List Cl} (h : CS w B (.slice A n c) l) (m j : Nat) (hk : m ≤ l.length) (hj : j = m) :
    CS w B (.slice A j c) (l.take m) := by
  obtain ⟨A', c', hv, h1, h2, h3⟩ := h
  simp only [Value.slice.injEq] at hv
  obtain ⟨rfl, rfl, rfl⟩ := hv
  subst hj
  have hlen : (l.take j).length = j := by simp; omega
  refine ⟨A, c, by rw [hlen], by omega, h2, fun hl => ?_⟩
  rw [hlen] at hl
  obtain ⟨ad, rfl, hb, hc⟩ := h3 (by omega)
  refine ⟨ad, rfl, hb, fun i b hi => ?_⟩
  refine hc _ b ?_
  rw [List.getElem?_take] at hi
  split at hi
  · exact hi
  · cases hi
/-- Which rows a grid has. -/
theorem upB_iff (n : Nat) (cols top bottom : Int) : upB n cols top bottom = true ↔ (gOk n cols = true ∧ 0 ≤ top ∧ top ≤ bottom ∧ bottom < (n : Int) / cols) := by
  unfold upB
  rw [decide_eq_true_eq]
  constructor
  · rintro ⟨a, f, g, h⟩
    exact ⟨a, f, h, g⟩
  · rintro ⟨a, f, h, g⟩
    exact ⟨a, f, g, h⟩
/-- Is it a grid of that many columns? -/
theorem isGrid_any (v : Value) (l : List Cl) (cols : Int) (w : World) (h : CS w w.heap.size v l) (hl : l.length ≤ 1048576) :
    Calls Try.prog 46 #[v, .int .i64 cols] w fun e w' => e = .returned (.bool (gOk l.length cols)) ∧ w = w' := by
  obtain ⟨A, k, rfl, h1, h2⟩ := h.form
  clear h
  have hU : gOk l.length cols = true ↔ (1 ≤ cols ∧ cols ≤ 1000 ∧ (l.length : Int) % cols = 0 ∧ 1 ≤ (l.length : Int) / cols ∧ (l.length : Int) / cols ≤ 1000) := by
    unfold gOk
    rw [decide_eq_true_eq]
  generalize gOk l.length cols = B at hU ⊢
  cases hs : sizeB cols with
  | false =>
    have e : B = false := by
      cases B with
      | false => rfl
      | true =>
        obtain ⟨a, b, -⟩ := hU.1 rfl
        unfold sizeB at hs
        rw [decide_eq_false_iff_not] at hs
        exact absurd ⟨a, b⟩ hs
    subst e
    clear hU
    go_enter Try.func46, Try.ntmps46
    go_wp2_with ((with_reducible refine (isSize_any _ _).mono ?_); rintro e w' ⟨rfl, rfl⟩)
    go_ret
    exact ⟨rfl, rfl⟩
  | true =>
    have c0 := hs
    unfold sizeB at c0
    rw [decide_eq_true_eq] at c0
    obtain ⟨c1, c2⟩ := c0
    have hz : ¬ cols = 0 := by omega
    have hq0 : 0 ≤ (l.length : Int) / cols := Int.ediv_nonneg (by omega) (by omega)
    have hq1 : (l.length : Int) / cols ≤ l.length := Int.ediv_le_self _ (by omega)
    by_cases g1 : (l.length : Int) % cols = 0
    · obtain ⟨q, hq⟩ : ∃ q : Nat, (l.length : Int) / cols = (q : Int) := ⟨((l.length : Int) / cols).toNat, by omega⟩
      rw [hq] at hq0 hq1 hU
      have e : B = sizeB (q : Int) := by
        rw [Bool.eq_iff_iff, hU]
        unfold sizeB
        rw [decide_eq_true_eq]
        exact ⟨fun h => h.2.2.2, fun h => ⟨c1, c2, g1, h⟩⟩
      subst e
      clear hU
      go_enter Try.func46, Try.ntmps46
      go_wp2_with ((with_reducible refine (isSize_any _ _).mono ?_); rintro e w' ⟨rfl, rfl⟩)
      go_ret
      exact ⟨rfl, rfl⟩
    · have e : B = false := by
        cases B with
        | false => rfl
        | true => exact absurd (hU.1 rfl).2.2.1 g1
      have g5 : ((l.length : Int) % cols == 0) = false := beq_eq_false_iff_ne.2 g1
      subst e
      clear hU
      go_enter Try.func46, Try.ntmps46
      go_wp2_with ((with_reducible refine (isSize_any _ _).mono ?_); rintro e w' ⟨rfl, rfl⟩)
      go_ret
      exact ⟨rfl, rfl⟩
theorem hasRows_any (v : Value) (l : List Cl) (cols top bottom : Int) (w : World) (h : CS w w.heap.size v l) (hl : l.length ≤ 1048576) :
    Calls Try.prog 29 #[v, .int .i64 cols, .int .i64 top, .int .i64 bottom] w fun e w' => e = .returned (.bool (upB l.length cols top bottom)) ∧ w = w' := by
  have hG := isGrid_any v l cols w h hl
  obtain ⟨A, k, rfl, h1, h2⟩ := h.form
  clear h
  have hU := upB_iff l.length cols top bottom
  generalize upB l.length cols top bottom = B at hU ⊢
  cases hs : gOk l.length cols with
  | false =>
    rw [hs] at hG hU
    have e : B = false := by
      cases B with
      | false => rfl
      | true => exact absurd (hU.1 rfl).1 (by decide)
    subst e
    clear hU
    go_enter Try.func29, Try.ntmps29
    go_wp2_with ((with_reducible refine hG.mono ?_); rintro e w' ⟨rfl, rfl⟩)
    go_ret
    exact ⟨rfl, rfl⟩
  | true =>
    rw [hs] at hG hU
    have c0 := hs
    unfold gOk at c0
    rw [decide_eq_true_eq] at c0
    obtain ⟨c1, c2, c3, c4, c5⟩ := c0
    have hz : ¬ cols = 0 := by omega
    by_cases g2 : 0 ≤ top
    · by_cases g3 : top ≤ bottom
      · by_cases g4 : bottom < (l.length : Int) / cols
        · have e : B = true := hU.2 ⟨rfl, g2, g3, g4⟩
          subst e
          clear hU
          go_enter Try.func29, Try.ntmps29
          go_wp2_with ((with_reducible refine hG.mono ?_); rintro e w' ⟨rfl, rfl⟩)
          go_ret
          exact ⟨rfl, rfl⟩
        · have e : B = false := by
            cases B with
            | false => rfl
            | true => exact absurd (hU.1 rfl).2.2.2 g4
          have g5 : decide (bottom < (l.length : Int) / cols) = false := decide_eq_false g4
          subst e
          clear hU
          go_enter Try.func29, Try.ntmps29
          go_wp2_with ((with_reducible refine hG.mono ?_); rintro e w' ⟨rfl, rfl⟩)
          go_ret
          exact ⟨rfl, rfl⟩
      · have e : B = false := by
          cases B with
          | false => rfl
          | true => exact absurd (hU.1 rfl).2.2.1 g3
        have g5 : decide (top ≤ bottom) = false := decide_eq_false g3
        subst e
        clear hU
        go_enter Try.func29, Try.ntmps29
        go_wp2_with ((with_reducible refine hG.mono ?_); rintro e w' ⟨rfl, rfl⟩)
        go_ret
        exact ⟨rfl, rfl⟩
    · have e : B = false := by
        cases B with
        | false => rfl
        | true => exact absurd (hU.1 rfl).2.1 g2
      have g5 : decide (0 ≤ top) = false := decide_eq_false g2
      subst e
      clear hU
      go_enter Try.func29, Try.ntmps29
      go_wp2_with ((with_reducible refine hG.mono ?_); rintro e w' ⟨rfl, rfl⟩)
      go_ret
      exact ⟨rfl, rfl⟩
theorem gPlace_up {n : Nat} {cols y x : Int} : gPlace n cols y x = (upB n cols y y && decide (0 ≤ x) && decide (x ≤ cols)) := by
  rw [Bool.eq_iff_iff]
  unfold gPlace upB
  simp only [Bool.and_eq_true, decide_eq_true_eq]
  constructor
  · rintro ⟨a, b, c, d, e⟩
    exact ⟨⟨⟨a, b, c, Int.le_refl _⟩, d⟩, e⟩
  · rintro ⟨⟨⟨a, b, c, -⟩, d⟩, e⟩
    exact ⟨a, b, c, d, e⟩
theorem hasPlace_any (v : Value) (l : List Cl) (cols y x : Int) (w : World) (h : CS w w.heap.size v l) (hl : l.length ≤ 1048576) :
    Calls Try.prog 37 #[v, .int .i64 cols, .int .i64 y, .int .i64 x] w fun e w' => e = .returned (.bool (gPlace l.length cols y x)) ∧ w = w' := by
  have hr := hasRows_any v l cols y y w h hl
  obtain ⟨A, k, rfl, h1, h2⟩ := h.form
  clear h
  rw [gPlace_up]
  generalize upB l.length cols y y = B at *
  cases B with
  | false =>
    go_enter Try.func37, Try.ntmps37
    go_wp2_with ((with_reducible refine hr.mono ?_); rintro e w' ⟨rfl, rfl⟩)
    go_ret
    exact ⟨rfl, rfl⟩
  | true =>
    by_cases g2 : 0 ≤ x
    · by_cases g3 : x ≤ cols
      · rw [decide_eq_true g2, decide_eq_true g3]
        go_enter Try.func37, Try.ntmps37
        go_wp2_with ((with_reducible refine hr.mono ?_); rintro e w' ⟨rfl, rfl⟩)
        go_ret
        exact ⟨rfl, rfl⟩
      · rw [decide_eq_true g2, decide_eq_false g3]
        have g5 : decide (x ≤ cols) = false := decide_eq_false g3
        go_enter Try.func37, Try.ntmps37
        go_wp2_with ((with_reducible refine hr.mono ?_); rintro e w' ⟨rfl, rfl⟩)
        go_ret
        exact ⟨rfl, rfl⟩
    · rw [decide_eq_false g2]
      have g5 : decide (0 ≤ x) = false := decide_eq_false g2
      go_enter Try.func37, Try.ntmps37
      go_wp2_with ((with_reducible refine hr.mono ?_); rintro e w' ⟨rfl, rfl⟩)
      go_ret
      exact ⟨rfl, rfl⟩
end Go.Proofs.Ytejemcpkmfhenaa

namespace Go.Proofs.Ytejemcpkmfhenaa
open Go.RowKit
set_option linter.unusedVariables false
set_option linter.unusedSimpArgs false

/-- A row of the call's own is answered; what lies below base is as it was. -/
def AddPost (l : List Cl) (base : Nat) (w : World) (e : Ending) (w' : World) : Prop := ∃ v, e = .returned v ∧ OC w' base v l ∧ Below base w w'
theorem oneBlank (w : World) : OC (w.alloc (.cells #[.int .i32 32, .int .u16 0, .int .u8 0] 42)) w.heap.size (.slice (some ⟨w.heap.size, 0, none⟩) 1 1) [blankC] :=
  World.ownsRow_lit (base := w.heap.size) (e := 42) (size := 3) w #[.int .i32 32, .int .u16 0, .int .u8 0] 1 (Nat.le_refl _) (by simp [maxLen]) rfl
def AdRel (l : List Cl) (base n : Nat) (w : World) (ov iv : Value) (wr : World) : Prop :=
  ∃ m : Nat, m ≤ n ∧ iv = .int .i64 (m : Int) ∧ OC wr base ov (l ++ List.replicate m blankC) ∧ Below base w wr
set_option maxHeartbeats 1000000 in
theorem addBlanks_any (v : Value) (l : List Cl) (n base : Nat) (w : World) (h : OC w base v l) (hb : base ≤ w.heap.size) (hn : n ≤ 1048576) (hl : l.length ≤ 1048576) :
    Calls Try.prog 43 #[v, .int .i64 (n : Int)] w (AddPost (l ++ List.replicate n blankC) base w) := by
  have H := Lib.hid h
  obtain ⟨A, c, rfl, h1, h2⟩ := h.cs.form
  clear h
  go_enter Try.func43, Try.ntmps43
  go_wp2
  go_loopw [0, 6] (fun ov iv wr => AdRel l base n w ov iv wr) (fun _ iv _ => n - (intOf iv).toNat)
  case atStart => exact ⟨0, Nat.zero_le _, rfl, by simpa using H.out, Below.refl _ _⟩
  case round =>
    obtain ⟨m, hm, rfl, ho, hbel⟩ := hrel
    have HB := Lib.hid hbel
    have hz := Nat.le_trans hb hbel.size
    obtain ⟨Ao, co, rfl, p1, p2⟩ := ho.cs.form
    have hN : (l ++ List.replicate m blankC).length = l.length + m := by simp
    rw [hN] at p1
    have HO := Lib.hid (show OC wr base (.slice Ao (l.length + m) co) (l ++ List.replicate m blankC) by rw [← hN]; exact ho)
    rw [hN]
    clear ho hbel hN
    by_cases hlt : m < n
    · go_wp2_with (first
        | (at_builtin; refine wpl_appC _ rfl (.tmp 8) (.tmp 10) rfl base _ _ _ (l ++ List.replicate m blankC) [blankC] rfl rfl ((HO.out.below hw).alloc _) (oneBlank _).cs (by simp; omega) (by simp; omega) ?_; intro v3 w3 ho3 hg3 hb3 hat3)
        | ((with_reducible refine (gblankp_any _).mono ?_); rintro e w2 ⟨rfl, hw⟩; have z2 := hw.size))
      go_roundw
      case rel =>
        refine ⟨m + 1, hlt, by go_num, ?_, ?_⟩
        · rw [List.replicate_succ', ← List.append_assoc]
          exact ho3
        · exact ((HB.out.trans (hw.mono hz)).alloc (by omega) _).trans hb3
      case measure => simp [intOf]; omega
    · obtain rfl : m = n := by omega
      go_wp2
      go_ret
      exact ⟨_, rfl, HO.out, HB.out⟩
end Go.Proofs.Ytejemcpkmfhenaa

namespace Go.Proofs.Ytejemcpkmfhenaa
open Go.RowKit
set_option linter.unusedVariables false
set_option linter.unusedSimpArgs false

theorem step_appC {ops : Array Oper} {o : Oper} {a : Act} {w : World} {K : Act → World → Prop} {Q : Exit → Act → World → Prop} {E : Prop} (hgd : o.guard = none) (s x : Operand)
    (ho : o.op = .call { callee := .builtin .append, args := #[s, x], argTypes := #[22, 22] })
    (base B : Nat) (v u : Value) (l m : List Cl) (hs : a.eval s = v) (hx : a.eval x = u) (hown : OC w base v l) (hr : CS w B u m) (hlen : l.length + m.length ≤ 1099511627776) (hbase : base ≤ w.heap.size)
    (h : ∀ v' w', OC w' base v' (l ++ m) → w.grownBy w' v.ownBlock → Below base w w' → K (a.put o.dst v') w') :
    if Region.wanted o (yielded ops a.tmps) = true then Oper.wp Try.prog o a w K Q else E := by
  have hw : Region.wanted o (yielded ops a.tmps) = true := by simp [Region.wanted, hgd]
  rw [if_pos hw]
  obtain ⟨v', w', hrun, h2, h3, h4, h5⟩ := run_appC w o.type hown hr hlen hbase
  unfold Oper.wp execOp
  simp only [ho, resolve, invoke, builtin, Sem.run_bind, Sem.run_pure, Result.andThen_ok, List.map_toArray, List.map_cons, List.map_nil, hs, hx, hrun]
  exact h v' w' h2 h3 h4
/-- make of no cells, with room for so many. -/
theorem run_make0 (w : World) (c : Nat) (hc : c ≤ 1048576) : ∃ w', (Instr.makeSlice 22 (.int .i64 0) (.int .i64 (c : Int))).run Try.prog w = .ok (.slice (some ⟨w.heap.size, 0, none⟩) 0 c) w' ∧ OC w' w.heap.size (.slice (some ⟨w.heap.size, 0, none⟩) 0 c) [] ∧ Below w.heap.size w w' := by
  obtain ⟨i0, hi0, hz0, hz1, hz2⟩ := info_parts cellInfo
  obtain ⟨w5, hmk, ho5, hg5⟩ := run_make_own (P := Try.prog) w w.heap.size 22 42 i0 _ 3 Try.underlying22 hi0 hz0 hz1 .i64 .i64 c (by rw [hz2]; omega) (by unfold maxLen; omega) (Nat.le_refl _)
  exact ⟨w5, hmk, ho5, ⟨hg5.os, hg5.tape, hg5.output, hg5.size, fun i hi => hg5.block i hi (by simp)⟩⟩
/-- From one place up to another the cells go so many places further ahead. -/
def aheadL (l : List Cl) (f t m : Nat) : List Cl := l.take f ++ (l.drop (f + m)).take (t - (f + m)) ++ List.replicate m blankC ++ l.drop t
set_option maxHeartbeats 2000000 in
theorem ahead_any (v : Value) (l : List Cl) (f t d N m e : Nat) (w : World) (h : CS w w.heap.size v l) (hl : l.length ≤ 1048576) (hft : f ≤ t) (htl : t ≤ l.length) (hN : N ≤ 1048576)
    (hd : (t : Int) - (f : Int) = (d : Int)) (hm : (if d < N then (d : Int) else (N : Int)) = (m : Int)) (he : (f : Int) + (m : Int) = (e : Int)) :
    Calls Try.prog 31 #[v, .int .i64 (f : Int), .int .i64 (t : Int), .int .i64 (N : Int)] w (CellsPost (aheadL l f t m) w) := by
  obtain ⟨A, k, rfl, h1, h2⟩ := h.form
  have H := Lib.hid h
  have hmd : m ≤ d := by split at hm <;> omega
  have he2 : e = f + m := by omega
  have hme : e ≤ t := by omega
  have hdb : d ≤ 1048576 := by omega
  have hmb : m ≤ 1048576 := by omega
  have HE2 := Lib.hid he2
  obtain ⟨w5, hmk, ho5, hb5⟩ := run_make0 w.drew l.length hl
  have hsz : w.drew.heap.size = w.heap.size := rfl
  have hb5' : Below w.heap.size w w5 := (Below.drew (Below.refl w.heap.size w)).trans hb5
  have hz5 := hb5'.size
  have HO5 := Lib.hid (show OC w5 w.heap.size (.slice (some ⟨w.heap.size, 0, none⟩) 0 l.length) [] from ho5)
  have HB5 := Lib.hid hb5'
  have HC5 := Lib.hid ((h.below hb5').cutH f f (by omega) rfl)
  have hfk : f ≤ k := by omega
  have HFT := Lib.hid (show (l.take f).length = f by simp; omega)
  clear h he2 ho5 hb5 hsz
  go_enter Try.func31, Try.ntmps31
  go_wp2
  go_region_law (refine step_appC rfl (.tmp 17) (.tmp 20) rfl w.heap.size _ (.slice (some ⟨w.heap.size, 0, none⟩) 0 l.length) (.slice A f k) [] (l.take f) ?_ ?_ HO5.out HC5.out (by simp; omega) hz5 ?_; go_simp; go_simp; intro v6 w6 ho6 hg6 hb6)
  all_goals
    have hb6' : Below w.heap.size w w6 := HB5.out.trans hb6
    have HB6 := Lib.hid hb6'
    have HO6 := Lib.hid (show OC w6 w.heap.size v6 (l.take f) from ho6)
    have HC6 := Lib.hid (((H.out.below hb6').cut e (t - e) (t - e) (by omega) rfl))
    have hz6 := hb6'.size
    obtain ⟨A2, hA2⟩ : ∃ A2, (if k = e then A else Option.map (fun x => x.add (e * 3)) A) = A2 := ⟨_, rfl⟩
    obtain ⟨A3, hA3⟩ : ∃ A3, (if k = t then A else Option.map (fun x => x.add (t * 3)) A) = A3 := ⟨_, rfl⟩
    rw [hA2] at HC6
    have HA3 := Lib.hid hA3
    have htk : t ≤ k := by omega
    have hek : e ≤ k := by omega
    have HT1 := Lib.hid (show ((l.drop e).take (t - e)).length = t - e by simp; omega)
    clear hmk hb5' ho6 hg6 hb6 hb6'
    go_wp2_with (at_builtin; refine wpl_appC _ rfl (.tmp 22) (.tmp 28) rfl w.heap.size _ v6 (.slice A2 (t - e) (k - e)) (l.take f) ((l.drop e).take (t - e)) rfl rfl HO6.out HC6.out (by rw [HT1.out, HFT.out]; omega) hz6 ?_; intro v7 w7 ho7 hg7 hb7 hat7)
    have hb7' : Below w.heap.size w w7 := HB6.out.trans hb7
    have hz7 := hb7'.size
    have HB7 := Lib.hid hb7'
    have HL7 := Lib.hid (show (l.take f ++ (l.drop e).take (t - e)).length = f + (t - e) by rw [List.length_append, HT1.out, HFT.out])
    have HO7 := Lib.hid ho7
    clear ho7 hg7 hb7 hat7 hb7'
    refine (addBlanks_any v7 (l.take f ++ (l.drop e).take (t - e)) m w.heap.size w7 HO7.out hz7 hmb (by rw [HL7.out]; omega)).mono ?_
    rintro x w8 ⟨v8, rfl, ho8, hb8⟩
    have hb8' : Below w.heap.size w w8 := HB7.out.trans hb8
    have hz8 := hb8'.size
    have HB8 := Lib.hid hb8'
    have HO8 := Lib.hid ho8
    have HC8 := Lib.hid (show CS w8 w.heap.size (.slice A3 (l.length - t) (k - t)) (l.drop t) by
      have := (H.out.below hb8').cut t (l.length - t) (l.length - t) (by omega) rfl
      rw [HA3.out, List.take_of_length_le (by simp)] at this
      exact this)
    clear ho8 hb8 hb8'
    go_wp2_with (at_builtin; refine wpl_appC _ rfl (.tmp 33) (.tmp 36) rfl w.heap.size _ v8 (.slice A3 (l.length - t) (k - t)) (l.take f ++ (l.drop e).take (t - e) ++ List.replicate m blankC) (l.drop t) rfl rfl HO8.out HC8.out (by rw [List.length_append, HL7.out]; simp; omega) hz8 ?_; intro v9 w9 ho9 hg9 hb9 hat9)
    go_ret
    refine ⟨_, rfl, ?_, HB8.out.trans hb9⟩
    unfold aheadL
    rw [← HE2.out]
    exact ho9
/-- From one place up to another the cells go so many places further back. -/
def backL (l : List Cl) (f t m : Nat) : List Cl := l.take f ++ List.replicate m blankC ++ (l.drop f).take (t - m - f) ++ l.drop t
set_option maxHeartbeats 2000000 in
theorem back_any (v : Value) (l : List Cl) (f t d N m e : Nat) (w : World) (h : CS w w.heap.size v l) (hl : l.length ≤ 1048576) (hft : f ≤ t) (htl : t ≤ l.length) (hN : N ≤ 1048576)
    (hd : (t : Int) - (f : Int) = (d : Int)) (hm : (if d < N then (d : Int) else (N : Int)) = (m : Int)) (he : (t : Int) - (m : Int) = (e : Int)) :
    Calls Try.prog 36 #[v, .int .i64 (f : Int), .int .i64 (t : Int), .int .i64 (N : Int)] w (CellsPost (backL l f t m) w) := by
  obtain ⟨A, k, rfl, h1, h2⟩ := h.form
  have H := Lib.hid h
  have hmd : m ≤ d := by split at hm <;> omega
  have he2 : e = t - m := by omega
  have hfe : f ≤ e := by omega
  have hme : e ≤ t := by omega
  have hdb : d ≤ 1048576 := by omega
  have hmb : m ≤ 1048576 := by omega
  have HE2 := Lib.hid he2
  obtain ⟨w5, hmk, ho5, hb5⟩ := run_make0 w.drew l.length hl
  have hsz : w.drew.heap.size = w.heap.size := rfl
  have hb5' : Below w.heap.size w w5 := (Below.drew (Below.refl w.heap.size w)).trans hb5
  have hz5 := hb5'.size
  have HO5 := Lib.hid (show OC w5 w.heap.size (.slice (some ⟨w.heap.size, 0, none⟩) 0 l.length) [] from ho5)
  have HB5 := Lib.hid hb5'
  have HC5 := Lib.hid ((h.below hb5').cutH f f (by omega) rfl)
  have hfk : f ≤ k := by omega
  have HFT := Lib.hid (show (l.take f).length = f by simp; omega)
  clear h he2 ho5 hb5 hsz
  go_enter Try.func36, Try.ntmps36
  go_wp2
  go_region_law (refine step_appC rfl (.tmp 17) (.tmp 20) rfl w.heap.size _ (.slice (some ⟨w.heap.size, 0, none⟩) 0 l.length) (.slice A f k) [] (l.take f) ?_ ?_ HO5.out HC5.out (by simp; omega) hz5 ?_; go_simp; go_simp; intro v6 w6 ho6 hg6 hb6)
  all_goals
    have hb6' : Below w.heap.size w w6 := HB5.out.trans hb6
    have HB6 := Lib.hid hb6'
    have HO6 := Lib.hid (show OC w6 w.heap.size v6 (l.take f) from ho6)
    have hz6 := hb6'.size
    have htk : t ≤ k := by omega
    have hek : e ≤ k := by omega
    clear hmk hb5' ho6 hg6 hb6 hb6'
    go_wp2_with fail
    refine (addBlanks_any v6 (l.take f) m w.heap.size w6 HO6.out hz6 hmb (by rw [HFT.out]; omega)).mono ?_
    rintro x w7 ⟨v7, rfl, ho7, hb7⟩
    have hb7' : Below w.heap.size w w7 := HB6.out.trans hb7
    have hz7 := hb7'.size
    have HB7 := Lib.hid hb7'
    have HO7 := Lib.hid ho7
    obtain ⟨A2, hA2⟩ : ∃ A2, (if k = f then A else Option.map (fun x => x.add (f * 3)) A) = A2 := ⟨_, rfl⟩
    obtain ⟨A3, hA3⟩ : ∃ A3, (if k = t then A else Option.map (fun x => x.add (t * 3)) A) = A3 := ⟨_, rfl⟩
    have HC7 := Lib.hid (((H.out.below hb7').cut f (e - f) (e - f) (by omega) rfl))
    rw [hA2] at HC7
    have HA3 := Lib.hid hA3
    have HT1 := Lib.hid (show ((l.drop f).take (e - f)).length = e - f by simp; omega)
    have HL7 := Lib.hid (show (l.take f ++ List.replicate m blankC).length = f + m by rw [List.length_append, HFT.out]; simp)
    clear ho7 hb7 hb7'
    go_wp2_with (at_builtin; refine wpl_appC _ rfl (.tmp 25) (.tmp 31) rfl w.heap.size _ v7 (.slice A2 (e - f) (k - f)) (l.take f ++ List.replicate m blankC) ((l.drop f).take (e - f)) rfl rfl HO7.out HC7.out (by rw [HT1.out, HL7.out]; omega) hz7 ?_; intro v8 w8 ho8 hg8 hb8 hat8; have hb8' : Below w.heap.size w w8 := HB7.out.trans hb8; have hz8 := hb8'.size; have HB8 := Lib.hid hb8'; have HO8 := Lib.hid ho8; have HC8 := Lib.hid (show CS w8 w.heap.size (.slice A3 (l.length - t) (k - t)) (l.drop t) from (by have := (H.out.below hb8').cut t (l.length - t) (l.length - t) (by omega) rfl; rw [HA3.out, List.take_of_length_le (by simp)] at this; exact this)); clear ho8 hg8 hb8 hb8' hat8; go_wp2_with (at_builtin; refine wpl_appC _ rfl (.tmp 33) (.tmp 36) rfl w.heap.size _ v8 (.slice A3 (l.length - t) (k - t)) (l.take f ++ List.replicate m blankC ++ (l.drop f).take (e - f)) (l.drop t) rfl rfl HO8.out HC8.out (by rw [List.length_append, HL7.out, HT1.out]; simp; omega) hz8 ?_; intro v9 w9 ho9 hg9 hb9 hat9))
    go_ret
    refine ⟨_, rfl, ?_, HB8.out.trans hb9⟩
    unfold backL
    rw [← HE2.out]
    exact ho9
end Go.Proofs.Ytejemcpkmfhenaa

namespace Go.Proofs.Ytejemcpkmfhenaa
open Go.RowKit
set_option linter.unusedVariables false
set_option linter.unusedSimpArgs false

theorem OC.at3 {w : World} {base g n cap : Nat} {l : List Cl} (h : OC w base (.slice (some ⟨g, 0, none⟩) n cap) l) (q Q : Nat) (c : Cl) (hc : l[q]? = some c) (hQ : q * 3 = Q) :
    w.cell? ⟨g, Q, none⟩ = some (.int .i32 c.r) ∧ w.cell? ⟨g, Q + 1, none⟩ = some (.int .u16 (c.a : Int)) ∧ w.cell? ⟨g, Q + 2, none⟩ = some (.int .u8 (c.h : Int)) ∧ w.frozen? ⟨g, Q, none⟩ = false ∧ w.frozen? ⟨g, Q + 1, none⟩ = false ∧ w.frozen? ⟨g, Q + 2, none⟩ = false := by
  obtain rfl := h.len
  subst hQ
  obtain ⟨a, b, d⟩ := h.threeAt q c hc
  exact ⟨a, b, d, h.frozenAt _, h.frozenAt _, h.frozenAt _⟩
theorem mend_at {l : List Cl} {f : Nat → Cl} {lo q i : Nat} (hi : i < l.length) (hq : q ≤ i) : (fillL l f lo q)[i]? = some (getC l i) := by
  rw [fillL_get, if_pos hi, if_neg (by omega)]
  exact getC_of hi
/-- What stands ahead of a right half: a left half that was there is there still. -/
theorem mend_prev {l : List Cl} {c y x : Nat} (hx : x < c) (hx0 : 1 ≤ x) (hl : y * c + c ≤ l.length) (h2 : (getC l (y * c + x)).h = 2) :
    ∃ d, (fillL l (mendF l c) (y * c) (y * c + x))[y * c + x - 1]? = some d ∧ (d.h = 1 ↔ (getC l (y * c + x - 1)).h = 1) := by
  have hdv := rc_div y c (x - 1) (by omega)
  rw [show y * c + (x - 1) = y * c + x - 1 by omega] at hdv
  rw [fillL_get, if_pos (by omega), if_pos (by omega)]
  refine ⟨_, rfl, ?_⟩
  unfold mendF
  rw [hdv.2]
  by_cases h1 : (getC l (y * c + x - 1)).h = 1
  · have hb : badH l c (y * c + x - 1) (x - 1) = false := by
      unfold badH
      rw [h1, show y * c + x - 1 + 1 = y * c + x by omega, h2]
      simp
      omega
    rw [hb, if_neg (by decide)]
  · constructor
    · intro h
      split at h
      · exact absurd h (by decide)
      · exact h
    · intro h
      exact absurd h h1
def MdRel (l : List Cl) (c y : Nat) (w : World) (base g n cap : Nat) (i : Value) (wr : World) : Prop :=
  ∃ x : Nat, x ≤ c ∧ i = .int .i64 (x : Int) ∧ OC wr base (.slice (some ⟨g, 0, none⟩) n cap) (fillL l (mendF l c) (y * c) (y * c + x)) ∧ Below base w wr
def MdPost (l : List Cl) (base : Nat) (v : Value) (w : World) (e : Ending) (w' : World) : Prop := e = .returned (.tuple #[]) ∧ OC w' base v l ∧ Below base w w'
theorem mend_put {W : World} {base g n cap c y x Q : Nat} {l : List Cl} (h : OC W base (.slice (some ⟨g, 0, none⟩) n cap) (fillL l (mendF l c) (y * c) (y * c + x))) (hx : x < c) (hl : y * c + c ≤ l.length) (hQ : (y * c + x) * 3 = Q) (hbad : badH l c (y * c + x) x = true) :
    OC (((W.setCell ⟨g, Q, none⟩ (.int .i32 32)).setCell ⟨g, Q + 1, none⟩ (.int .u16 0)).setCell ⟨g, Q + 2, none⟩ (.int .u8 0)) base (.slice (some ⟨g, 0, none⟩) n cap) (fillL l (mendF l c) (y * c) (y * c + (x + 1))) := by
  have hn := h.len
  rw [fillL_len] at hn
  have e : blankC = mendF l c (y * c + x) := by
    unfold mendF
    rw [(rc_div y c x hx).2, hbad]
    rfl
  have := h.put (y * c + x) (by omega) blankC
  rw [fillL_set _ _ _ _ _ (by omega) e, hQ] at this
  exact this
theorem mend_stay {W : World} {base g n cap c y x : Nat} {l : List Cl} (h : OC W base (.slice (some ⟨g, 0, none⟩) n cap) (fillL l (mendF l c) (y * c) (y * c + x))) (hx : x < c) (hl : y * c + c ≤ l.length) (hbad : badH l c (y * c + x) x = false) :
    OC W base (.slice (some ⟨g, 0, none⟩) n cap) (fillL l (mendF l c) (y * c) (y * c + (x + 1))) := by
  have e : l[y * c + x]? = some (mendF l c (y * c + x)) := by
    unfold mendF
    rw [(rc_div y c x hx).2, hbad]
    exact getC_of (by omega)
  rw [← Nat.add_assoc, ← fillL_skip _ _ _ _ e]
  exact h
set_option maxHeartbeats 4000000 in
set_option maxRecDepth 100000 in
theorem mend_any (l : List Cl) (c y base g n cap P K : Nat) (w : World) (h : OC w base (.slice (some ⟨g, 0, none⟩) n cap) l) (hb : base ≤ w.heap.size) (hl : y * c + c ≤ l.length) (hlen : l.length ≤ 1048576) (c1 : 1 ≤ c) (c2 : c ≤ 1000)
    (hP : P = y * c * 3) (hK : c ≤ K) (hK2 : K ≤ 9223372036854775807) :
    Calls Try.prog 38 #[.slice (some ⟨g, P, none⟩) c K] w (MdPost (fillL l (mendF l c) (y * c) (y * c + c)) base (.slice (some ⟨g, 0, none⟩) n cap) w) := by
  have H := Lib.hid h
  have HP := Lib.hid hP
  have hbg := h.block.1
  clear h hP
  go_enter Try.func38, Try.ntmps38
  go_wp2
  go_loopw [6] (fun i wr => MdRel l c y w base g n cap i wr) (fun i _ => c - (intOf i).toNat)
  case atStart => exact ⟨0, Nat.zero_le _, rfl, by rw [fillL_none _ _ _ _ (by omega)]; exact H.out, Below.refl _ _⟩
  case round =>
    generalize wr = w3 at *
    obtain ⟨x, hx, rfl, ho, hbel⟩ := hrel
    have HO := Lib.hid ho
    have HB := Lib.hid hbel
    have hz3 := Nat.le_trans hb hbel.size
    have hg3 := ho.block.2
    by_cases hxc : x < c
    · have hxc2 : (x : Int) < (c : Int) := by omega
      have hq : (y * c + x) * 3 = P + x * 3 := by rw [HP.out]; omega
      obtain ⟨t0, t1, t2, f0, f1, f2⟩ := ho.at3 _ _ _ (mend_at (show y * c + x < l.length by omega) (Nat.le_refl _)) hq
      have HQ := Lib.hid hq
      clear ho hbel hq
      have hgd : ∃ d, d = getC l (y * c + x) := ⟨_, rfl⟩
      obtain ⟨d, hd⟩ := hgd
      rw [← hd] at t0 t1 t2
      have HO1 := Lib.hid (HO.out.alloc (.cells #[.int .i32 d.r, .int .u16 (d.a : Int), .int .u8 (d.h : Int)] 42))
      have HB1 := Lib.hid (HB.out.alloc hz3 (.cells #[.int .i32 d.r, .int .u16 (d.a : Int), .int .u8 (d.h : Int)] 42))
      have KC := Lib.hid (show (w3.alloc (.cells #[.int .i32 d.r, .int .u16 (d.a : Int), .int .u8 (d.h : Int)] 42)).heap[w3.heap.size]? = some (.cells #[.int .i32 d.r, .int .u16 (d.a : Int), .int .u8 (d.h : Int)] 42) by
        show (w3.heap.push _)[w3.heap.size]? = _
        simp)
      have HD := Lib.hid hd
      clear hd
      go_upto_region 3 with fail
      generalize World.alloc w3 _ = W at HO1 HB1 KC ⊢
      generalize w3.heap.size = sb at *
      clear t0 t1 t2 f0 f1 f2
      have k2 : W.cell? ⟨sb, 2, none⟩ = some (.int .u8 (d.h : Int)) := by rw [cell_of_row W sb 2 _ _ _ KC.out]; rfl
      have hsW : sb < W.heap.size := by
        rcases Nat.lt_or_ge sb W.heap.size with a | a
        · exact a
        · have := KC.out; rw [Array.getElem?_eq_none a] at this; cases this
      have hz1 := HB1.out.size
      by_cases h1 : d.h = 1
      · rw [h1] at k2
        by_cases h2 : x + 1 = c
        · have hbad : badH l c (y * c + x) x = true := by unfold badH; rw [← HD.out, h1]; simp [h2]
          have HBAD := Lib.hid hbad
          have e1 : ((x : Int) + 1 == (c : Int)) = true := by simp; omega
          have e2 : (x : Int) + 1 = (c : Int) := by omega
          clear hbad
          have HE2 := Lib.hid e2
          have H2 := Lib.hid h2
          clear e2 h1 h2
          go_wp2_with ((with_reducible refine (gblankp_any _).mono ?_); rintro e w2 ⟨rfl, hw⟩; have z2 := hw.size; have HW := Lib.hid hw; obtain ⟨s0, s1, s2, f0, f1, f2⟩ := (HO1.out.below hw).at3 _ _ _ (mend_at (show y * c + x < l.length by omega) (Nat.le_refl _)) HQ.out; clear hw)
          go_roundw
          case rel => exact ⟨x + 1, by omega, by go_num, mend_put (HO1.out.below HW.out) hxc hl HQ.out HBAD.out, below_put (HB1.out.trans (HW.out.mono (by omega))) hbg _ _ _ _⟩
          case measure => simp [intOf]; omega
        · have e1 : ((x : Int) + 1 == (c : Int)) = false := by simp; omega
          have e2 : ¬ (x : Int) + 1 = (c : Int) := by omega
          have hx1 : x + 1 < c := by omega
          obtain ⟨d2, hd2⟩ : ∃ d2, d2 = getC l (y * c + x + 1) := ⟨_, rfl⟩
          have n0 := HO1.out.at3 _ (P + (x + 1) * 3) _ (mend_at (show y * c + x + 1 < l.length by omega) (by omega)) (by have := HQ.out; omega)
          rw [← hd2] at n0
          obtain ⟨-, -, n2, -⟩ := n0
          have HD2 := Lib.hid hd2
          clear hd2
          by_cases h3 : d2.h = 2
          · have HBAD := Lib.hid (show badH l c (y * c + x) x = false by unfold badH; rw [← HD.out, ← HD2.out, h1, h3]; simp [h2])
            rw [h3] at n2
            clear h1 h2 h3
            go_wp2
            go_roundw
            case rel => exact ⟨x + 1, by omega, by go_num, mend_stay HO1.out hxc hl HBAD.out, HB1.out⟩
            case measure => simp [intOf]; omega
          · have HBAD := Lib.hid (show badH l c (y * c + x) x = true by unfold badH; rw [← HD.out, ← HD2.out, h1]; simp [h2, h3])
            have e3 : ((d2.h : Int) != 2) = true := by simp; omega
            have e4 : ¬ (d2.h : Int) = 2 := by omega
            clear h1 h2 h3
            go_wp2_with ((with_reducible refine (gblankp_any _).mono ?_); rintro e w2 ⟨rfl, hw⟩; have z2 := hw.size; have HW := Lib.hid hw; obtain ⟨s0, s1, s2, f0, f1, f2⟩ := (HO1.out.below hw).at3 _ _ _ (mend_at (show y * c + x < l.length by omega) (Nat.le_refl _)) HQ.out; clear hw)
            go_roundw
            case rel => exact ⟨x + 1, by omega, by go_num, mend_put (HO1.out.below HW.out) hxc hl HQ.out HBAD.out, below_put (HB1.out.trans (HW.out.mono (by omega))) hbg _ _ _ _⟩
            case measure => simp [intOf]; omega
      · have g1 : ((d.h : Int) == 1) = false := by simp; omega
        have g2 : ¬ (d.h : Int) = 1 := by omega
        by_cases h2 : d.h = 2
        · rw [h2] at k2
          clear g1 g2
          by_cases h3 : x = 0
          · have HBAD := Lib.hid (show badH l c (y * c + x) x = true by unfold badH; rw [← HD.out, h2]; simp [h3])
            have e1 : ((x : Int) == 0) = true := by simp; omega
            have e2 : (x : Int) = 0 := by omega
            have HE2 := Lib.hid e2
            have H3 := Lib.hid h3
            clear h1 h2 h3 e2
            go_wp2_with ((with_reducible refine (gblankp_any _).mono ?_); rintro e w2 ⟨rfl, hw⟩; have z2 := hw.size; have HW := Lib.hid hw; obtain ⟨s0, s1, s2, f0, f1, f2⟩ := (HO1.out.below hw).at3 _ _ _ (mend_at (show y * c + x < l.length by omega) (Nat.le_refl _)) HQ.out; clear hw)
            go_roundw
            case rel => exact ⟨x + 1, by omega, by go_num, mend_put (HO1.out.below HW.out) hxc hl HQ.out HBAD.out, below_put (HB1.out.trans (HW.out.mono (by omega))) hbg _ _ _ _⟩
            case measure => simp [intOf]; omega
          · have e1 : ((x : Int) == 0) = false := by simp; omega
            have e2 : ¬ (x : Int) = 0 := by omega
            have hx1 : 1 ≤ x := by omega
            obtain ⟨d2, hd2, hd3⟩ := mend_prev hxc hx1 hl (by rw [← HD.out]; exact h2)
            obtain ⟨-, -, n2, -⟩ := HO1.out.at3 _ (P + (x - 1) * 3) _ hd2 (by have := HQ.out; omega)
            have HD3 := Lib.hid hd3
            clear hd2 hd3
            by_cases h4 : d2.h = 1
            · have HBAD := Lib.hid (show badH l c (y * c + x) x = false by unfold badH; rw [← HD.out, h2, HD3.out.1 h4]; simp [h3])
              rw [h4] at n2
              clear h1 h2 h3 h4
              go_wp2
              go_roundw
              case rel => exact ⟨x + 1, by omega, by go_num, mend_stay HO1.out hxc hl HBAD.out, HB1.out⟩
              case measure => simp [intOf]; omega
            · have HBAD := Lib.hid (show badH l c (y * c + x) x = true by unfold badH; rw [← HD.out, h2]; have h5 : ¬ (getC l (y * c + x - 1)).h = 1 := fun h => h4 (HD3.out.2 h); simp [h3, h5])
              have e3 : ((d2.h : Int) != 1) = true := by simp; omega
              have e4 : ¬ (d2.h : Int) = 1 := by omega
              clear h1 h2 h3 h4
              go_wp2_with ((with_reducible refine (gblankp_any _).mono ?_); rintro e w2 ⟨rfl, hw⟩; have z2 := hw.size; have HW := Lib.hid hw; obtain ⟨s0, s1, s2, f0, f1, f2⟩ := (HO1.out.below hw).at3 _ _ _ (mend_at (show y * c + x < l.length by omega) (Nat.le_refl _)) HQ.out; clear hw)
              go_roundw
              case rel => exact ⟨x + 1, by omega, by go_num, mend_put (HO1.out.below HW.out) hxc hl HQ.out HBAD.out, below_put (HB1.out.trans (HW.out.mono (by omega))) hbg _ _ _ _⟩
              case measure => simp [intOf]; omega
        · have HBAD := Lib.hid (show badH l c (y * c + x) x = false by unfold badH; rw [← HD.out]; simp [h1, h2])
          have g3 : ((d.h : Int) == 2) = false := by simp; omega
          have g4 : ¬ (d.h : Int) = 2 := by omega
          clear h1 h2
          go_wp2
          go_roundw
          case rel => exact ⟨x + 1, by omega, by go_num, mend_stay HO1.out hxc hl HBAD.out, HB1.out⟩
          case measure => simp [intOf]; omega
    · obtain rfl : c = x := by omega
      clear ho hbel
      go_wp2
      go_end0
      exact ⟨rfl, HO.out, HB.out⟩
end Go.Proofs.Ytejemcpkmfhenaa

namespace Go.Proofs.Ytejemcpkmfhenaa
set_option linter.unusedVariables false

theorem getC_app {a b : List Cl} (i : Nat) : getC (a ++ b) i = if i < a.length then getC a i else getC b (i - a.length) := by
  unfold getC List.getD
  rw [List.getElem?_append]
  split <;> rfl
theorem getC_take {a : List Cl} (n i : Nat) (h : i < n) : getC (a.take n) i = getC a i := by
  unfold getC List.getD
  rw [List.getElem?_take, if_pos h]
theorem getC_drop {a : List Cl} (n i : Nat) : getC (a.drop n) i = getC a (n + i) := by
  unfold getC List.getD
  rw [List.getElem?_drop]
theorem fill_congr {l : List Cl} {f g : Nat → Cl} {lo hi : Nat} (h : ∀ i, lo ≤ i → i < hi → f i = g i) : fillL l f lo hi = fillL l g lo hi := by
  refine getC_ext (by rw [fillL_len, fillL_len]) (fun i hi2 => ?_)
  rw [fill_getC, fill_getC]
  split
  · rename_i hh
    exact h i hh.2.1 hh.2.2
  · rfl
theorem aheadL_fill (l : List Cl) (f t M m : Nat) (hft : f ≤ t) (htl : t ≤ l.length) (hm : m = min (t - f) M) : aheadL l f t m = fillL l (fun i => if i + M < t then getC l (i + M) else blankC) f t := by
  have e1 : (l.take f).length = f := by simp; omega
  have e2 : ((l.drop (f + m)).take (t - (f + m))).length = t - (f + m) := by simp; omega
  have e3 : (l.take f ++ (l.drop (f + m)).take (t - (f + m))).length = t - m := by rw [List.length_append, e1, e2]; omega
  have e4 : (l.take f ++ (l.drop (f + m)).take (t - (f + m)) ++ List.replicate m blankC).length = t := by rw [List.length_append, e3, List.length_replicate]; omega
  refine getC_ext ?_ (fun i hi => ?_)
  · rw [fillL_len]
    unfold aheadL
    rw [List.length_append, e4]
    simp
    omega
  · rw [fillL_len] at hi
    rw [fill_getC]
    unfold aheadL
    rw [getC_app, e4]
    by_cases h1 : i < t
    · rw [if_pos h1, getC_app, e3]
      by_cases h2 : i < t - m
      · rw [if_pos h2, getC_app, e1]
        by_cases h3 : i < f
        · rw [if_pos h3, getC_take _ _ h3, if_neg (by omega)]
        · rw [if_neg h3, getC_take _ _ (by omega), getC_drop, if_pos ⟨hi, by omega, h1⟩]
          have hM : M = m := by omega
          subst hM
          rw [if_pos (by omega), show f + M + (i - f) = i + M by omega]
      · rw [if_neg h2, if_pos ⟨hi, by omega, h1⟩, if_neg (by omega)]
        exact getC_rep _ _
    · rw [if_neg h1, getC_drop, if_neg (by omega), show t + (i - t) = i by omega]
theorem backL_fill (l : List Cl) (f t M m : Nat) (hft : f ≤ t) (htl : t ≤ l.length) (hm : m = min (t - f) M) : backL l f t m = fillL l (fun i => if f + M ≤ i then getC l (i - M) else blankC) f t := by
  have e1 : (l.take f).length = f := by simp; omega
  have e2 : (l.take f ++ List.replicate m blankC).length = f + m := by rw [List.length_append, e1, List.length_replicate]
  have e3 : ((l.drop f).take (t - m - f)).length = t - m - f := by simp; omega
  have e4 : (l.take f ++ List.replicate m blankC ++ (l.drop f).take (t - m - f)).length = t := by rw [List.length_append, e2, e3]; omega
  refine getC_ext ?_ (fun i hi => ?_)
  · rw [fillL_len]
    unfold backL
    rw [List.length_append, e4]
    simp
    omega
  · rw [fillL_len] at hi
    rw [fill_getC]
    unfold backL
    rw [getC_app, e4]
    by_cases h1 : i < t
    · rw [if_pos h1, getC_app, e2]
      by_cases h2 : i < f + m
      · rw [if_pos h2, getC_app, e1]
        by_cases h3 : i < f
        · rw [if_pos h3, getC_take _ _ h3, if_neg (by omega)]
        · rw [if_neg h3, if_pos ⟨hi, by omega, h1⟩, if_neg (by omega)]
          exact getC_rep _ _
      · rw [if_neg h2, getC_take _ _ (by omega), getC_drop, if_pos ⟨hi, by omega, h1⟩]
        have hM : M = m := by omega
        subst hM
        rw [if_pos (by omega), show f + (i - (f + M)) = i - M by omega]
    · rw [if_neg h1, getC_drop, if_neg (by omega), show t + (i - t) = i by omega]
theorem ahead_up {l : List Cl} {r c : Nat} (hg : GOk l.length r c) (top bottom M m : Nat) (htb : top ≤ bottom) (hb : bottom < r) (hm : m = min ((bottom + 1) * c - top * c) (M * c)) :
    aheadL l (top * c) ((bottom + 1) * c) m = fillL l (upF l c bottom M) (top * c) ((bottom + 1) * c) := by
  have h1 : top * c ≤ (bottom + 1) * c := Nat.mul_le_mul_right _ (by omega)
  have h2 : (bottom + 1) * c ≤ l.length := by rw [hg.n]; exact Nat.mul_le_mul_right _ hb
  rw [aheadL_fill l _ _ (M * c) m h1 h2 hm]
  refine fill_congr fun i _ _ => ?_
  unfold upF
  have hc := hg.c1
  refine ite_iff ?_ _ _
  have e : i / c + M = (i + M * c) / c := by rw [Nat.add_mul_div_right _ _ (by omega)]
  rw [e, ← Nat.lt_succ_iff, Nat.div_lt_iff_lt_mul (by omega)]
theorem back_down {l : List Cl} {r c : Nat} (hg : GOk l.length r c) (top bottom M m : Nat) (htb : top ≤ bottom) (hb : bottom < r) (hm : m = min ((bottom + 1) * c - top * c) (M * c)) :
    backL l (top * c) ((bottom + 1) * c) m = fillL l (downF l c top M) (top * c) ((bottom + 1) * c) := by
  have h1 : top * c ≤ (bottom + 1) * c := Nat.mul_le_mul_right _ (by omega)
  have h2 : (bottom + 1) * c ≤ l.length := by rw [hg.n]; exact Nat.mul_le_mul_right _ hb
  rw [backL_fill l _ _ (M * c) m h1 h2 hm]
  refine fill_congr fun i _ _ => ?_
  unfold downF
  have hc := hg.c1
  refine ite_iff ?_ _ _
  rw [Nat.le_div_iff_mul_le (by omega), Nat.add_mul]
theorem back_ins (l : List Cl) (f t M m : Nat) (hft : f ≤ t) (htl : t ≤ l.length) (hm : m = min (t - f) M) : backL l f t m = fillL l (insF l f M) f t := backL_fill l f t M m hft htl hm
theorem ahead_del (l : List Cl) (f t M m : Nat) (hft : f ≤ t) (htl : t ≤ l.length) (hm : m = min (t - f) M) : aheadL l f t m = fillL l (delF l t M) f t := aheadL_fill l f t M m hft htl hm
end Go.Proofs.Ytejemcpkmfhenaa
