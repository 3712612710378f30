/- What is proved here: words for slices of bytes in memory over this translation (a slice that reads as a list of bytes; a row of bytes of the call's own), how they are kept, what append makes of them, what they are as a string; words for slices of ints in memory over this translation (a slice that reads as a list of ints; a row of ints of the call's own), how they are kept, what append makes of them; words for slices of runes in memory over this translation (a slice that reads as a list of runes; a row of runes of the call's own), how they are kept, what append makes of them, ; plain facts on UTF-8 as the document tells it: which bytes begin a rune, what a byte comes to behind others, what all come to; each rune's form comes back, bytes may be parted; no program is named; words for a row of bytes of the call's own that is made by make or written at a place: what it reads as behind it; no function of the program is named; contracts of the document's functions on UTF-8 (which runes may be, which bytes begin one, which are one): memory is left alone; a contract of the document's function that tells the rune that bytes are just a form of, behind a beginning: memory is left alone. -/
import Derived.Test.YtbimhhcmfhooaaaRows
import Derived.Test.YtbimhhcmfhooaaaLebPlain
import Derived.WalkKit
import Derived.WalkSpells
import Derived.WalkLawsBesides
import Derived.Below
import Derived.Lib.Hide
import Derived.Maps.AppendAt
import Derived.Deep.AppendLies
import Derived.Deep.Draws
import Derived.OwnWalk
import Derived.Laws.BytesArg
import Derived.OpenShut
import Derived.Lib.SlBytesConst
import Derived.Laws.OwnMore
import Derived.Laws.MakeOwn
import Derived.Deep.OwnRows
import Derived.Laws.BitsLemmas
namespace Go.Proofs.Ytbimhhcmfhooaaa
open Go.RowKit

/-- A byte as a value. -/
def vB (b : UInt8) : Value := .int .u8 (b.toNat : Int)
def vBs (l : List UInt8) : List Value := l.map vB

/-- A row of bytes of the call's own, from block 'base' on. -/
def OB (w : World) (base : Nat) (v : Value) (l : List UInt8) : Prop := w.ownsRow base 5 1 v l.length (vBs l)

/-- A slice that reads as the bytes l; it lies below block B. -/
def BS (w : World) (B : Nat) (v : Value) (l : List UInt8) : Prop :=
  ∃ A c, v = .slice A l.length c ∧ l.length ≤ c ∧ c ≤ maxLen ∧
    (0 < l.length → ∃ ad, A = some ad ∧ ad.block < B ∧ ∀ j b, l[j]? = some b → w.cell? (ad.add j) = some (vB b))

theorem block_add (a : Addr) (n : Nat) : (a.add n).block = a.block := by unfold Addr.add; split <;> rfl
theorem add_add (a : Addr) (i j : Nat) : (a.add i).add j = a.add (i + j) := by
  unfold Addr.add
  by_cases hi : i = 0 <;> by_cases hj : j = 0 <;> simp [hi, hj, Nat.add_assoc]

theorem vBs_one (l : List UInt8) : ∀ u ∈ vBs l, u.oneCell' = true := by
  intro u hu
  unfold vBs at hu
  rw [List.mem_map] at hu
  obtain ⟨b, _, rfl⟩ := hu
  rfl

section
variable {w w' : World} {B B' base : Nat} {v : Value} {l : List UInt8}
theorem BS.keep (h : BS w B v l) (hk : ∀ p : Addr, p.block < B → w'.cell? p = w.cell? p) : BS w' B v l := by
  obtain ⟨A, c, hv, h1, h2, h3⟩ := h
  refine ⟨A, c, hv, h1, h2, fun hl => ?_⟩
  obtain ⟨ad, hA, hb, hc⟩ := h3 hl
  exact ⟨ad, hA, hb, fun j b hj => (hk _ (by rw [block_add]; exact hb)).trans (hc j b hj)⟩
theorem BS.below (h : BS w B v l) (hb : Below B w w') : BS w' B v l := h.keep fun _ hp => hb.cell hp
theorem BS.more (h : BS w B v l) (hB : B ≤ B') : BS w B' v l := by
  obtain ⟨A, c, hv, h1, h2, h3⟩ := h
  refine ⟨A, c, hv, h1, h2, fun hl => ?_⟩
  obtain ⟨ad, hA, hb, hc⟩ := h3 hl
  exact ⟨ad, hA, by omega, hc⟩
theorem BS.alloc (h : BS w B v l) (hB : B ≤ w.heap.size) (o : Obj) : BS (w.alloc o) B v l := h.keep fun p hp => World.cell?_alloc_lt w o p (by omega)
theorem BS.nil (w : World) (B : Nat) : BS w B (.slice none 0 0) [] := ⟨none, 0, rfl, by simp, by simp [maxLen], fun h => absurd h (by simp)⟩
theorem BS.at_ (h : BS w B v l) : ∃ A c, v = .slice A l.length c ∧ l.length ≤ c ∧ c ≤ maxLen ∧
    ∀ k (hk : k < l.length), ∃ ad, A = some ad ∧ w.cell? (ad.add k) = some (vB (l[k]'hk)) := by
  obtain ⟨A, c, hv, h1, h2, h3⟩ := h
  refine ⟨A, c, hv, h1, h2, fun k hk => ?_⟩
  obtain ⟨ad, hA, _, hc⟩ := h3 (by omega)
  exact ⟨ad, hA, hc k _ (List.getElem?_eq_getElem hk)⟩

theorem OB.nil (w : World) (base : Nat) : OB w base (.slice none 0 0) [] := World.ownsRow_nil w base _ _
theorem OB.below (h : OB w base v l) (hb : Below w.heap.size w w') : OB w' base v l := by
  have hg : w.grownBy w' none := ⟨hb.os, hb.tape, hb.output, hb.size, fun i hi _ => hb.block i hi⟩
  unfold OB at h ⊢
  refine h.kept hg ?_
  cases hv : v.ownBlock with
  | none => exact Or.inl rfl
  | some k => exact Or.inr (by simp)
theorem OB.bs (h : OB w base v l) : BS w w.heap.size v l := by
  unfold OB at h
  rcases h.2 with ⟨rfl, hn⟩ | ⟨g, cap, cur, rfl, hbg, hg, hnc, hcm, hcs, htake⟩
  · have : l = [] := List.eq_nil_of_length_eq_zero hn
    subst this
    exact BS.nil w _
  · have hlt : g < w.heap.size := by
      rcases Nat.lt_or_ge g w.heap.size with hh | hh
      · exact hh
      · rw [Array.getElem?_eq_none hh] at hg; cases hg
    refine ⟨_, cap, rfl, hnc, hcm, fun _ => ⟨_, rfl, hlt, fun j b hj => ?_⟩⟩
    refine h.cells (g := g) rfl j (vB b) ?_
    unfold vBs
    rw [List.getElem?_map, hj]; rfl
end

/-- A part of a slice. -/
theorem BS.cut {w : World} {B : Nat} {A : Option Addr} {n c : Nat} {l : List UInt8} (h : BS w B (.slice A n c) l) (k m j : Nat) (hk : k + m ≤ l.length) (hj : j = m) :
    BS w B (.slice (if c = k then A else Option.map (fun x => x.add k) A) j (c - k)) ((l.drop k).take m) := by
  subst hj
  obtain ⟨A', c', hv, h1, h2, h3⟩ := h
  simp only [Value.slice.injEq] at hv
  obtain ⟨rfl, rfl, rfl⟩ := hv
  have hlen : ((l.drop k).take j).length = j := by simp; omega
  refine ⟨_, c - k, by rw [hlen], by rw [hlen]; omega, by omega, fun hl => ?_⟩
  rw [hlen] at hl
  obtain ⟨ad, rfl, hb, hc⟩ := h3 (by omega)
  rw [if_neg (by omega)]
  refine ⟨ad.add k, rfl, by rw [block_add]; exact hb, fun i b hi => ?_⟩
  rw [add_add]
  refine hc _ b ?_
  rw [List.getElem?_take] at hi
  split at hi
  · rw [List.getElem?_drop] at hi; exact hi
  · cases hi
theorem BS.cutH {w : World} {B : Nat} {A : Option Addr} {n c : Nat} {l : List UInt8} (h : BS w B (.slice A n c) l) (m j : Nat) (hk : m ≤ l.length) (hj : j = m) :
    BS w B (.slice A j c) (l.take m) := by
  obtain ⟨A', c', hv, h1, h2, h3⟩ := h
  simp only [Value.slice.injEq] at hv
  obtain ⟨rfl, rfl, rfl⟩ := hv
  subst hj
  have hlen : (l.take j).length = j := by simp; omega
  refine ⟨A, c, by rw [hlen], by omega, h2, fun hl => ?_⟩
  rw [hlen] at hl
  obtain ⟨ad, rfl, hb, hc⟩ := h3 (by omega)
  refine ⟨ad, rfl, hb, fun i b hi => ?_⟩
  refine hc _ b ?_
  rw [List.getElem?_take] at hi
  split at hi
  · exact hi
  · cases hi

/-- A slice of one byte that has just been laid. -/
theorem BS.one (w : World) (b : UInt8) (t : TypeId) : BS (w.alloc (.cells #[vB b] t)) (w.heap.size + 1) (.slice (some ⟨w.heap.size, 0, none⟩) 1 1) [b] := by
  refine ⟨_, 1, rfl, by simp, by simp [maxLen], fun _ => ⟨_, rfl, by simp, fun j c hj => ?_⟩⟩
  match j, hj with
  | 0, hj =>
    simp at hj
    subst hj
    simp [Addr.add]

theorem vB_of (x : Int) (h0 : 0 ≤ x) (h1 : x < 256) : vB (UInt8.ofNat x.toNat) = .int .u8 x := by
  unfold vB
  rw [ofNat_toNat _ (by omega)]
  congr 1
  omega
theorem BS.one' (w : World) (x : Int) (h0 : 0 ≤ x) (h1 : x < 256) (t : TypeId) :
    BS (w.alloc (.cells #[.int .u8 x] t)) (w.heap.size + 1) (.slice (some ⟨w.heap.size, 0, none⟩) 1 1) [UInt8.ofNat x.toNat] := by
  rw [← vB_of x h0 h1]
  exact BS.one w _ t
theorem OB.alloc {w : World} {base : Nat} {v : Value} {l : List UInt8} (h : OB w base v l) (o : Obj) : OB (w.alloc o) base v l := World.ownsRow.alloc h o

/-- A slice that has just been laid, its bytes written out. -/
theorem BS.lit (w : World) (l : List UInt8) (n : Nat) (cs : Array Value) (t : TypeId) (hn : n = l.length) (hcs : cs = (vBs l).toArray) (hm : l.length ≤ 1048576) :
    BS (w.alloc (.cells cs t)) (w.heap.size + 1) (.slice (some ⟨w.heap.size, 0, none⟩) n n) l := by
  subst hn
  subst hcs
  refine ⟨_, _, rfl, by simp, by simp [maxLen]; omega, fun _ => ⟨_, rfl, by simp, fun j b hj => ?_⟩⟩
  have h := World.news_of_block (heap_alloc_new w (.cells (vBs l).toArray t)) j (vB b)
  exact h (by simp [vBs, hj])

/-- The same of a constant string's bytes: the row bears a mark. -/
theorem BS.litM (w : World) (l : List UInt8) (n : Nat) (cs : Array Value) (t : TypeId) (fr : Nat × Nat) (hn : n = l.length) (hcs : cs = (vBs l).toArray) (hm : l.length ≤ 1048576) :
    BS (w.alloc (.cells cs t fr)) (w.heap.size + 1) (.slice (some ⟨w.heap.size, 0, none⟩) n n) l := by
  subst hn
  subst hcs
  refine ⟨_, _, rfl, by simp, by simp [maxLen]; omega, fun _ => ⟨_, rfl, by simp, fun j b hj => ?_⟩⟩
  have h := World.news_of_block (heap_alloc_new w (.cells (vBs l).toArray t fr)) j (vB b)
  exact h (by simp [vBs, hj])

/-- A row of numbers that came in and fit a byte each. -/
theorem bs_row {W : World} {a : Addr} {len cap : Nat} {zs : List Int} (hl : len ≤ cap) (hm : cap ≤ maxLen) (hz : zs.length = cap)
    (hcell : ∀ i, i < zs.length → W.cell? (a.add i) = some (.int .u8 (zs.getD i 0))) (hwz : ∀ n ∈ zs, (Lit.int .u8 n).wf = true) : ∃ l, BS W W.heap.size (.slice (some a) len cap) l := by
  have hlen : ((zs.take len).map fun n => UInt8.ofNat n.toNat).length = len := by simp; omega
  refine ⟨(zs.take len).map fun n => UInt8.ofNat n.toNat, _, cap, by rw [hlen], by rw [hlen]; exact hl, hm, fun h0 => ⟨a, rfl, ?_, fun j b hj => ?_⟩⟩
  · rw [hlen] at h0
    have h := hcell 0 (by omega)
    rw [show a.add 0 = a from by simp [Addr.add]] at h
    rcases Nat.lt_or_ge a.block W.heap.size with hh | hh
    · exact hh
    · simp [World.cell?, Array.getElem?_eq_none hh] at h
  · have hj1 : j < len := by
      rcases Nat.lt_or_ge j len with hh | hh
      · exact hh
      · rw [List.getElem?_eq_none (by rw [hlen]; exact hh)] at hj; cases hj
    have hj2 : j < zs.length := by omega
    rw [hcell j hj2]
    rw [List.getElem?_map, List.getElem?_take, if_pos hj1, List.getElem?_eq_getElem hj2] at hj
    injection hj with hj
    subst hj
    have hw := bounds_u8 (hwz zs[j] (List.getElem_mem hj2))
    rw [vB_of zs[j] (by omega) (by omega)]
    simp [List.getD, List.getElem?_eq_getElem hj2]

theorem byteInfo : (Try.prog.info? 5).map (fun i => (i.zero, i.size, i.bytes)) = some (some (.int .u8 0), 1, 1) := by kernel_rfl

/-- append onto a row of the call's own, of whatever bytes. -/
theorem run_app (w : World) (ty : TypeId) {base B : Nat} {v u : Value} {l m : List UInt8} (hown : OB w base v l) (hr : BS w B u m) (hlen : l.length + m.length ≤ 1099511627776) (hbase : base ≤ w.heap.size) :
    ∃ v' w', (Builtin.append_ #[22, 22] ty #[v, u]).run Try.prog w = .ok v' w' ∧ OB w' base v' (l ++ m) ∧ w.grownBy w' v.ownBlock ∧ Below base w w' ∧ (v'.ownBlock = v.ownBlock ∨ v'.ownBlock = some w.heap.size) := by
  obtain ⟨i0, hi0, hz0, hz1, hz2⟩ := info_parts byteInfo
  have hlt := World.ownsRow.lt hown
  have hfin : ∀ v' w', w'.ownsRow base 5 1 v' (l.length + m.length) (vBs l ++ vBs m) → OB w' base v' (l ++ m) := by
    intro v' w' h
    unfold OB vBs
    rw [List.length_append, List.map_append]
    exact h
  obtain ⟨A, c, rfl, h1, h2, h3⟩ := hr
  rcases Nat.eq_zero_or_pos m.length with h0 | h0
  · have hm : m = [] := List.eq_nil_of_length_eq_zero h0
    subst hm
    refine ⟨v, w, ?_, by simpa using hown, World.grownBy.refl w _, Below.refl _ _, .inl rfl⟩
    rcases hown.2 with ⟨rfl, hn⟩ | ⟨g, cap, cur, rfl, _, _, hnc, _⟩
    · cases A <;> simp [Builtin.append_, run_underlying Try.underlying22, sizeOf, typeInfo, hi0, Builtin.lenOf, Builtin.firstCells, loadCells, loadCellsFrom]
    · cases A <;> simp [Builtin.append_, run_underlying Try.underlying22, sizeOf, typeInfo, hi0, Builtin.lenOf, Builtin.firstCells, hnc, storeCells, loadCells, loadCellsFrom]
  · obtain ⟨ad, rfl, hb, hc⟩ := h3 h0
    obtain ⟨v', w', hrun, h4, h5, _, h6⟩ := run_append_own_at (P := Try.prog) w base 22 ty 5 i0 _ 1 1 Try.underlying22 hi0 hz0 hz1 hz2 rfl (by omega) v l.length (vBs l) hown ad m.length c (vBs m) (by simp [vBs])
      (fun j u hj => by
        unfold vBs at hj
        rw [List.getElem?_map] at hj
        cases hmj : m[j]? with
        | none => rw [hmj] at hj; cases hj
        | some b =>
          rw [hmj] at hj
          simp only [Option.map_some, Option.some.injEq] at hj
          subst hj
          exact hc j b hmj)
      (vBs_one m) (by simp only [maxLen]; omega) (by omega) hbase
    exact ⟨v', w', hrun, hfin v' w' h4, h5, (Below.refl _ _).grown h5 hbase (fun k hk => (hlt k hk).1), h6⟩

/-- The same at the operation, for the walk. -/
theorem wpl_app (w : World) {ops : Array Oper} {rest : List Oper} {o : Oper} {a : Act} {Q : Exit → Act → World → Prop} (hgd : o.guard = none) (s x : Operand)
    (ho : o.op = .call { callee := .builtin .append, args := #[s, x], argTypes := #[22, 22] })
    (base B : Nat) (v u : Value) (l m : List UInt8) (hs : a.eval s = v) (hx : a.eval x = u) (hown : OB w base v l) (hr : BS w B u m) (hlen : l.length + m.length ≤ 1099511627776) (hbase : base ≤ w.heap.size)
    (h : ∀ v' w', OB w' base v' (l ++ m) → w.grownBy w' v.ownBlock → Below base w w' → (v'.ownBlock = v.ownBlock ∨ v'.ownBlock = some w.heap.size) → wpList Try.prog ops Q rest (a.put o.dst v') w') :
    wpList Try.prog ops Q (o :: rest) a w := by
  refine wpList_plain hgd fun K hK => ?_
  obtain ⟨v', w', hrun, h2, h3, h4, h5⟩ := run_app w o.type hown hr hlen hbase
  unfold Oper.wp execOp
  simp only [ho, resolve, invoke, builtin, Sem.run_bind, Sem.run_pure, Result.andThen_ok, List.map_toArray, List.map_cons, List.map_nil, hs, hx, hrun]
  exact hK _ _ (h v' w' h2 h3 h4 h5)

/-- A slice of bytes as a string. -/
def strB (l : List UInt8) : ByteArray := ⟨l.toArray⟩
theorem strB_toList (l : List UInt8) : (strB l).toList = l := by
  rw [ByteArray.toList_eq]
  rfl
theorem run_str {w : World} {B : Nat} {v : Value} {l : List UInt8} (h : BS w B v l) : (convert 22 9 v).run Try.prog w = .ok (.string (strB l)) w := by
  obtain ⟨A, c, rfl, h1, h2, h3⟩ := h
  rcases Nat.eq_zero_or_pos l.length with h0 | h0
  · have hm : l = [] := List.eq_nil_of_length_eq_zero h0
    subst hm
    cases A with
    | none => exact run_convert_bytes_nil w 22 5 Try.underlying22 Try.underlying5 _ _ 9 Try.underlying9
    | some ad =>
      rw [run_convert_bytes_string w 22 9 5 _ _ c Try.underlying22 Try.underlying5 Try.underlying9,
        run_bytesToString w ad [].length c [] (by simp [loadCells, loadCellsFrom])]
      rfl
  · obtain ⟨ad, rfl, _, hc⟩ := h3 h0
    have hl : (loadCells ad l.length).run Try.prog w = .ok ((l.map fun b => (b.toNat : Int)).map (Value.int .u8)).toArray w := by
      have := run_loadCells_list (P := Try.prog) w ad (vBs l) (fun j u hj => by
        unfold vBs at hj
        rw [List.getElem?_map] at hj
        cases hmj : l[j]? with
        | none => rw [hmj] at hj; cases hj
        | some b =>
          rw [hmj] at hj
          simp only [Option.map_some, Option.some.injEq] at hj
          subst hj
          exact hc j b hmj)
      have e : (l.map fun b => (b.toNat : Int)).map (Value.int .u8) = vBs l := by simp [vBs, vB]
      rw [e]
      simpa [vBs] using this
    rw [run_convert_bytes_string w 22 9 5 _ _ c Try.underlying22 Try.underlying5 Try.underlying9, run_bytesToString w ad _ c _ hl, foldl_push_bytes]
    congr 2
    simp [strB, Function.comp_def]
end Go.Proofs.Ytbimhhcmfhooaaa

namespace Go.Proofs.Ytbimhhcmfhooaaa
open Go.RowKit

/-- A byte as a value. -/
def vI (b : Int) : Value := .int .i64 b
def vIs (l : List Int) : List Value := l.map vI

/-- A row of bytes of the call's own, from block 'base' on. -/
def OI (w : World) (base : Nat) (v : Value) (l : List Int) : Prop := w.ownsRow base 3 1 v l.length (vIs l)

/-- A slice that reads as the bytes l; it lies below block B. -/
def IS (w : World) (B : Nat) (v : Value) (l : List Int) : Prop :=
  ∃ A c, v = .slice A l.length c ∧ l.length ≤ c ∧ c ≤ maxLen ∧
    (0 < l.length → ∃ ad, A = some ad ∧ ad.block < B ∧ ∀ j b, l[j]? = some b → w.cell? (ad.add j) = some (vI b))

theorem vIs_one (l : List Int) : ∀ u ∈ vIs l, u.oneCell' = true := by
  intro u hu
  unfold vIs at hu
  rw [List.mem_map] at hu
  obtain ⟨b, _, rfl⟩ := hu
  rfl

section
variable {w w' : World} {B B' base : Nat} {v : Value} {l : List Int}
theorem IS.keep (h : IS w B v l) (hk : ∀ p : Addr, p.block < B → w'.cell? p = w.cell? p) : IS w' B v l := by
  obtain ⟨A, c, hv, h1, h2, h3⟩ := h
  refine ⟨A, c, hv, h1, h2, fun hl => ?_⟩
  obtain ⟨ad, hA, hb, hc⟩ := h3 hl
  exact ⟨ad, hA, hb, fun j b hj => (hk _ (by rw [block_add]; exact hb)).trans (hc j b hj)⟩
theorem IS.below (h : IS w B v l) (hb : Below B w w') : IS w' B v l := h.keep fun _ hp => hb.cell hp
theorem IS.more (h : IS w B v l) (hB : B ≤ B') : IS w B' v l := by
  obtain ⟨A, c, hv, h1, h2, h3⟩ := h
  refine ⟨A, c, hv, h1, h2, fun hl => ?_⟩
  obtain ⟨ad, hA, hb, hc⟩ := h3 hl
  exact ⟨ad, hA, by omega, hc⟩
theorem IS.alloc (h : IS w B v l) (hB : B ≤ w.heap.size) (o : Obj) : IS (w.alloc o) B v l := h.keep fun p hp => World.cell?_alloc_lt w o p (by omega)
theorem IS.nil (w : World) (B : Nat) : IS w B (.slice none 0 0) [] := ⟨none, 0, rfl, by simp, by simp [maxLen], fun h => absurd h (by simp)⟩
theorem IS.at_ (h : IS w B v l) : ∃ A c, v = .slice A l.length c ∧ l.length ≤ c ∧ c ≤ maxLen ∧
    ∀ k (hk : k < l.length), ∃ ad, A = some ad ∧ w.cell? (ad.add k) = some (vI (l[k]'hk)) := by
  obtain ⟨A, c, hv, h1, h2, h3⟩ := h
  refine ⟨A, c, hv, h1, h2, fun k hk => ?_⟩
  obtain ⟨ad, hA, _, hc⟩ := h3 (by omega)
  exact ⟨ad, hA, hc k _ (List.getElem?_eq_getElem hk)⟩

theorem OI.nil (w : World) (base : Nat) : OI w base (.slice none 0 0) [] := World.ownsRow_nil w base _ _
theorem OI.below (h : OI w base v l) (hb : Below w.heap.size w w') : OI w' base v l := by
  have hg : w.grownBy w' none := ⟨hb.os, hb.tape, hb.output, hb.size, fun i hi _ => hb.block i hi⟩
  unfold OI at h ⊢
  refine h.kept hg ?_
  cases hv : v.ownBlock with
  | none => exact Or.inl rfl
  | some k => exact Or.inr (by simp)
theorem OI.bs (h : OI w base v l) : IS w w.heap.size v l := by
  unfold OI at h
  rcases h.2 with ⟨rfl, hn⟩ | ⟨g, cap, cur, rfl, hbg, hg, hnc, hcm, hcs, htake⟩
  · have : l = [] := List.eq_nil_of_length_eq_zero hn
    subst this
    exact IS.nil w _
  · have hlt : g < w.heap.size := by
      rcases Nat.lt_or_ge g w.heap.size with hh | hh
      · exact hh
      · rw [Array.getElem?_eq_none hh] at hg; cases hg
    refine ⟨_, cap, rfl, hnc, hcm, fun _ => ⟨_, rfl, hlt, fun j b hj => ?_⟩⟩
    refine h.cells (g := g) rfl j (vI b) ?_
    unfold vIs
    rw [List.getElem?_map, hj]; rfl
end

/-- A part of a slice. -/
theorem IS.cut {w : World} {B : Nat} {A : Option Addr} {n c : Nat} {l : List Int} (h : IS w B (.slice A n c) l) (k m j : Nat) (hk : k + m ≤ l.length) (hj : j = m) :
    IS w B (.slice (if c = k then A else Option.map (fun x => x.add k) A) j (c - k)) ((l.drop k).take m) := by
  subst hj
  obtain ⟨A', c', hv, h1, h2, h3⟩ := h
  simp only [Value.slice.injEq] at hv
  obtain ⟨rfl, rfl, rfl⟩ := hv
  have hlen : ((l.drop k).take j).length = j := by simp; omega
  refine ⟨_, c - k, by rw [hlen], by rw [hlen]; omega, by omega, fun hl => ?_⟩
  rw [hlen] at hl
  obtain ⟨ad, rfl, hb, hc⟩ := h3 (by omega)
  rw [if_neg (by omega)]
  refine ⟨ad.add k, rfl, by rw [block_add]; exact hb, fun i b hi => ?_⟩
  rw [add_add]
  refine hc _ b ?_
  rw [List.getElem?_take] at hi
  split at hi
  · rw [List.getElem?_drop] at hi; exact hi
  · cases hi
theorem IS.cutH {w : World} {B : Nat} {A : Option Addr} {n c : Nat} {l : List Int} (h : IS w B (.slice A n c) l) (m j : Nat) (hk : m ≤ l.length) (hj : j = m) :
    IS w B (.slice A j c) (l.take m) := by
  obtain ⟨A', c', hv, h1, h2, h3⟩ := h
  simp only [Value.slice.injEq] at hv
  obtain ⟨rfl, rfl, rfl⟩ := hv
  subst hj
  have hlen : (l.take j).length = j := by simp; omega
  refine ⟨A, c, by rw [hlen], by omega, h2, fun hl => ?_⟩
  rw [hlen] at hl
  obtain ⟨ad, rfl, hb, hc⟩ := h3 (by omega)
  refine ⟨ad, rfl, hb, fun i b hi => ?_⟩
  refine hc _ b ?_
  rw [List.getElem?_take] at hi
  split at hi
  · exact hi
  · cases hi

/-- A slice of one byte that has just been laid. -/
theorem IS.one (w : World) (b : Int) (t : TypeId) : IS (w.alloc (.cells #[vI b] t)) (w.heap.size + 1) (.slice (some ⟨w.heap.size, 0, none⟩) 1 1) [b] := by
  refine ⟨_, 1, rfl, by simp, by simp [maxLen], fun _ => ⟨_, rfl, by simp, fun j c hj => ?_⟩⟩
  match j, hj with
  | 0, hj =>
    simp at hj
    subst hj
    simp [Addr.add]

theorem OI.alloc {w : World} {base : Nat} {v : Value} {l : List Int} (h : OI w base v l) (o : Obj) : OI (w.alloc o) base v l := World.ownsRow.alloc h o

/-- A slice that has just been laid, its bytes written out. -/
theorem IS.lit (w : World) (l : List Int) (n : Nat) (cs : Array Value) (t : TypeId) (hn : n = l.length) (hcs : cs = (vIs l).toArray) (hm : l.length ≤ 1048576) :
    IS (w.alloc (.cells cs t)) (w.heap.size + 1) (.slice (some ⟨w.heap.size, 0, none⟩) n n) l := by
  subst hn
  subst hcs
  refine ⟨_, _, rfl, by simp, by simp [maxLen]; omega, fun _ => ⟨_, rfl, by simp, fun j b hj => ?_⟩⟩
  have h := World.news_of_block (heap_alloc_new w (.cells (vIs l).toArray t)) j (vI b)
  exact h (by simp [vIs, hj])

/-- The same of a constant string's bytes: the row bears a mark. -/
theorem IS.litM (w : World) (l : List Int) (n : Nat) (cs : Array Value) (t : TypeId) (fr : Nat × Nat) (hn : n = l.length) (hcs : cs = (vIs l).toArray) (hm : l.length ≤ 1048576) :
    IS (w.alloc (.cells cs t fr)) (w.heap.size + 1) (.slice (some ⟨w.heap.size, 0, none⟩) n n) l := by
  subst hn
  subst hcs
  refine ⟨_, _, rfl, by simp, by simp [maxLen]; omega, fun _ => ⟨_, rfl, by simp, fun j b hj => ?_⟩⟩
  have h := World.news_of_block (heap_alloc_new w (.cells (vIs l).toArray t fr)) j (vI b)
  exact h (by simp [vIs, hj])

/-- A row of ints that came in. -/
theorem is_row {W : World} {a : Addr} {len cap : Nat} {zs : List Int} (hl : len ≤ cap) (hm : cap ≤ maxLen) (hz : zs.length = cap)
    (hcell : ∀ i, i < zs.length → W.cell? (a.add i) = some (.int .i64 (zs.getD i 0))) (hwz : ∀ n ∈ zs, (Lit.int .i64 n).wf = true) : ∃ l, IS W W.heap.size (.slice (some a) len cap) l ∧ ∀ n ∈ l, (Lit.int .i64 n).wf = true := by
  have hlen : (zs.take len).length = len := by simp; omega
  refine ⟨zs.take len, ⟨_, cap, by rw [hlen], by rw [hlen]; exact hl, hm, fun h0 => ⟨a, rfl, ?_, fun j b hj => ?_⟩⟩, fun n hn => hwz n (List.mem_of_mem_take hn)⟩
  · rw [hlen] at h0
    have h := hcell 0 (by omega)
    rw [show a.add 0 = a from by simp [Addr.add]] at h
    rcases Nat.lt_or_ge a.block W.heap.size with hh | hh
    · exact hh
    · simp [World.cell?, Array.getElem?_eq_none hh] at h
  · have hj1 : j < len := by
      rcases Nat.lt_or_ge j len with hh | hh
      · exact hh
      · rw [List.getElem?_eq_none (by rw [hlen]; exact hh)] at hj; cases hj
    have hj2 : j < zs.length := by omega
    rw [hcell j hj2]
    rw [List.getElem?_take, if_pos hj1, List.getElem?_eq_getElem hj2] at hj
    injection hj with hj
    subst hj
    simp [vI, List.getD, List.getElem?_eq_getElem hj2]

theorem intInfo : (Try.prog.info? 3).map (fun i => (i.zero, i.size, i.bytes)) = some (some (.int .i64 0), 1, 8) := by kernel_rfl

/-- append onto a row of the call's own, of whatever bytes. -/
theorem run_appI (w : World) (ty : TypeId) {base B : Nat} {v u : Value} {l m : List Int} (hown : OI w base v l) (hr : IS w B u m) (hlen : l.length + m.length ≤ 1099511627776) (hbase : base ≤ w.heap.size) :
    ∃ v' w', (Builtin.append_ #[23, 23] ty #[v, u]).run Try.prog w = .ok v' w' ∧ OI w' base v' (l ++ m) ∧ w.grownBy w' v.ownBlock ∧ Below base w w' ∧ (v'.ownBlock = v.ownBlock ∨ v'.ownBlock = some w.heap.size) := by
  obtain ⟨i0, hi0, hz0, hz1, hz2⟩ := info_parts intInfo
  have hlt := World.ownsRow.lt hown
  have hfin : ∀ v' w', w'.ownsRow base 3 1 v' (l.length + m.length) (vIs l ++ vIs m) → OI w' base v' (l ++ m) := by
    intro v' w' h
    unfold OI vIs
    rw [List.length_append, List.map_append]
    exact h
  obtain ⟨A, c, rfl, h1, h2, h3⟩ := hr
  rcases Nat.eq_zero_or_pos m.length with h0 | h0
  · have hm : m = [] := List.eq_nil_of_length_eq_zero h0
    subst hm
    refine ⟨v, w, ?_, by simpa using hown, World.grownBy.refl w _, Below.refl _ _, .inl rfl⟩
    rcases hown.2 with ⟨rfl, hn⟩ | ⟨g, cap, cur, rfl, _, _, hnc, _⟩
    · cases A <;> simp [Builtin.append_, run_underlying Try.underlying23, sizeOf, typeInfo, hi0, Builtin.lenOf, Builtin.firstCells, loadCells, loadCellsFrom]
    · cases A <;> simp [Builtin.append_, run_underlying Try.underlying23, sizeOf, typeInfo, hi0, Builtin.lenOf, Builtin.firstCells, hnc, storeCells, loadCells, loadCellsFrom]
  · obtain ⟨ad, rfl, hb, hc⟩ := h3 h0
    obtain ⟨v', w', hrun, h4, h5, _, h6⟩ := run_append_own_at (P := Try.prog) w base 23 ty 3 i0 _ 1 8 Try.underlying23 hi0 hz0 hz1 hz2 rfl (by omega) v l.length (vIs l) hown ad m.length c (vIs m) (by simp [vIs])
      (fun j u hj => by
        unfold vIs at hj
        rw [List.getElem?_map] at hj
        cases hmj : m[j]? with
        | none => rw [hmj] at hj; cases hj
        | some b =>
          rw [hmj] at hj
          simp only [Option.map_some, Option.some.injEq] at hj
          subst hj
          exact hc j b hmj)
      (vIs_one m) (by simp only [maxLen]; omega) (by omega) hbase
    exact ⟨v', w', hrun, hfin v' w' h4, h5, (Below.refl _ _).grown h5 hbase (fun k hk => (hlt k hk).1), h6⟩

/-- The same at the operation, for the walk. -/
theorem wpl_appI (w : World) {ops : Array Oper} {rest : List Oper} {o : Oper} {a : Act} {Q : Exit → Act → World → Prop} (hgd : o.guard = none) (s x : Operand)
    (ho : o.op = .call { callee := .builtin .append, args := #[s, x], argTypes := #[23, 23] })
    (base B : Nat) (v u : Value) (l m : List Int) (hs : a.eval s = v) (hx : a.eval x = u) (hown : OI w base v l) (hr : IS w B u m) (hlen : l.length + m.length ≤ 1099511627776) (hbase : base ≤ w.heap.size)
    (h : ∀ v' w', OI w' base v' (l ++ m) → w.grownBy w' v.ownBlock → Below base w w' → (v'.ownBlock = v.ownBlock ∨ v'.ownBlock = some w.heap.size) → wpList Try.prog ops Q rest (a.put o.dst v') w') :
    wpList Try.prog ops Q (o :: rest) a w := by
  refine wpList_plain hgd fun K hK => ?_
  obtain ⟨v', w', hrun, h2, h3, h4, h5⟩ := run_appI w o.type hown hr hlen hbase
  unfold Oper.wp execOp
  simp only [ho, resolve, invoke, builtin, Sem.run_bind, Sem.run_pure, Result.andThen_ok, List.map_toArray, List.map_cons, List.map_nil, hs, hx, hrun]
  exact hK _ _ (h v' w' h2 h3 h4 h5)

end Go.Proofs.Ytbimhhcmfhooaaa

namespace Go.Proofs.Ytbimhhcmfhooaaa
open Go.RowKit

/-- A byte as a value. -/
def vR (b : Int) : Value := .int .i32 b
def vRs (l : List Int) : List Value := l.map vR

/-- A row of bytes of the call's own, from block 'base' on. -/
def OR (w : World) (base : Nat) (v : Value) (l : List Int) : Prop := w.ownsRow base 21 1 v l.length (vRs l)

/-- A slice that reads as the bytes l; it lies below block B. -/
def RS (w : World) (B : Nat) (v : Value) (l : List Int) : Prop :=
  ∃ A c, v = .slice A l.length c ∧ l.length ≤ c ∧ c ≤ maxLen ∧
    (0 < l.length → ∃ ad, A = some ad ∧ ad.block < B ∧ ∀ j b, l[j]? = some b → w.cell? (ad.add j) = some (vR b))

theorem vRs_one (l : List Int) : ∀ u ∈ vRs l, u.oneCell' = true := by
  intro u hu
  unfold vRs at hu
  rw [List.mem_map] at hu
  obtain ⟨b, _, rfl⟩ := hu
  rfl

section
variable {w w' : World} {B B' base : Nat} {v : Value} {l : List Int}
theorem RS.keep (h : RS w B v l) (hk : ∀ p : Addr, p.block < B → w'.cell? p = w.cell? p) : RS w' B v l := by
  obtain ⟨A, c, hv, h1, h2, h3⟩ := h
  refine ⟨A, c, hv, h1, h2, fun hl => ?_⟩
  obtain ⟨ad, hA, hb, hc⟩ := h3 hl
  exact ⟨ad, hA, hb, fun j b hj => (hk _ (by rw [block_add]; exact hb)).trans (hc j b hj)⟩
theorem RS.below (h : RS w B v l) (hb : Below B w w') : RS w' B v l := h.keep fun _ hp => hb.cell hp
theorem RS.more (h : RS w B v l) (hB : B ≤ B') : RS w B' v l := by
  obtain ⟨A, c, hv, h1, h2, h3⟩ := h
  refine ⟨A, c, hv, h1, h2, fun hl => ?_⟩
  obtain ⟨ad, hA, hb, hc⟩ := h3 hl
  exact ⟨ad, hA, by omega, hc⟩
theorem RS.alloc (h : RS w B v l) (hB : B ≤ w.heap.size) (o : Obj) : RS (w.alloc o) B v l := h.keep fun p hp => World.cell?_alloc_lt w o p (by omega)
theorem RS.nil (w : World) (B : Nat) : RS w B (.slice none 0 0) [] := ⟨none, 0, rfl, by simp, by simp [maxLen], fun h => absurd h (by simp)⟩
theorem RS.at_ (h : RS w B v l) : ∃ A c, v = .slice A l.length c ∧ l.length ≤ c ∧ c ≤ maxLen ∧
    ∀ k (hk : k < l.length), ∃ ad, A = some ad ∧ w.cell? (ad.add k) = some (vR (l[k]'hk)) := by
  obtain ⟨A, c, hv, h1, h2, h3⟩ := h
  refine ⟨A, c, hv, h1, h2, fun k hk => ?_⟩
  obtain ⟨ad, hA, _, hc⟩ := h3 (by omega)
  exact ⟨ad, hA, hc k _ (List.getElem?_eq_getElem hk)⟩

theorem OR.nil (w : World) (base : Nat) : OR w base (.slice none 0 0) [] := World.ownsRow_nil w base _ _
theorem OR.below (h : OR w base v l) (hb : Below w.heap.size w w') : OR w' base v l := by
  have hg : w.grownBy w' none := ⟨hb.os, hb.tape, hb.output, hb.size, fun i hi _ => hb.block i hi⟩
  unfold OR at h ⊢
  refine h.kept hg ?_
  cases hv : v.ownBlock with
  | none => exact Or.inl rfl
  | some k => exact Or.inr (by simp)
theorem OR.bs (h : OR w base v l) : RS w w.heap.size v l := by
  unfold OR at h
  rcases h.2 with ⟨rfl, hn⟩ | ⟨g, cap, cur, rfl, hbg, hg, hnc, hcm, hcs, htake⟩
  · have : l = [] := List.eq_nil_of_length_eq_zero hn
    subst this
    exact RS.nil w _
  · have hlt : g < w.heap.size := by
      rcases Nat.lt_or_ge g w.heap.size with hh | hh
      · exact hh
      · rw [Array.getElem?_eq_none hh] at hg; cases hg
    refine ⟨_, cap, rfl, hnc, hcm, fun _ => ⟨_, rfl, hlt, fun j b hj => ?_⟩⟩
    refine h.cells (g := g) rfl j (vR b) ?_
    unfold vRs
    rw [List.getElem?_map, hj]; rfl
end

/-- A part of a slice. -/
theorem RS.cut {w : World} {B : Nat} {A : Option Addr} {n c : Nat} {l : List Int} (h : RS w B (.slice A n c) l) (k m j : Nat) (hk : k + m ≤ l.length) (hj : j = m) :
    RS w B (.slice (if c = k then A else Option.map (fun x => x.add k) A) j (c - k)) ((l.drop k).take m) := by
  subst hj
  obtain ⟨A', c', hv, h1, h2, h3⟩ := h
  simp only [Value.slice.injEq] at hv
  obtain ⟨rfl, rfl, rfl⟩ := hv
  have hlen : ((l.drop k).take j).length = j := by simp; omega
  refine ⟨_, c - k, by rw [hlen], by rw [hlen]; omega, by omega, fun hl => ?_⟩
  rw [hlen] at hl
  obtain ⟨ad, rfl, hb, hc⟩ := h3 (by omega)
  rw [if_neg (by omega)]
  refine ⟨ad.add k, rfl, by rw [block_add]; exact hb, fun i b hi => ?_⟩
  rw [add_add]
  refine hc _ b ?_
  rw [List.getElem?_take] at hi
  split at hi
  · rw [List.getElem?_drop] at hi; exact hi
  · cases hi
theorem RS.cutH {w : World} {B : Nat} {A : Option Addr} {n c : Nat} {l : List Int} (h : RS w B (.slice A n c) l) (m j : Nat) (hk : m ≤ l.length) (hj : j = m) :
    RS w B (.slice A j c) (l.take m) := by
  obtain ⟨A', c', hv, h1, h2, h3⟩ := h
  simp only [Value.slice.injEq] at hv
  obtain ⟨rfl, rfl, rfl⟩ := hv
  subst hj
  have hlen : (l.take j).length = j := by simp; omega
  refine ⟨A, c, by rw [hlen], by omega, h2, fun hl => ?_⟩
  rw [hlen] at hl
  obtain ⟨ad, rfl, hb, hc⟩ := h3 (by omega)
  refine ⟨ad, rfl, hb, fun i b hi => ?_⟩
  refine hc _ b ?_
  rw [List.getElem?_take] at hi
  split at hi
  · exact hi
  · cases hi

/-- A slice of one byte that has just been laid. -/
theorem RS.one (w : World) (b : Int) (t : TypeId) : RS (w.alloc (.cells #[vR b] t)) (w.heap.size + 1) (.slice (some ⟨w.heap.size, 0, none⟩) 1 1) [b] := by
  refine ⟨_, 1, rfl, by simp, by simp [maxLen], fun _ => ⟨_, rfl, by simp, fun j c hj => ?_⟩⟩
  match j, hj with
  | 0, hj =>
    simp at hj
    subst hj
    simp [Addr.add]

theorem OR.alloc {w : World} {base : Nat} {v : Value} {l : List Int} (h : OR w base v l) (o : Obj) : OR (w.alloc o) base v l := World.ownsRow.alloc h o

/-- A slice that has just been laid, its bytes written out. -/
theorem RS.lit (w : World) (l : List Int) (n : Nat) (cs : Array Value) (t : TypeId) (hn : n = l.length) (hcs : cs = (vRs l).toArray) (hm : l.length ≤ 1048576) :
    RS (w.alloc (.cells cs t)) (w.heap.size + 1) (.slice (some ⟨w.heap.size, 0, none⟩) n n) l := by
  subst hn
  subst hcs
  refine ⟨_, _, rfl, by simp, by simp [maxLen]; omega, fun _ => ⟨_, rfl, by simp, fun j b hj => ?_⟩⟩
  have h := World.news_of_block (heap_alloc_new w (.cells (vRs l).toArray t)) j (vR b)
  exact h (by simp [vRs, hj])

/-- The same of a constant string's bytes: the row bears a mark. -/
theorem RS.litM (w : World) (l : List Int) (n : Nat) (cs : Array Value) (t : TypeId) (fr : Nat × Nat) (hn : n = l.length) (hcs : cs = (vRs l).toArray) (hm : l.length ≤ 1048576) :
    RS (w.alloc (.cells cs t fr)) (w.heap.size + 1) (.slice (some ⟨w.heap.size, 0, none⟩) n n) l := by
  subst hn
  subst hcs
  refine ⟨_, _, rfl, by simp, by simp [maxLen]; omega, fun _ => ⟨_, rfl, by simp, fun j b hj => ?_⟩⟩
  have h := World.news_of_block (heap_alloc_new w (.cells (vRs l).toArray t fr)) j (vR b)
  exact h (by simp [vRs, hj])

/-- A row of runes that came in. -/
theorem rs_row {W : World} {a : Addr} {len cap : Nat} {zs : List Int} (hl : len ≤ cap) (hm : cap ≤ maxLen) (hz : zs.length = cap)
    (hcell : ∀ i, i < zs.length → W.cell? (a.add i) = some (.int .i32 (zs.getD i 0))) (hwz : ∀ n ∈ zs, (Lit.int .i32 n).wf = true) : ∃ l, RS W W.heap.size (.slice (some a) len cap) l ∧ ∀ n ∈ l, (Lit.int .i32 n).wf = true := by
  have hlen : (zs.take len).length = len := by simp; omega
  refine ⟨zs.take len, ⟨_, cap, by rw [hlen], by rw [hlen]; exact hl, hm, fun h0 => ⟨a, rfl, ?_, fun j b hj => ?_⟩⟩, fun n hn => hwz n (List.mem_of_mem_take hn)⟩
  · rw [hlen] at h0
    have h := hcell 0 (by omega)
    rw [show a.add 0 = a from by simp [Addr.add]] at h
    rcases Nat.lt_or_ge a.block W.heap.size with hh | hh
    · exact hh
    · simp [World.cell?, Array.getElem?_eq_none hh] at h
  · have hj1 : j < len := by
      rcases Nat.lt_or_ge j len with hh | hh
      · exact hh
      · rw [List.getElem?_eq_none (by rw [hlen]; exact hh)] at hj; cases hj
    have hj2 : j < zs.length := by omega
    rw [hcell j hj2]
    rw [List.getElem?_take, if_pos hj1, List.getElem?_eq_getElem hj2] at hj
    injection hj with hj
    subst hj
    simp [vR, List.getD, List.getElem?_eq_getElem hj2]

theorem runeInfo : (Try.prog.info? 21).map (fun i => (i.zero, i.size, i.bytes)) = some (some (.int .i32 0), 1, 4) := by kernel_rfl

/-- append onto a row of the call's own, of whatever bytes. -/
theorem run_appR (w : World) (ty : TypeId) {base B : Nat} {v u : Value} {l m : List Int} (hown : OR w base v l) (hr : RS w B u m) (hlen : l.length + m.length ≤ 1099511627776) (hbase : base ≤ w.heap.size) :
    ∃ v' w', (Builtin.append_ #[54, 54] ty #[v, u]).run Try.prog w = .ok v' w' ∧ OR w' base v' (l ++ m) ∧ w.grownBy w' v.ownBlock ∧ Below base w w' ∧ (v'.ownBlock = v.ownBlock ∨ v'.ownBlock = some w.heap.size) := by
  obtain ⟨i0, hi0, hz0, hz1, hz2⟩ := info_parts runeInfo
  have hlt := World.ownsRow.lt hown
  have hfin : ∀ v' w', w'.ownsRow base 21 1 v' (l.length + m.length) (vRs l ++ vRs m) → OR w' base v' (l ++ m) := by
    intro v' w' h
    unfold OR vRs
    rw [List.length_append, List.map_append]
    exact h
  obtain ⟨A, c, rfl, h1, h2, h3⟩ := hr
  rcases Nat.eq_zero_or_pos m.length with h0 | h0
  · have hm : m = [] := List.eq_nil_of_length_eq_zero h0
    subst hm
    refine ⟨v, w, ?_, by simpa using hown, World.grownBy.refl w _, Below.refl _ _, .inl rfl⟩
    rcases hown.2 with ⟨rfl, hn⟩ | ⟨g, cap, cur, rfl, _, _, hnc, _⟩
    · cases A <;> simp [Builtin.append_, run_underlying Try.underlying54, sizeOf, typeInfo, hi0, Builtin.lenOf, Builtin.firstCells, loadCells, loadCellsFrom]
    · cases A <;> simp [Builtin.append_, run_underlying Try.underlying54, sizeOf, typeInfo, hi0, Builtin.lenOf, Builtin.firstCells, hnc, storeCells, loadCells, loadCellsFrom]
  · obtain ⟨ad, rfl, hb, hc⟩ := h3 h0
    obtain ⟨v', w', hrun, h4, h5, _, h6⟩ := run_append_own_at (P := Try.prog) w base 54 ty 21 i0 _ 1 4 Try.underlying54 hi0 hz0 hz1 hz2 rfl (by omega) v l.length (vRs l) hown ad m.length c (vRs m) (by simp [vRs])
      (fun j u hj => by
        unfold vRs at hj
        rw [List.getElem?_map] at hj
        cases hmj : m[j]? with
        | none => rw [hmj] at hj; cases hj
        | some b =>
          rw [hmj] at hj
          simp only [Option.map_some, Option.some.injEq] at hj
          subst hj
          exact hc j b hmj)
      (vRs_one m) (by simp only [maxLen]; omega) (by omega) hbase
    exact ⟨v', w', hrun, hfin v' w' h4, h5, (Below.refl _ _).grown h5 hbase (fun k hk => (hlt k hk).1), h6⟩

/-- The same at the operation, for the walk. -/
theorem wpl_appR (w : World) {ops : Array Oper} {rest : List Oper} {o : Oper} {a : Act} {Q : Exit → Act → World → Prop} (hgd : o.guard = none) (s x : Operand)
    (ho : o.op = .call { callee := .builtin .append, args := #[s, x], argTypes := #[54, 54] })
    (base B : Nat) (v u : Value) (l m : List Int) (hs : a.eval s = v) (hx : a.eval x = u) (hown : OR w base v l) (hr : RS w B u m) (hlen : l.length + m.length ≤ 1099511627776) (hbase : base ≤ w.heap.size)
    (h : ∀ v' w', OR w' base v' (l ++ m) → w.grownBy w' v.ownBlock → Below base w w' → (v'.ownBlock = v.ownBlock ∨ v'.ownBlock = some w.heap.size) → wpList Try.prog ops Q rest (a.put o.dst v') w') :
    wpList Try.prog ops Q (o :: rest) a w := by
  refine wpList_plain hgd fun K hK => ?_
  obtain ⟨v', w', hrun, h2, h3, h4, h5⟩ := run_appR w o.type hown hr hlen hbase
  unfold Oper.wp execOp
  simp only [ho, resolve, invoke, builtin, Sem.run_bind, Sem.run_pure, Result.andThen_ok, List.map_toArray, List.map_cons, List.map_nil, hs, hx, hrun]
  exact hK _ _ (h v' w' h2 h3 h4 h5)

end Go.Proofs.Ytbimhhcmfhooaaa

namespace Go.Proofs.Ytbimhhcmfhooaaa

/-- May a rune be? -/
def mayR (r : Int) : Bool := decide (0 ≤ r) && decide (r ≤ 1114111) && (decide (r < 55296) || decide (57343 < r))
/-- A byte that goes on. -/
def contB (b : UInt8) : Bool := decide (128 ≤ b.toNat) && decide (b.toNat < 192)
def loB (a : Nat) : Nat := if a = 224 then 160 else if a = 240 then 144 else 128
def hiB (a : Nat) : Nat := if a = 237 then 159 else if a = 244 then 143 else 191
theorem hiB_le (a : Nat) : hiB a ≤ 191 := by
  unfold hiB
  split
  · omega
  · split <;> omega
/-- Does b go on a rune that a begins, as its second byte? -/
def secB (a b : UInt8) : Bool := decide (loB a.toNat ≤ b.toNat) && decide (b.toNat ≤ hiB a.toNat)
theorem secB_iff (a b : UInt8) : secB a b = true ↔ loB a.toNat ≤ b.toNat ∧ b.toNat ≤ hiB a.toNat := by simp [secB]
def beginsL : List UInt8 → Bool
  | [a] => decide (194 ≤ a.toNat) && decide (a.toNat ≤ 244)
  | [a, b] => decide (224 ≤ a.toNat) && decide (a.toNat ≤ 244) && secB a b
  | [a, b, c] => decide (240 ≤ a.toNat) && decide (a.toNat ≤ 244) && secB a b && contB c
  | _ => false
/-- The rune that bytes are just a valid form of. -/
def wholeL : List UInt8 → Option Nat
  | [a] => if a.toNat < 128 then some a.toNat else none
  | [a, b] => if (decide (194 ≤ a.toNat) && decide (a.toNat < 224) && contB b) = true then some ((a.toNat - 192) * 64 + (b.toNat - 128)) else none
  | [a, b, c] => if (decide (224 ≤ a.toNat) && decide (a.toNat < 240) && secB a b && contB c) = true then some ((a.toNat - 224) * 4096 + (b.toNat - 128) * 64 + (c.toNat - 128)) else none
  | [a, b, c, d] => if (decide (240 ≤ a.toNat) && decide (a.toNat ≤ 244) && secB a b && contB c && contB d) = true then some ((a.toNat - 240) * 262144 + (b.toNat - 128) * 4096 + (c.toNat - 128) * 64 + (d.toNat - 128)) else none
  | _ => none
/-- A byte with nothing pending. -/
def firstL (b : UInt8) (out : List Nat) : List UInt8 × List Nat :=
  if b.toNat < 128 then ([], out ++ [b.toNat]) else if beginsL [b] then ([b], out) else ([], out ++ [65533])
def stepL (p : List UInt8) (b : UInt8) : List UInt8 × List Nat :=
  if beginsL p = true then
    match wholeL (p ++ [b]) with
    | some r => ([], [r])
    | none => if beginsL (p ++ [b]) then (p ++ [b], []) else firstL b [65533]
  else firstL b []
def allF (s : List UInt8 × List Nat) (l : List UInt8) : List UInt8 × List Nat := l.foldl (fun s b => ((stepL s.1 b).1, s.2 ++ (stepL s.1 b).2)) s
def allL (l : List UInt8) : List UInt8 × List Nat := allF ([], []) l
/-- A rune's form, of one that may be. -/
def formN (r : Nat) : List UInt8 :=
  if r < 128 then [UInt8.ofNat r]
  else if r < 2048 then [UInt8.ofNat (192 + r / 64), UInt8.ofNat (128 + r % 64)]
  else if r < 65536 then [UInt8.ofNat (224 + r / 4096), UInt8.ofNat (128 + r / 64 % 64), UInt8.ofNat (128 + r % 64)]
  else [UInt8.ofNat (240 + r / 262144), UInt8.ofNat (128 + r / 4096 % 64), UInt8.ofNat (128 + r / 64 % 64), UInt8.ofNat (128 + r % 64)]
/-- What a rune is put as. -/
def asR (r : Int) : Nat := if mayR r then r.toNat else 65533
def formL (r : Int) : List UInt8 := formN (asR r)

theorem allF_nil (s : List UInt8 × List Nat) : allF s [] = s := rfl
theorem allF_cons (s : List UInt8 × List Nat) (b : UInt8) (l : List UInt8) : allF s (b :: l) = allF ((stepL s.1 b).1, s.2 ++ (stepL s.1 b).2) l := rfl
theorem allF_step {p q : List UInt8} {t : List Nat} {b : UInt8} (h : stepL p b = (q, t)) (o : List Nat) (l : List UInt8) : allF (p, o) (b :: l) = allF (q, o ++ t) l := by rw [allF_cons]; simp only [h]
theorem allF_append (s : List UInt8 × List Nat) (a b : List UInt8) : allF s (a ++ b) = allF (allF s a) b := List.foldl_append
theorem allF_snoc (s : List UInt8 × List Nat) (l : List UInt8) (b : UInt8) : allF s (l ++ [b]) = ((stepL (allF s l).1 b).1, (allF s l).2 ++ (stepL (allF s l).1 b).2) := by rw [allF_append]; rfl
theorem allF_out (p : List UInt8) (o : List Nat) (l : List UInt8) : allF (p, o) l = ((allF (p, []) l).1, o ++ (allF (p, []) l).2) := by
  induction l generalizing p o with
  | nil => simp [allF_nil]
  | cons b l ih =>
    rw [allF_cons, allF_cons, ih, ih (stepL p b).1 ([] ++ (stepL p b).2)]
    simp

theorem beginsL_len (p : List UInt8) (h : beginsL p = true) : 1 ≤ p.length ∧ p.length ≤ 3 := by
  match p, h with
  | [a], _ => simp
  | [a, b], _ => simp
  | [a, b, c], _ => simp
theorem firstL_pend (b : UInt8) (o : List Nat) : (firstL b o).1 = [] ∨ beginsL (firstL b o).1 = true := by
  unfold firstL
  split
  · exact .inl rfl
  · split
    · exact .inr (by assumption)
    · exact .inl rfl
/-- What is pending is nothing, or it begins. -/
theorem stepL_pend (p : List UInt8) (b : UInt8) : (stepL p b).1 = [] ∨ beginsL (stepL p b).1 = true := by
  unfold stepL
  split
  · split
    · exact .inl rfl
    · split
      · exact .inr (by assumption)
      · exact firstL_pend _ _
  · exact firstL_pend _ _
theorem allF_pend (p : List UInt8) (o : List Nat) (l : List UInt8) (h : p = [] ∨ beginsL p = true) : (allF (p, o) l).1 = [] ∨ beginsL (allF (p, o) l).1 = true := by
  induction l generalizing p o with
  | nil => exact h
  | cons b l ih => rw [allF_cons]; exact ih _ _ (stepL_pend p b)
theorem firstL_len (b : UInt8) (o : List Nat) : (firstL b o).1.length ≤ 1 ∧ (firstL b o).2.length ≤ o.length + 1 := by
  unfold firstL
  split
  · simp
  · split <;> simp
theorem stepL_len (p : List UInt8) (b : UInt8) : (stepL p b).1.length ≤ 3 ∧ (stepL p b).2.length ≤ 2 := by
  unfold stepL
  split
  · split
    · simp
    · split
      · rename_i h
        have := beginsL_len _ h
        exact ⟨this.2, by simp⟩
      · have := firstL_len b [65533]
        simp at this
        omega
  · have := firstL_len b []
    simp at this
    omega
theorem allF_len (p : List UInt8) (o : List Nat) (l : List UInt8) (h : p.length ≤ 3) : (allF (p, o) l).1.length ≤ 3 ∧ (allF (p, o) l).2.length ≤ o.length + 2 * l.length := by
  induction l generalizing p o with
  | nil => simp [allF_nil]; exact h
  | cons b l ih =>
    rw [allF_cons]
    have h1 := stepL_len p b
    have h2 := ih (stepL p b).1 (o ++ (stepL p b).2) h1.1
    simp at h2 ⊢
    omega

theorem firstL_lt (b : UInt8) (o : List Nat) (ho : ∀ r ∈ o, r < 1114112) : ∀ r ∈ (firstL b o).2, r < 1114112 := by
  have := b.toNat_lt
  unfold firstL
  split
  · intro r hr
    rw [List.mem_append, List.mem_singleton] at hr
    rcases hr with hr | hr
    · exact ho r hr
    · omega
  · split
    · exact ho
    · intro r hr
      rw [List.mem_append, List.mem_singleton] at hr
      rcases hr with hr | hr
      · exact ho r hr
      · omega
theorem wholeL_lt (l : List UInt8) (r : Nat) (h : wholeL l = some r) : r < 1114112 := by
  match l, h with
  | [a], h =>
    have := a.toNat_lt
    simp only [wholeL] at h
    split at h <;> simp at h
    omega
  | [a, b], h =>
    have := a.toNat_lt
    have := b.toNat_lt
    simp only [wholeL] at h
    split at h <;> simp at h
    omega
  | [a, b, c], h =>
    have := a.toNat_lt
    have := b.toNat_lt
    have := c.toNat_lt
    simp only [wholeL] at h
    split at h
    · rename_i hc
      simp [contB] at hc
      simp at h
      omega
    · simp at h
  | [a, b, c, d], h =>
    have := b.toNat_lt
    have := c.toNat_lt
    have := d.toNat_lt
    simp only [wholeL] at h
    split at h
    · rename_i hc
      simp only [Bool.and_eq_true, secB_iff, decide_eq_true_eq, contB] at hc
      simp at h
      have := hiB_le a.toNat
      by_cases h4 : a.toNat = 244
      · have h5 : hiB a.toNat = 143 := by rw [h4]; rfl
        omega
      · omega
    · simp at h
theorem stepL_lt (p : List UInt8) (b : UInt8) : ∀ r ∈ (stepL p b).2, r < 1114112 := by
  unfold stepL
  split
  · split
    · rename_i r h
      intro q hq
      simp at hq
      subst hq
      exact wholeL_lt _ _ h
    · split
      · simp
      · exact firstL_lt b _ (by simp)
  · exact firstL_lt b _ (by simp)
theorem allF_lt (p : List UInt8) (o : List Nat) (l : List UInt8) (ho : ∀ r ∈ o, r < 1114112) : ∀ r ∈ (allF (p, o) l).2, r < 1114112 := by
  induction l generalizing p o with
  | nil => exact ho
  | cons b l ih =>
    rw [allF_cons]
    refine ih _ _ fun r hr => ?_
    rcases List.mem_append.1 hr with h | h
    · exact ho r h
    · exact stepL_lt p b r h

theorem step_new (b : UInt8) (h : b.toNat < 128) : stepL [] b = ([], [b.toNat]) := by
  simp [stepL, beginsL, firstL, h]
theorem step_lead (b : UInt8) (h : beginsL [b] = true) : stepL [] b = ([b], []) := by
  have h2 : ¬ b.toNat < 128 := by simp [beginsL] at h; omega
  simp only [stepL, firstL, h2, h]
  simp [beginsL]
theorem step_whole (p : List UInt8) (b : UInt8) (r : Nat) (hp : beginsL p = true) (h : wholeL (p ++ [b]) = some r) : stepL p b = ([], [r]) := by
  simp [stepL, hp, h]
theorem step_more (p : List UInt8) (b : UInt8) (q : List UInt8) (hq : p ++ [b] = q) (hp : beginsL p = true) (h : wholeL (p ++ [b]) = none) (h2 : beginsL (p ++ [b]) = true) : stepL p b = (q, []) := by
  subst hq
  simp [stepL, hp, h, h2]

theorem asR_ok (r : Int) : asR r < 1114112 ∧ (asR r < 55296 ∨ 57343 < asR r) := by
  unfold asR mayR
  split
  · rename_i h
    simp at h
    omega
  · omega
/-- Each rune's form comes back. -/
theorem formN_back (r : Nat) (h1 : r < 1114112) (h2 : r < 55296 ∨ 57343 < r) (o : List Nat) : allF ([], o) (formN r) = ([], o ++ [r]) := by
  rw [allF_out]
  unfold formN
  split
  · rename_i h
    have e : (UInt8.ofNat r).toNat = r := ofNat_toNat _ (by omega)
    rw [allF_step (step_new _ (by rw [e]; exact h)), allF_nil, e]
    rfl
  split
  · rename_i h0 h
    have ea : (UInt8.ofNat (192 + r / 64)).toNat = 192 + r / 64 := ofNat_toNat _ (by omega)
    have eb : (UInt8.ofNat (128 + r % 64)).toNat = 128 + r % 64 := ofNat_toNat _ (by omega)
    generalize UInt8.ofNat (192 + r / 64) = a at *
    generalize UInt8.ofNat (128 + r % 64) = b at *
    have p1 : beginsL [a] = true := by simp [beginsL]; omega
    have q1 : wholeL ([a] ++ [b]) = some r := by
      show wholeL [a, b] = some r
      simp only [wholeL]
      rw [if_pos (by simp [contB]; omega)]
      exact congrArg some (by omega)
    rw [allF_step (step_lead _ p1), allF_step (step_whole _ _ r p1 q1)]
    rfl
  split
  · rename_i h0 h00 h
    have ea : (UInt8.ofNat (224 + r / 4096)).toNat = 224 + r / 4096 := ofNat_toNat _ (by omega)
    have eb : (UInt8.ofNat (128 + r / 64 % 64)).toNat = 128 + r / 64 % 64 := ofNat_toNat _ (by omega)
    have ec : (UInt8.ofNat (128 + r % 64)).toNat = 128 + r % 64 := ofNat_toNat _ (by omega)
    generalize UInt8.ofNat (224 + r / 4096) = a at *
    generalize UInt8.ofNat (128 + r / 64 % 64) = b at *
    generalize UInt8.ofNat (128 + r % 64) = c at *
    have hsec : secB a b = true := by
      rw [secB_iff]
      unfold loB hiB
      refine ⟨?_, ?_⟩
      · split
        · omega
        · split <;> omega
      · split
        · omega
        · split <;> omega
    have p1 : beginsL [a] = true := by simp [beginsL]; omega
    have n1 : wholeL ([a] ++ [b]) = none := by
      show wholeL [a, b] = none
      simp only [wholeL]
      rw [if_neg (by simp; omega)]
    have p2 : beginsL ([a] ++ [b]) = true := by
      show beginsL [a, b] = true
      simp [beginsL, hsec]
      omega
    have q1 : wholeL ([a, b] ++ [c]) = some r := by
      show wholeL [a, b, c] = some r
      simp only [wholeL]
      rw [if_pos (by simp [contB, hsec]; omega)]
      exact congrArg some (by omega)
    rw [allF_step (step_lead _ p1), allF_step (step_more _ _ [a, b] rfl p1 n1 p2), allF_step (step_whole [a, b] c r p2 q1)]
    rfl
  · rename_i h0 h00 h
    have ea : (UInt8.ofNat (240 + r / 262144)).toNat = 240 + r / 262144 := ofNat_toNat _ (by omega)
    have eb : (UInt8.ofNat (128 + r / 4096 % 64)).toNat = 128 + r / 4096 % 64 := ofNat_toNat _ (by omega)
    have ec : (UInt8.ofNat (128 + r / 64 % 64)).toNat = 128 + r / 64 % 64 := ofNat_toNat _ (by omega)
    have ed : (UInt8.ofNat (128 + r % 64)).toNat = 128 + r % 64 := ofNat_toNat _ (by omega)
    generalize UInt8.ofNat (240 + r / 262144) = a at *
    generalize UInt8.ofNat (128 + r / 4096 % 64) = b at *
    generalize UInt8.ofNat (128 + r / 64 % 64) = c at *
    generalize UInt8.ofNat (128 + r % 64) = d at *
    have hsec : secB a b = true := by
      rw [secB_iff]
      unfold loB hiB
      refine ⟨?_, ?_⟩
      · split
        · omega
        · split <;> omega
      · split
        · omega
        · split <;> omega
    have hc : contB c = true := by simp [contB]; omega
    have p1 : beginsL [a] = true := by simp [beginsL]; omega
    have n1 : wholeL ([a] ++ [b]) = none := by
      show wholeL [a, b] = none
      simp only [wholeL]
      rw [if_neg (by simp; omega)]
    have p2 : beginsL ([a] ++ [b]) = true := by
      show beginsL [a, b] = true
      simp [beginsL, hsec]
      omega
    have n2 : wholeL ([a, b] ++ [c]) = none := by
      show wholeL [a, b, c] = none
      simp only [wholeL]
      rw [if_neg (by simp; omega)]
    have p3 : beginsL ([a, b] ++ [c]) = true := by
      show beginsL [a, b, c] = true
      simp [beginsL, hsec, hc]
      omega
    have q1 : wholeL ([a, b, c] ++ [d]) = some r := by
      show wholeL [a, b, c, d] = some r
      simp only [wholeL]
      rw [if_pos (by simp [contB, hsec]; omega)]
      exact congrArg some (by omega)
    rw [allF_step (step_lead _ p1), allF_step (step_more _ _ [a, b] rfl p1 n1 p2), allF_step (step_more [a, b] c [a, b, c] rfl p2 n2 p3), allF_step (step_whole [a, b, c] d r p3 q1)]
    rfl
/-- Runes that are put one behind another come back. -/
theorem forms_back (m : List Int) (o : List Nat) : allF ([], o) (m.flatMap formL) = ([], o ++ m.map asR) := by
  induction m generalizing o with
  | nil => simp [allF_nil]
  | cons r m ih =>
    rw [List.flatMap_cons, allF_append]
    have h := asR_ok r
    show allF (allF ([], o) (formN (asR r))) _ = _
    rw [formN_back _ h.1 h.2, ih]
    simp
theorem formN_len (r : Nat) : 1 ≤ (formN r).length ∧ (formN r).length ≤ 4 := by
  unfold formN
  split
  · simp
  split
  · simp
  split <;> simp
end Go.Proofs.Ytbimhhcmfhooaaa

namespace Go.Proofs.Ytbimhhcmfhooaaa
open Go.RowKit

theorem BS.cellC {w : World} {B n c : Nat} {A : Option Addr} {l : List UInt8} (h : BS w B (.slice A n c) l) (k : Nat) (hk : k < l.length) : ∃ ad, A = some ad ∧ w.cell? (ad.add k) = some (vB l[k]) := by
  obtain ⟨A', c', hv, _, _, h3⟩ := h.at_
  simp only [Value.slice.injEq] at hv
  obtain ⟨rfl, _, _⟩ := hv
  exact h3 k hk
theorem BS.blockC {w : World} {B n c : Nat} {ad : Addr} {l : List UInt8} (h : BS w B (.slice (some ad) n c) l) (hl : 0 < l.length) : ad.block < B := by
  obtain ⟨A', c', hv, _, _, h3⟩ := h
  simp only [Value.slice.injEq] at hv
  obtain ⟨hA, _, _⟩ := hv
  obtain ⟨ad', hA', hb, _⟩ := h3 hl
  rw [hA'] at hA
  injection hA with hA
  rw [hA]
  exact hb
section
variable {w : World} {base g n cap : Nat} {l : List UInt8}
theorem OB.len (h : OB w base (.slice (some ⟨g, 0, none⟩) n cap) l) : n = l.length := by
  unfold OB at h
  rcases h.2 with ⟨hv, _⟩ | ⟨g', cap', cur, hv, _⟩
  · cases hv
  · simp only [Value.slice.injEq] at hv
    exact hv.2.1
theorem OB.cellAt (h : OB w base (.slice (some ⟨g, 0, none⟩) l.length cap) l) (j : Nat) (hj : j < l.length) : w.cell? ⟨g, j, none⟩ = some (vB l[j]) := by
  unfold OB at h
  rw [World.ownsRow.cellAt h j (by omega)]
  simp [vBs, hj]
theorem OB.frozenAt (h : OB w base (.slice (some ⟨g, 0, none⟩) l.length cap) l) (j : Nat) : w.frozen? ⟨g, j, none⟩ = false := World.ownsRow.frozenAt h j
theorem OB.stored (h : OB w base (.slice (some ⟨g, 0, none⟩) l.length cap) l) (j : Nat) (x : UInt8) : OB (w.setCell ⟨g, j, none⟩ (vB x)) base (.slice (some ⟨g, 0, none⟩) l.length cap) (l.set j x) := by
  have := (World.ownsRow.stored h j (vB x)).1
  unfold OB
  rw [List.length_set]
  have e : vBs (l.set j x) = (vBs l).set j (vB x) := by simp [vBs, List.map_set]
  rw [e]
  exact this
theorem OB.block (h : OB w base (.slice (some ⟨g, 0, none⟩) n cap) l) : base ≤ g ∧ g < w.heap.size := World.ownsRow.lt h g rfl
end

theorem madeZ (n : Nat) : madeCells #[.int .u8 0] n = (vBs (List.replicate n 0)).toArray := by
  apply Array.ext_getElem?
  intro i
  simp only [madeCells, vBs, List.map_replicate, List.getElem?_toArray, Array.getElem?_map]
  by_cases h : i < n
  · simp [h, vB, Nat.mod_one]
  · simp [h]
theorem OB.made (w : World) (n : Nat) (hm : n ≤ 1048576) : OB (w.alloc (.cells (madeCells #[.int .u8 0] n) 5)) w.heap.size (.slice (some ⟨w.heap.size, 0, none⟩) n n) (List.replicate n 0) := by
  have := World.ownsRow_lit (base := w.heap.size) (e := 5) (size := 1) w (madeCells #[.int .u8 0] n) n (Nat.le_refl _) (by simp [maxLen]; omega) (by rw [size_madeCells]; omega)
  unfold OB
  rw [List.length_replicate]
  rw [madeZ] at this ⊢
  exact this
theorem run_makeB (n : Nat) (hn : n ≤ 1048576) (w : World) :
    (Instr.makeSlice 22 (.int .i64 (n : Int)) (.int .i64 (n : Int))).run Try.prog w = .ok (.slice (some ⟨w.heap.size, 0, none⟩) n n) (w.alloc (.cells (madeCells #[.int .u8 0] n) 5)) :=
  run_make_row' 22 5 (.int .u8 0) 1 Try.underlying22 byteInfo rfl .i64 .i64 n (by omega) (by omega) w
end Go.Proofs.Ytbimhhcmfhooaaa

namespace Go.Proofs.Ytbimhhcmfhooaaa
open Go.RowKit
set_option linter.unusedVariables false

theorem ret_bool {a b : Bool} (h : a = b) : Ending.returned (.bool a) = .returned (.bool b) := by rw [h]
theorem mayR_true {r : Int} (h0 : 0 ≤ r) (h1 : r ≤ 1114111) (h2 : r < 55296 ∨ 57343 < r) : mayR r = true := by simp [mayR, h0, h1, h2]
theorem mayR_false {r : Int} (h : r < 0 ∨ 1114111 < r ∨ (55296 ≤ r ∧ r ≤ 57343)) : mayR r = false := by
  rw [Bool.eq_false_iff]
  intro hh
  simp [mayR] at hh
  omega
theorem mayr_any (r : Int) (h0 : -2147483648 ≤ r) (h1 : r ≤ 2147483647) (w : World) : Calls Try.prog 54 #[.int .i32 r] w fun e w' => e = .returned (.bool (mayR r)) ∧ w = w' := by
  by_cases a1 : 0 ≤ r
  · by_cases a2 : r ≤ 1114111
    · by_cases a3 : r < 55296
      · rw [mayR_true a1 a2 (.inl a3)]
        go_enter Try.func54, Try.ntmps54
        go_wp2
        go_ret
        exact ⟨rfl, rfl⟩
      · have d3 : decide (r < 55296) = false := by simp; omega
        by_cases a4 : 57343 < r
        · rw [mayR_true a1 a2 (.inr a4)]
          go_enter Try.func54, Try.ntmps54
          go_wp2
          go_ret
          exact ⟨rfl, rfl⟩
        · have d4 : decide (57343 < r) = false := by simp; omega
          rw [mayR_false (.inr (.inr ⟨by omega, by omega⟩))]
          go_enter Try.func54, Try.ntmps54
          go_wp2
          go_ret
          exact ⟨rfl, rfl⟩
    · have d2 : decide (r ≤ 1114111) = false := by simp; omega
      rw [mayR_false (.inr (.inl (by omega)))]
      go_enter Try.func54, Try.ntmps54
      go_wp2
      go_ret
      exact ⟨rfl, rfl⟩
  · have d1 : decide (0 ≤ r) = false := by simp; omega
    rw [mayR_false (.inl (by omega))]
    go_enter Try.func54, Try.ntmps54
    go_wp2
    go_ret
    exact ⟨rfl, rfl⟩

theorem and192 : ∀ a : Nat, a < 256 → a &&& 192 = a / 64 * 64 := by decide +kernel
theorem and192_int (b : UInt8) : bits .and .u8 (b.toNat : Int) 192 = ((b.toNat / 64 * 64 : Nat) : Int) := by
  have := u8_and_nat b.toNat 192 b.toNat_lt (by omega)
  rw [and192 _ b.toNat_lt] at this
  exact this
theorem contB_yes (b : UInt8) (h : contB b = true) : ((bits .and .u8 (b.toNat : Int) 192) != 128) = false := by
  rw [and192_int]
  simp [contB] at h
  have : b.toNat / 64 * 64 = 128 := by omega
  rw [this]
  rfl
theorem contB_no (b : UInt8) (h : contB b = false) : ((bits .and .u8 (b.toNat : Int) 192) != 128) = true := by
  rw [and192_int]
  have h2 : ¬ (b.toNat / 64 * 64 = 128) := by
    intro e
    rw [Bool.eq_false_iff] at h
    apply h
    simp [contB]
    omega
  simp
  omega
theorem BS.lits {w : World} {B : Nat} {v : Value} {a : UInt8} {l : List UInt8} (h : BS w B v (a :: l)) : ∃ ad c, v = .slice (some ad) (a :: l).length c ∧ (a :: l).length ≤ c ∧ c ≤ maxLen ∧ w.cell? ad = some (.int .u8 (a.toNat : Int)) ∧ ∀ j b, l[j]? = some b → w.cell? ⟨ad.block, ad.off + (j + 1), none⟩ = some (.int .u8 (b.toNat : Int)) := by
  obtain ⟨A, c, rfl, h1, h2, h3⟩ := h
  obtain ⟨ad, rfl, _, hc⟩ := h3 (by simp)
  refine ⟨ad, c, rfl, h1, h2, ?_, fun j b hj => ?_⟩
  · have := hc 0 a rfl
    rw [show ad.add 0 = ad from by simp [Addr.add]] at this
    exact this
  · have := hc (j + 1) b (by simpa using hj)
    rw [show ad.add (j + 1) = ⟨ad.block, ad.off + (j + 1), none⟩ from by simp [Addr.add]] at this
    exact this

theorem lo_other (x : Nat) (h1 : x ≠ 224) (h2 : x ≠ 240) : loB x = 128 := by unfold loB; rw [if_neg h1, if_neg h2]
theorem hi_other (x : Nat) (h1 : x ≠ 237) (h2 : x ≠ 244) : hiB x = 191 := by unfold hiB; rw [if_neg h1, if_neg h2]
theorem beg1_iff (a : UInt8) : beginsL [a] = true ↔ 194 ≤ a.toNat ∧ a.toNat ≤ 244 := by simp [beginsL]
theorem beg2_iff (a b : UInt8) : beginsL [a, b] = true ↔ 224 ≤ a.toNat ∧ a.toNat ≤ 244 ∧ loB a.toNat ≤ b.toNat ∧ b.toNat ≤ hiB a.toNat := by simp [beginsL, secB, and_assoc]
theorem beg3_iff (a b c : UInt8) : beginsL [a, b, c] = true ↔ 240 ≤ a.toNat ∧ a.toNat ≤ 244 ∧ loB a.toNat ≤ b.toNat ∧ b.toNat ≤ hiB a.toNat ∧ contB c = true := by simp [beginsL, secB, and_assoc]
theorem lo_ge (x : Nat) : 128 ≤ loB x := by
  unfold loB
  split
  · omega
  · split <;> omega
theorem contB_iff (b : UInt8) : contB b = true ↔ 128 ≤ b.toNat ∧ b.toNat < 192 := by simp [contB]

/-- The last test, at the bounds that the switch has set. -/
theorem fin2 {a b : UInt8} {x L H : Nat} (ha : a.toNat = x) (h0 : 224 ≤ x) (h1 : x ≤ 244) (hL : loB x = L) (hH : hiB x = H) (hb : L ≤ b.toNat) : decide ((b.toNat : Int) ≤ (H : Int)) = beginsL [a, b] := by
  rw [Bool.eq_iff_iff, beg2_iff, ha, hL, hH, decide_eq_true_eq]
  omega
theorem fin2n {a b : UInt8} {x L : Nat} (ha : a.toNat = x) (hL : loB x = L) (hb : b.toNat < L) : false = beginsL [a, b] := by
  rw [Bool.eq_iff_iff, beg2_iff, ha, hL]
  simp
  omega
theorem fin3 {a b c : UInt8} {x L H : Nat} (ha : a.toNat = x) (h0 : 240 ≤ x) (h1 : x ≤ 244) (hL : loB x = L) (hH : hiB x = H) (hc : contB c = true) (hb : L ≤ b.toNat) : decide ((b.toNat : Int) ≤ (H : Int)) = beginsL [a, b, c] := by
  rw [Bool.eq_iff_iff, beg3_iff, ha, hL, hH, decide_eq_true_eq]
  simp only [hc, and_true]
  omega
theorem fin3n {a b c : UInt8} {x L : Nat} (ha : a.toNat = x) (hL : loB x = L) (hb : b.toNat < L) : false = beginsL [a, b, c] := by
  rw [Bool.eq_iff_iff, beg3_iff, ha, hL]
  simp
  omega

theorem nocont2 {a b : UInt8} (h : contB b = false) : false = beginsL [a, b] := by
  cases hh : beginsL [a, b]
  · rfl
  · rw [beg2_iff] at hh
    have h1 := lo_ge a.toNat
    have h2 := hiB_le a.toNat
    rw [(contB_iff b).2 (by omega)] at h
    cases h
theorem nocont3 {a b c : UInt8} (h : contB b = false) : false = beginsL [a, b, c] := by
  cases hh : beginsL [a, b, c]
  · rfl
  · rw [beg3_iff] at hh
    have h1 := lo_ge a.toNat
    have h2 := hiB_le a.toNat
    rw [(contB_iff b).2 (by omega)] at h
    cases h
theorem nocont3c {a b c : UInt8} (h : contB c = false) : false = beginsL [a, b, c] := by
  cases hh : beginsL [a, b, c]
  · rfl
  · rw [beg3_iff, h] at hh
    simp at hh

def BegPost (l : List UInt8) (w : World) (e : Ending) (w' : World) : Prop := e = .returned (.bool (beginsL l)) ∧ w = w'
theorem begPost_of {l : List UInt8} {w : World} {b : Bool} (h : b = beginsL l) : BegPost l w (.returned (.bool b)) w := ⟨by rw [h], rfl⟩

/-- The rounds that have gone by. -/
def Beg2 (b : UInt8) (i : Value) : Prop := ∃ k : Nat, i = .int .i64 (k : Int) ∧ (k = 1 ∨ (k = 2 ∧ contB b = true))
def Beg3 (b c : UInt8) (i : Value) : Prop := ∃ k : Nat, i = .int .i64 (k : Int) ∧ (k = 1 ∨ (k = 2 ∧ contB b = true) ∨ (k = 3 ∧ contB b = true ∧ contB c = true))

set_option maxHeartbeats 1000000 in
set_option maxRecDepth 100000 in
theorem begr2_224 (ad : Addr) (cp : Nat) (a b : UInt8) (x : Nat) (w : World) (ca : w.cell? ad = some (.int .u8 (x : Int))) (cb : w.cell? ⟨ad.block, ad.off + 1, none⟩ = some (.int .u8 (b.toNat : Int))) (HX : Hid (a.toNat = x)) (hx : x = 224) :
    Calls Try.prog 21 #[.slice (some ad) 2 cp] w (BegPost [a, b] w) := by
  subst hx
  have HL : Hid (loB 224 = 160) := rfl
  have HH : Hid (hiB 224 = 191) := rfl
  have y1 := b.toNat_lt
  go_enter Try.func21, Try.ntmps21
  go_wp2
  go_loop [4] (fun i => Beg2 b i) (fun i => 2 - (intOf i).toNat)
  case atStart => exact ⟨1, rfl, .inl rfl⟩
  case round =>
    obtain ⟨k, rfl, hk⟩ := hrel
    rcases hk with rfl | ⟨rfl, hcb⟩
    · cases hcb : contB b
      · have e1 := contB_no b hcb
        have HC := Lib.hid hcb
        clear hcb
        go_wp2
        go_ret
        exact begPost_of (nocont2 HC.out)
      · have e1 := contB_yes b hcb
        have HC := Lib.hid hcb
        clear hcb
        go_wp2
        go_round
        case rel => exact ⟨2, rfl, .inr ⟨rfl, HC.out⟩⟩
        case measure => simp [intOf]
    · have HC := Lib.hid hcb
      clear hcb
      by_cases hb : 160 ≤ b.toNat
      · have hb' : (160 : Int) ≤ (b.toNat : Int) := by omega
        go_wp2
        go_ret
        exact begPost_of (fin2 HX.out (by omega) (by omega) HL.out HH.out hb)
      · have hb' : decide ((160 : Int) ≤ (b.toNat : Int)) = false := by simp; omega
        go_wp2
        go_ret
        exact begPost_of (fin2n HX.out HL.out (by omega))
set_option maxHeartbeats 1000000 in
set_option maxRecDepth 100000 in
theorem begr2_237 (ad : Addr) (cp : Nat) (a b : UInt8) (x : Nat) (w : World) (ca : w.cell? ad = some (.int .u8 (x : Int))) (cb : w.cell? ⟨ad.block, ad.off + 1, none⟩ = some (.int .u8 (b.toNat : Int))) (HX : Hid (a.toNat = x)) (hx : x = 237) :
    Calls Try.prog 21 #[.slice (some ad) 2 cp] w (BegPost [a, b] w) := by
  subst hx
  have HL : Hid (loB 237 = 128) := rfl
  have HH : Hid (hiB 237 = 159) := rfl
  have y1 := b.toNat_lt
  go_enter Try.func21, Try.ntmps21
  go_wp2
  go_loop [4] (fun i => Beg2 b i) (fun i => 2 - (intOf i).toNat)
  case atStart => exact ⟨1, rfl, .inl rfl⟩
  case round =>
    obtain ⟨k, rfl, hk⟩ := hrel
    rcases hk with rfl | ⟨rfl, hcb⟩
    · cases hcb : contB b
      · have e1 := contB_no b hcb
        have HC := Lib.hid hcb
        clear hcb
        go_wp2
        go_ret
        exact begPost_of (nocont2 HC.out)
      · have e1 := contB_yes b hcb
        have HC := Lib.hid hcb
        clear hcb
        go_wp2
        go_round
        case rel => exact ⟨2, rfl, .inr ⟨rfl, HC.out⟩⟩
        case measure => simp [intOf]
    · have HC := Lib.hid hcb
      clear hcb
      by_cases hb : 128 ≤ b.toNat
      · have hb' : (128 : Int) ≤ (b.toNat : Int) := by omega
        go_wp2
        go_ret
        exact begPost_of (fin2 HX.out (by omega) (by omega) HL.out HH.out hb)
      · have hb' : decide ((128 : Int) ≤ (b.toNat : Int)) = false := by simp; omega
        go_wp2
        go_ret
        exact begPost_of (fin2n HX.out HL.out (by omega))
set_option maxHeartbeats 1000000 in
set_option maxRecDepth 100000 in
theorem begr2_240 (ad : Addr) (cp : Nat) (a b : UInt8) (x : Nat) (w : World) (ca : w.cell? ad = some (.int .u8 (x : Int))) (cb : w.cell? ⟨ad.block, ad.off + 1, none⟩ = some (.int .u8 (b.toNat : Int))) (HX : Hid (a.toNat = x)) (hx : x = 240) :
    Calls Try.prog 21 #[.slice (some ad) 2 cp] w (BegPost [a, b] w) := by
  subst hx
  have HL : Hid (loB 240 = 144) := rfl
  have HH : Hid (hiB 240 = 191) := rfl
  have y1 := b.toNat_lt
  go_enter Try.func21, Try.ntmps21
  go_wp2
  go_loop [4] (fun i => Beg2 b i) (fun i => 2 - (intOf i).toNat)
  case atStart => exact ⟨1, rfl, .inl rfl⟩
  case round =>
    obtain ⟨k, rfl, hk⟩ := hrel
    rcases hk with rfl | ⟨rfl, hcb⟩
    · cases hcb : contB b
      · have e1 := contB_no b hcb
        have HC := Lib.hid hcb
        clear hcb
        go_wp2
        go_ret
        exact begPost_of (nocont2 HC.out)
      · have e1 := contB_yes b hcb
        have HC := Lib.hid hcb
        clear hcb
        go_wp2
        go_round
        case rel => exact ⟨2, rfl, .inr ⟨rfl, HC.out⟩⟩
        case measure => simp [intOf]
    · have HC := Lib.hid hcb
      clear hcb
      by_cases hb : 144 ≤ b.toNat
      · have hb' : (144 : Int) ≤ (b.toNat : Int) := by omega
        go_wp2
        go_ret
        exact begPost_of (fin2 HX.out (by omega) (by omega) HL.out HH.out hb)
      · have hb' : decide ((144 : Int) ≤ (b.toNat : Int)) = false := by simp; omega
        go_wp2
        go_ret
        exact begPost_of (fin2n HX.out HL.out (by omega))
set_option maxHeartbeats 1000000 in
set_option maxRecDepth 100000 in
theorem begr2_244 (ad : Addr) (cp : Nat) (a b : UInt8) (x : Nat) (w : World) (ca : w.cell? ad = some (.int .u8 (x : Int))) (cb : w.cell? ⟨ad.block, ad.off + 1, none⟩ = some (.int .u8 (b.toNat : Int))) (HX : Hid (a.toNat = x)) (hx : x = 244) :
    Calls Try.prog 21 #[.slice (some ad) 2 cp] w (BegPost [a, b] w) := by
  subst hx
  have HL : Hid (loB 244 = 128) := rfl
  have HH : Hid (hiB 244 = 143) := rfl
  have y1 := b.toNat_lt
  go_enter Try.func21, Try.ntmps21
  go_wp2
  go_loop [4] (fun i => Beg2 b i) (fun i => 2 - (intOf i).toNat)
  case atStart => exact ⟨1, rfl, .inl rfl⟩
  case round =>
    obtain ⟨k, rfl, hk⟩ := hrel
    rcases hk with rfl | ⟨rfl, hcb⟩
    · cases hcb : contB b
      · have e1 := contB_no b hcb
        have HC := Lib.hid hcb
        clear hcb
        go_wp2
        go_ret
        exact begPost_of (nocont2 HC.out)
      · have e1 := contB_yes b hcb
        have HC := Lib.hid hcb
        clear hcb
        go_wp2
        go_round
        case rel => exact ⟨2, rfl, .inr ⟨rfl, HC.out⟩⟩
        case measure => simp [intOf]
    · have HC := Lib.hid hcb
      clear hcb
      by_cases hb : 128 ≤ b.toNat
      · have hb' : (128 : Int) ≤ (b.toNat : Int) := by omega
        go_wp2
        go_ret
        exact begPost_of (fin2 HX.out (by omega) (by omega) HL.out HH.out hb)
      · have hb' : decide ((128 : Int) ≤ (b.toNat : Int)) = false := by simp; omega
        go_wp2
        go_ret
        exact begPost_of (fin2n HX.out HL.out (by omega))
set_option maxHeartbeats 1000000 in
set_option maxRecDepth 100000 in
theorem begr2_o3 (ad : Addr) (cp : Nat) (a b : UInt8) (x : Nat) (w : World) (ca : w.cell? ad = some (.int .u8 (x : Int))) (cb : w.cell? ⟨ad.block, ad.off + 1, none⟩ = some (.int .u8 (b.toNat : Int))) (HX : Hid (a.toNat = x)) (hx0 : 224 < x) (hx1 : x < 240) (hx2 : x ≠ 237) :
    Calls Try.prog 21 #[.slice (some ad) 2 cp] w (BegPost [a, b] w) := by
  have HL : Hid (loB x = 128) := lo_other x (by omega) (by omega)
  have HH : Hid (hiB x = 191) := hi_other x (by omega) (by omega)
  have d3 : decide ((x : Int) < 194) = false := by simp; omega
  have d4 : decide (244 < (x : Int)) = false := by simp; omega
  have r1 : 224 ≤ (x : Int) := by omega
  have r2 : decide (240 ≤ (x : Int)) = false := by simp; omega
  have e224 : ((x : Int) == 224) = false := beq_eq_false_iff_ne.2 (by omega)
  have e237 : ((x : Int) == 237) = false := beq_eq_false_iff_ne.2 (by omega)
  have e240 : ((x : Int) == 240) = false := beq_eq_false_iff_ne.2 (by omega)
  have e244 : ((x : Int) == 244) = false := beq_eq_false_iff_ne.2 (by omega)
  clear hx2
  have y1 := b.toNat_lt
  go_enter Try.func21, Try.ntmps21
  go_wp2
  go_loop [4] (fun i => Beg2 b i) (fun i => 2 - (intOf i).toNat)
  case atStart => exact ⟨1, rfl, .inl rfl⟩
  case round =>
    obtain ⟨k, rfl, hk⟩ := hrel
    rcases hk with rfl | ⟨rfl, hcb⟩
    · cases hcb : contB b
      · have e1 := contB_no b hcb
        have HC := Lib.hid hcb
        clear hcb
        go_wp2
        go_ret
        exact begPost_of (nocont2 HC.out)
      · have e1 := contB_yes b hcb
        have HC := Lib.hid hcb
        clear hcb
        go_wp2
        go_round
        case rel => exact ⟨2, rfl, .inr ⟨rfl, HC.out⟩⟩
        case measure => simp [intOf]
    · have HC := Lib.hid hcb
      clear hcb
      by_cases hb : 128 ≤ b.toNat
      · have hb' : (128 : Int) ≤ (b.toNat : Int) := by omega
        go_wp2
        go_ret
        exact begPost_of (fin2 HX.out (by omega) (by omega) HL.out HH.out hb)
      · have hb' : decide ((128 : Int) ≤ (b.toNat : Int)) = false := by simp; omega
        go_wp2
        go_ret
        exact begPost_of (fin2n HX.out HL.out (by omega))
set_option maxHeartbeats 1000000 in
set_option maxRecDepth 100000 in
theorem begr2_o4 (ad : Addr) (cp : Nat) (a b : UInt8) (x : Nat) (w : World) (ca : w.cell? ad = some (.int .u8 (x : Int))) (cb : w.cell? ⟨ad.block, ad.off + 1, none⟩ = some (.int .u8 (b.toNat : Int))) (HX : Hid (a.toNat = x)) (hx0 : 240 < x) (hx1 : x < 244) :
    Calls Try.prog 21 #[.slice (some ad) 2 cp] w (BegPost [a, b] w) := by
  have HL : Hid (loB x = 128) := lo_other x (by omega) (by omega)
  have HH : Hid (hiB x = 191) := hi_other x (by omega) (by omega)
  have d3 : decide ((x : Int) < 194) = false := by simp; omega
  have d4 : decide (244 < (x : Int)) = false := by simp; omega
  have r1 : 224 ≤ (x : Int) := by omega
  have r2 : 240 ≤ (x : Int) := by omega
  have e224 : ((x : Int) == 224) = false := beq_eq_false_iff_ne.2 (by omega)
  have e237 : ((x : Int) == 237) = false := beq_eq_false_iff_ne.2 (by omega)
  have e240 : ((x : Int) == 240) = false := beq_eq_false_iff_ne.2 (by omega)
  have e244 : ((x : Int) == 244) = false := beq_eq_false_iff_ne.2 (by omega)
  have y1 := b.toNat_lt
  go_enter Try.func21, Try.ntmps21
  go_wp2
  go_loop [4] (fun i => Beg2 b i) (fun i => 2 - (intOf i).toNat)
  case atStart => exact ⟨1, rfl, .inl rfl⟩
  case round =>
    obtain ⟨k, rfl, hk⟩ := hrel
    rcases hk with rfl | ⟨rfl, hcb⟩
    · cases hcb : contB b
      · have e1 := contB_no b hcb
        have HC := Lib.hid hcb
        clear hcb
        go_wp2
        go_ret
        exact begPost_of (nocont2 HC.out)
      · have e1 := contB_yes b hcb
        have HC := Lib.hid hcb
        clear hcb
        go_wp2
        go_round
        case rel => exact ⟨2, rfl, .inr ⟨rfl, HC.out⟩⟩
        case measure => simp [intOf]
    · have HC := Lib.hid hcb
      clear hcb
      by_cases hb : 128 ≤ b.toNat
      · have hb' : (128 : Int) ≤ (b.toNat : Int) := by omega
        go_wp2
        go_ret
        exact begPost_of (fin2 HX.out (by omega) (by omega) HL.out HH.out hb)
      · have hb' : decide ((128 : Int) ≤ (b.toNat : Int)) = false := by simp; omega
        go_wp2
        go_ret
        exact begPost_of (fin2n HX.out HL.out (by omega))
set_option maxHeartbeats 1000000 in
set_option maxRecDepth 100000 in
theorem begr3_240 (ad : Addr) (cp : Nat) (a b c : UInt8) (x : Nat) (w : World) (ca : w.cell? ad = some (.int .u8 (x : Int))) (cb : w.cell? ⟨ad.block, ad.off + 1, none⟩ = some (.int .u8 (b.toNat : Int))) (cc : w.cell? ⟨ad.block, ad.off + 2, none⟩ = some (.int .u8 (c.toNat : Int))) (HX : Hid (a.toNat = x)) (hx : x = 240) :
    Calls Try.prog 21 #[.slice (some ad) 3 cp] w (BegPost [a, b, c] w) := by
  subst hx
  have HL : Hid (loB 240 = 144) := rfl
  have HH : Hid (hiB 240 = 191) := rfl
  have y1 := b.toNat_lt
  go_enter Try.func21, Try.ntmps21
  go_wp2
  go_loop [4] (fun i => Beg3 b c i) (fun i => 3 - (intOf i).toNat)
  case atStart => exact ⟨1, rfl, .inl rfl⟩
  case round =>
    obtain ⟨k, rfl, hk⟩ := hrel
    rcases hk with rfl | ⟨rfl, hcb⟩ | ⟨rfl, hcb, hcc⟩
    · cases hcb : contB b
      · have e1 := contB_no b hcb
        have HC := Lib.hid hcb
        clear hcb
        go_wp2
        go_ret
        exact begPost_of (nocont3 HC.out)
      · have e1 := contB_yes b hcb
        have HC := Lib.hid hcb
        clear hcb
        go_wp2
        go_round
        case rel => exact ⟨2, rfl, .inr (.inl ⟨rfl, HC.out⟩)⟩
        case measure => simp [intOf]
    · have HC := Lib.hid hcb
      clear hcb
      cases hcc : contB c
      · have e1 := contB_no c hcc
        have HD := Lib.hid hcc
        clear hcc
        go_wp2
        go_ret
        exact begPost_of (nocont3c HD.out)
      · have e1 := contB_yes c hcc
        have HD := Lib.hid hcc
        clear hcc
        go_wp2
        go_round
        case rel => exact ⟨3, rfl, .inr (.inr ⟨rfl, HC.out, HD.out⟩)⟩
        case measure => simp [intOf]
    · have HC := Lib.hid hcb
      have HD := Lib.hid hcc
      clear hcb hcc
      by_cases hb : 144 ≤ b.toNat
      · have hb' : (144 : Int) ≤ (b.toNat : Int) := by omega
        go_wp2
        go_ret
        exact begPost_of (fin3 HX.out (by omega) (by omega) HL.out HH.out HD.out hb)
      · have hb' : decide ((144 : Int) ≤ (b.toNat : Int)) = false := by simp; omega
        go_wp2
        go_ret
        exact begPost_of (fin3n HX.out HL.out (by omega))
set_option maxHeartbeats 1000000 in
set_option maxRecDepth 100000 in
theorem begr3_244 (ad : Addr) (cp : Nat) (a b c : UInt8) (x : Nat) (w : World) (ca : w.cell? ad = some (.int .u8 (x : Int))) (cb : w.cell? ⟨ad.block, ad.off + 1, none⟩ = some (.int .u8 (b.toNat : Int))) (cc : w.cell? ⟨ad.block, ad.off + 2, none⟩ = some (.int .u8 (c.toNat : Int))) (HX : Hid (a.toNat = x)) (hx : x = 244) :
    Calls Try.prog 21 #[.slice (some ad) 3 cp] w (BegPost [a, b, c] w) := by
  subst hx
  have HL : Hid (loB 244 = 128) := rfl
  have HH : Hid (hiB 244 = 143) := rfl
  have y1 := b.toNat_lt
  go_enter Try.func21, Try.ntmps21
  go_wp2
  go_loop [4] (fun i => Beg3 b c i) (fun i => 3 - (intOf i).toNat)
  case atStart => exact ⟨1, rfl, .inl rfl⟩
  case round =>
    obtain ⟨k, rfl, hk⟩ := hrel
    rcases hk with rfl | ⟨rfl, hcb⟩ | ⟨rfl, hcb, hcc⟩
    · cases hcb : contB b
      · have e1 := contB_no b hcb
        have HC := Lib.hid hcb
        clear hcb
        go_wp2
        go_ret
        exact begPost_of (nocont3 HC.out)
      · have e1 := contB_yes b hcb
        have HC := Lib.hid hcb
        clear hcb
        go_wp2
        go_round
        case rel => exact ⟨2, rfl, .inr (.inl ⟨rfl, HC.out⟩)⟩
        case measure => simp [intOf]
    · have HC := Lib.hid hcb
      clear hcb
      cases hcc : contB c
      · have e1 := contB_no c hcc
        have HD := Lib.hid hcc
        clear hcc
        go_wp2
        go_ret
        exact begPost_of (nocont3c HD.out)
      · have e1 := contB_yes c hcc
        have HD := Lib.hid hcc
        clear hcc
        go_wp2
        go_round
        case rel => exact ⟨3, rfl, .inr (.inr ⟨rfl, HC.out, HD.out⟩)⟩
        case measure => simp [intOf]
    · have HC := Lib.hid hcb
      have HD := Lib.hid hcc
      clear hcb hcc
      by_cases hb : 128 ≤ b.toNat
      · have hb' : (128 : Int) ≤ (b.toNat : Int) := by omega
        go_wp2
        go_ret
        exact begPost_of (fin3 HX.out (by omega) (by omega) HL.out HH.out HD.out hb)
      · have hb' : decide ((128 : Int) ≤ (b.toNat : Int)) = false := by simp; omega
        go_wp2
        go_ret
        exact begPost_of (fin3n HX.out HL.out (by omega))
set_option maxHeartbeats 1000000 in
set_option maxRecDepth 100000 in
theorem begr3_o4 (ad : Addr) (cp : Nat) (a b c : UInt8) (x : Nat) (w : World) (ca : w.cell? ad = some (.int .u8 (x : Int))) (cb : w.cell? ⟨ad.block, ad.off + 1, none⟩ = some (.int .u8 (b.toNat : Int))) (cc : w.cell? ⟨ad.block, ad.off + 2, none⟩ = some (.int .u8 (c.toNat : Int))) (HX : Hid (a.toNat = x)) (hx0 : 240 < x) (hx1 : x < 244) :
    Calls Try.prog 21 #[.slice (some ad) 3 cp] w (BegPost [a, b, c] w) := by
  have HL : Hid (loB x = 128) := lo_other x (by omega) (by omega)
  have HH : Hid (hiB x = 191) := hi_other x (by omega) (by omega)
  have d3 : decide ((x : Int) < 194) = false := by simp; omega
  have d4 : decide (244 < (x : Int)) = false := by simp; omega
  have r1 : 224 ≤ (x : Int) := by omega
  have r2 : 240 ≤ (x : Int) := by omega
  have e224 : ((x : Int) == 224) = false := beq_eq_false_iff_ne.2 (by omega)
  have e237 : ((x : Int) == 237) = false := beq_eq_false_iff_ne.2 (by omega)
  have e240 : ((x : Int) == 240) = false := beq_eq_false_iff_ne.2 (by omega)
  have e244 : ((x : Int) == 244) = false := beq_eq_false_iff_ne.2 (by omega)
  have y1 := b.toNat_lt
  go_enter Try.func21, Try.ntmps21
  go_wp2
  go_loop [4] (fun i => Beg3 b c i) (fun i => 3 - (intOf i).toNat)
  case atStart => exact ⟨1, rfl, .inl rfl⟩
  case round =>
    obtain ⟨k, rfl, hk⟩ := hrel
    rcases hk with rfl | ⟨rfl, hcb⟩ | ⟨rfl, hcb, hcc⟩
    · cases hcb : contB b
      · have e1 := contB_no b hcb
        have HC := Lib.hid hcb
        clear hcb
        go_wp2
        go_ret
        exact begPost_of (nocont3 HC.out)
      · have e1 := contB_yes b hcb
        have HC := Lib.hid hcb
        clear hcb
        go_wp2
        go_round
        case rel => exact ⟨2, rfl, .inr (.inl ⟨rfl, HC.out⟩)⟩
        case measure => simp [intOf]
    · have HC := Lib.hid hcb
      clear hcb
      cases hcc : contB c
      · have e1 := contB_no c hcc
        have HD := Lib.hid hcc
        clear hcc
        go_wp2
        go_ret
        exact begPost_of (nocont3c HD.out)
      · have e1 := contB_yes c hcc
        have HD := Lib.hid hcc
        clear hcc
        go_wp2
        go_round
        case rel => exact ⟨3, rfl, .inr (.inr ⟨rfl, HC.out, HD.out⟩)⟩
        case measure => simp [intOf]
    · have HC := Lib.hid hcb
      have HD := Lib.hid hcc
      clear hcb hcc
      by_cases hb : 128 ≤ b.toNat
      · have hb' : (128 : Int) ≤ (b.toNat : Int) := by omega
        go_wp2
        go_ret
        exact begPost_of (fin3 HX.out (by omega) (by omega) HL.out HH.out HD.out hb)
      · have hb' : decide ((128 : Int) ≤ (b.toNat : Int)) = false := by simp; omega
        go_wp2
        go_ret
        exact begPost_of (fin3n HX.out HL.out (by omega))
set_option maxHeartbeats 1000000 in
set_option maxRecDepth 100000 in
theorem begr1_2 (ad : Addr) (cp : Nat) (a : UInt8) (x : Nat) (w : World) (ca : w.cell? ad = some (.int .u8 (x : Int))) (HX : Hid (a.toNat = x)) (hx0 : 194 ≤ x) (hx1 : x < 224) :
    Calls Try.prog 21 #[.slice (some ad) 1 cp] w (BegPost [a] w) := by
  have d3 : decide ((x : Int) < 194) = false := by simp; omega
  have d4 : decide (244 < (x : Int)) = false := by simp; omega
  have r1 : decide (224 ≤ (x : Int)) = false := by simp; omega
  have r2 : decide (240 ≤ (x : Int)) = false := by simp; omega
  go_enter Try.func21, Try.ntmps21
  go_wp2
  go_loop [4] (fun i => i = .int .i64 1) (fun i => 1 - (intOf i).toNat)
  case atStart => rfl
  case round =>
    obtain rfl := hrel
    go_wp2
    go_ret
    exact begPost_of (((beg1_iff a).2 (by rw [HX.out]; omega)).symm)
set_option maxHeartbeats 1000000 in
set_option maxRecDepth 100000 in
theorem begr1_3 (ad : Addr) (cp : Nat) (a : UInt8) (x : Nat) (w : World) (ca : w.cell? ad = some (.int .u8 (x : Int))) (HX : Hid (a.toNat = x)) (hx0 : 224 ≤ x) (hx1 : x < 240) :
    Calls Try.prog 21 #[.slice (some ad) 1 cp] w (BegPost [a] w) := by
  have d3 : decide ((x : Int) < 194) = false := by simp; omega
  have d4 : decide (244 < (x : Int)) = false := by simp; omega
  have r1 : 224 ≤ (x : Int) := by omega
  have r2 : decide (240 ≤ (x : Int)) = false := by simp; omega
  go_enter Try.func21, Try.ntmps21
  go_wp2
  go_loop [4] (fun i => i = .int .i64 1) (fun i => 1 - (intOf i).toNat)
  case atStart => rfl
  case round =>
    obtain rfl := hrel
    go_wp2
    go_ret
    exact begPost_of (((beg1_iff a).2 (by rw [HX.out]; omega)).symm)
set_option maxHeartbeats 1000000 in
set_option maxRecDepth 100000 in
theorem begr1_4 (ad : Addr) (cp : Nat) (a : UInt8) (x : Nat) (w : World) (ca : w.cell? ad = some (.int .u8 (x : Int))) (HX : Hid (a.toNat = x)) (hx0 : 240 ≤ x) (hx1 : x ≤ 244) :
    Calls Try.prog 21 #[.slice (some ad) 1 cp] w (BegPost [a] w) := by
  have d3 : decide ((x : Int) < 194) = false := by simp; omega
  have d4 : decide (244 < (x : Int)) = false := by simp; omega
  have r1 : 224 ≤ (x : Int) := by omega
  have r2 : 240 ≤ (x : Int) := by omega
  go_enter Try.func21, Try.ntmps21
  go_wp2
  go_loop [4] (fun i => i = .int .i64 1) (fun i => 1 - (intOf i).toNat)
  case atStart => rfl
  case round =>
    obtain rfl := hrel
    go_wp2
    go_ret
    exact begPost_of (((beg1_iff a).2 (by rw [HX.out]; omega)).symm)
set_option maxHeartbeats 1000000 in
set_option maxRecDepth 100000 in
theorem begr_low (ad : Addr) (cp n : Nat) (l : List UInt8) (x : Nat) (w : World) (ca : w.cell? ad = some (.int .u8 (x : Int))) (hf : beginsL l = false) (hn : 1 ≤ n) (hn3 : n ≤ 3) (hx : x < 194) :
    Calls Try.prog 21 #[.slice (some ad) n cp] w (BegPost l w) := by
  have HF := Lib.hid hf
  clear hf
  have l1 : decide ((n : Int) < 1) = false := by simp; omega
  have l2 : decide (3 < (n : Int)) = false := by simp; omega
  have l3 : 0 < n := by omega
  have d3 : (x : Int) < 194 := by omega
  go_enter Try.func21, Try.ntmps21
  go_wp2
  go_ret
  exact begPost_of HF.out.symm
set_option maxHeartbeats 1000000 in
set_option maxRecDepth 100000 in
theorem begr_high (ad : Addr) (cp n : Nat) (l : List UInt8) (x : Nat) (w : World) (ca : w.cell? ad = some (.int .u8 (x : Int))) (hf : beginsL l = false) (hn : 1 ≤ n) (hn3 : n ≤ 3) (hx : 244 < x) :
    Calls Try.prog 21 #[.slice (some ad) n cp] w (BegPost l w) := by
  have HF := Lib.hid hf
  clear hf
  have l1 : decide ((n : Int) < 1) = false := by simp; omega
  have l2 : decide (3 < (n : Int)) = false := by simp; omega
  have l3 : 0 < n := by omega
  have d3 : decide ((x : Int) < 194) = false := by simp; omega
  have d4 : 244 < (x : Int) := by omega
  go_enter Try.func21, Try.ntmps21
  go_wp2
  go_ret
  exact begPost_of HF.out.symm
set_option maxHeartbeats 1000000 in
set_option maxRecDepth 100000 in
theorem begr_2 (ad : Addr) (cp n : Nat) (l : List UInt8) (x : Nat) (w : World) (ca : w.cell? ad = some (.int .u8 (x : Int))) (hf : beginsL l = false) (hn : 1 ≤ n) (hn3 : n ≤ 3) (hx0 : 194 ≤ x) (hx1 : x < 224) (hn2 : 2 ≤ n) :
    Calls Try.prog 21 #[.slice (some ad) n cp] w (BegPost l w) := by
  have HF := Lib.hid hf
  clear hf
  have l1 : decide ((n : Int) < 1) = false := by simp; omega
  have l2 : decide (3 < (n : Int)) = false := by simp; omega
  have l3 : 0 < n := by omega
  have d3 : decide ((x : Int) < 194) = false := by simp; omega
  have d4 : decide (244 < (x : Int)) = false := by simp; omega
  have r1 : decide (224 ≤ (x : Int)) = false := by simp; omega
  have r2 : decide (240 ≤ (x : Int)) = false := by simp; omega
  have l4 : (2 : Int) ≤ (n : Int) := by omega
  go_enter Try.func21, Try.ntmps21
  go_wp2
  go_ret
  exact begPost_of HF.out.symm
set_option maxHeartbeats 1000000 in
set_option maxRecDepth 100000 in
theorem begr_3 (ad : Addr) (cp n : Nat) (l : List UInt8) (x : Nat) (w : World) (ca : w.cell? ad = some (.int .u8 (x : Int))) (hf : beginsL l = false) (hn : 1 ≤ n) (hn3 : n ≤ 3) (hx0 : 224 ≤ x) (hx1 : x < 240) (hn2 : 3 ≤ n) :
    Calls Try.prog 21 #[.slice (some ad) n cp] w (BegPost l w) := by
  have HF := Lib.hid hf
  clear hf
  have l1 : decide ((n : Int) < 1) = false := by simp; omega
  have l2 : decide (3 < (n : Int)) = false := by simp; omega
  have l3 : 0 < n := by omega
  have d3 : decide ((x : Int) < 194) = false := by simp; omega
  have d4 : decide (244 < (x : Int)) = false := by simp; omega
  have r1 : 224 ≤ (x : Int) := by omega
  have r2 : decide (240 ≤ (x : Int)) = false := by simp; omega
  have l4 : (3 : Int) ≤ (n : Int) := by omega
  go_enter Try.func21, Try.ntmps21
  go_wp2
  go_ret
  exact begPost_of HF.out.symm
theorem begr_nil (A : Option Addr) (cp : Nat) (w : World) : Calls Try.prog 21 #[.slice A 0 cp] w (BegPost [] w) := by
  go_enter Try.func21, Try.ntmps21
  go_wp2
  go_ret
  exact begPost_of rfl
theorem begr_long (A : Option Addr) (cp n : Nat) (l : List UInt8) (w : World) (hf : beginsL l = false) (hn : 4 ≤ n) : Calls Try.prog 21 #[.slice A n cp] w (BegPost l w) := by
  have HF := Lib.hid hf
  clear hf
  have l1 : decide ((n : Int) < 1) = false := by simp; omega
  have l2 : 3 < (n : Int) := by omega
  go_enter Try.func21, Try.ntmps21
  go_wp2
  go_ret
  exact begPost_of HF.out.symm

/-- The document's Begins. -/
theorem beginsr_any (v : Value) (l : List UInt8) (B : Nat) (w : World) (hv : BS w B v l) : Calls Try.prog 21 #[v] w fun e w' => e = .returned (.bool (beginsL l)) ∧ w = w' := by
  show Calls Try.prog 21 #[v] w (BegPost l w)
  match l, hv with
  | [], hv =>
    obtain ⟨A, c, rfl, _⟩ := hv
    exact begr_nil A c w
  | a :: l, hv =>
    obtain ⟨ad, cp, rfl, _, _, ca, hcs⟩ := hv.lits
    obtain ⟨x, hx⟩ : ∃ x, a.toNat = x := ⟨_, rfl⟩
    have hx1 : x < 256 := by rw [← hx]; exact a.toNat_lt
    rw [hx] at ca
    have HX : Hid (a.toNat = x) := hx
    match l, hcs with
    | [], hcs =>
      by_cases h0 : x < 194
      · exact begr_low ad cp 1 [a] x w ca (by rw [← Bool.not_eq_true, beg1_iff]; omega) (by omega) (by omega) h0
      by_cases h1 : x < 224
      · exact begr1_2 ad cp a x w ca HX (by omega) h1
      by_cases h2 : x < 240
      · exact begr1_3 ad cp a x w ca HX (by omega) h2
      by_cases h3 : x ≤ 244
      · exact begr1_4 ad cp a x w ca HX (by omega) h3
      · exact begr_high ad cp 1 [a] x w ca (by rw [← Bool.not_eq_true, beg1_iff]; omega) (by omega) (by omega) (by omega)
    | [b], hcs =>
      have cb := hcs 0 b rfl
      by_cases h0 : x < 194
      · exact begr_low ad cp 2 [a, b] x w ca (by rw [← Bool.not_eq_true, beg2_iff]; omega) (by omega) (by omega) h0
      by_cases h1 : x < 224
      · exact begr_2 ad cp 2 [a, b] x w ca (by rw [← Bool.not_eq_true, beg2_iff]; omega) (by omega) (by omega) (by omega) h1 (by omega)
      by_cases h2 : x = 224
      · exact begr2_224 ad cp a b x w ca cb HX h2
      by_cases h3 : x = 237
      · exact begr2_237 ad cp a b x w ca cb HX h3
      by_cases h4 : x = 240
      · exact begr2_240 ad cp a b x w ca cb HX h4
      by_cases h5 : x = 244
      · exact begr2_244 ad cp a b x w ca cb HX h5
      by_cases h6 : x < 240
      · exact begr2_o3 ad cp a b x w ca cb HX (by omega) h6 h3
      by_cases h7 : x < 244
      · exact begr2_o4 ad cp a b x w ca cb HX (by omega) h7
      · exact begr_high ad cp 2 [a, b] x w ca (by rw [← Bool.not_eq_true, beg2_iff]; omega) (by omega) (by omega) (by omega)
    | [b, c], hcs =>
      have cb := hcs 0 b rfl
      have cc := hcs 1 c rfl
      by_cases h0 : x < 194
      · exact begr_low ad cp 3 [a, b, c] x w ca (by rw [← Bool.not_eq_true, beg3_iff]; omega) (by omega) (by omega) h0
      by_cases h1 : x < 224
      · exact begr_2 ad cp 3 [a, b, c] x w ca (by rw [← Bool.not_eq_true, beg3_iff]; omega) (by omega) (by omega) (by omega) h1 (by omega)
      by_cases h6 : x < 240
      · exact begr_3 ad cp 3 [a, b, c] x w ca (by rw [← Bool.not_eq_true, beg3_iff]; omega) (by omega) (by omega) (by omega) h6 (by omega)
      by_cases h4 : x = 240
      · exact begr3_240 ad cp a b c x w ca cb cc HX h4
      by_cases h5 : x = 244
      · exact begr3_244 ad cp a b c x w ca cb cc HX h5
      by_cases h7 : x < 244
      · exact begr3_o4 ad cp a b c x w ca cb cc HX (by omega) h7
      · exact begr_high ad cp 3 [a, b, c] x w ca (by rw [← Bool.not_eq_true, beg3_iff]; omega) (by omega) (by omega) (by omega)
    | b :: c :: d :: m, hcs => exact begr_long (some ad) cp _ _ w (by simp [beginsL]) (by simp)
end Go.Proofs.Ytbimhhcmfhooaaa

namespace Go.Proofs.Ytbimhhcmfhooaaa
open Go.RowKit
set_option linter.unusedVariables false

/-- What is answered: the rune and true, or some number and false. -/
def WholePost (q : List UInt8) (w : World) (e : Ending) (w' : World) : Prop :=
  w = w' ∧ ((∃ r, wholeL q = some r ∧ e = .returned (.tuple #[.int .i32 (r : Int), .bool true])) ∨ (wholeL q = none ∧ ∃ r : Int, e = .returned (.tuple #[.int .i32 r, .bool false])))

theorem whole2_yes (a b : UInt8) (h0 : 194 ≤ a.toNat) (h1 : a.toNat < 224) (hc : contB b = true) : wholeL [a, b] = some ((a.toNat - 192) * 64 + (b.toNat - 128)) := by
  simp only [wholeL]
  rw [if_pos (by simp [hc]; omega)]
theorem whole2_no (a b : UInt8) (h : 224 ≤ a.toNat ∨ contB b = false) : wholeL [a, b] = none := by
  simp only [wholeL]
  rw [if_neg]
  intro hh
  simp at hh
  rcases h with h | h
  · omega
  · rw [h] at hh; simp at hh
theorem m63 (b : UInt8) (h : contB b = true) : bits .and .u8 (b.toNat : Int) 63 = ((b.toNat - 128 : Nat) : Int) := by
  rw [contB_iff] at h
  rw [u8_and63 _ (by omega) (by omega)]
  omega
theorem whole3_yes (a b c : UInt8) (h0 : 224 ≤ a.toNat) (h1 : a.toNat < 240) (hs : secB a b = true) (hc : contB c = true) : wholeL [a, b, c] = some ((a.toNat - 224) * 4096 + (b.toNat - 128) * 64 + (c.toNat - 128)) := by
  simp only [wholeL]
  rw [if_pos (by simp [hs, hc]; omega)]
theorem whole3_no (a b c : UInt8) (h : 240 ≤ a.toNat ∨ contB c = false) : wholeL [a, b, c] = none := by
  simp only [wholeL]
  rw [if_neg]
  intro hh
  simp at hh
  rcases h with h | h
  · omega
  · rw [h] at hh; simp at hh
theorem whole4_yes (a b c d : UInt8) (h0 : 240 ≤ a.toNat) (h1 : a.toNat ≤ 244) (hs : secB a b = true) (hc : contB c = true) (hd : contB d = true) : wholeL [a, b, c, d] = some ((a.toNat - 240) * 262144 + (b.toNat - 128) * 4096 + (c.toNat - 128) * 64 + (d.toNat - 128)) := by
  simp only [wholeL]
  rw [if_pos (by simp [hs, hc, hd]; omega)]
theorem whole4_no (a b c d : UInt8) (h : contB d = false) : wholeL [a, b, c, d] = none := by
  simp only [wholeL]
  rw [if_neg]
  intro hh
  simp [h] at hh
theorem or6n (m v R : Nat) (h0 : m < 1000000) (h1 : v < 64) (hR : m * 64 + v = R) : bits .or .i32 ((m : Int) * 64) (v : Int) = (R : Int) := by
  rw [i32_or6 _ _ (by omega) (by omega) (by omega) (by omega) (by omega)]
  omega
theorem may_ok (r : Nat) (h : r < 1114112) (h2 : r < 55296 ∨ 57343 < r) : mayR (r : Int) = true := mayR_true (by omega) (by omega) (by omega)
theorem secB_cont (a b : UInt8) (h : secB a b = true) : contB b = true := by
  rw [secB_iff] at h
  have h1 := lo_ge a.toNat
  have h2 := hiB_le a.toNat
  rw [contB_iff]
  omega
theorem sec3_ok (a b c : UInt8) (R : Nat) (h0 : 224 ≤ a.toNat) (h1 : a.toNat < 240) (hs : secB a b = true) (hc : contB c = true) (hR : (a.toNat - 224) * 4096 + (b.toNat - 128) * 64 + (c.toNat - 128) = R) : 2048 ≤ R ∧ R < 1114112 ∧ (R < 55296 ∨ 57343 < R) := by
  rw [secB_iff] at hs
  rw [contB_iff] at hc
  have l1 := lo_ge a.toNat
  have l2 := hiB_le a.toNat
  by_cases e1 : a.toNat = 224
  · have : loB a.toNat = 160 := by rw [e1]; rfl
    omega
  by_cases e2 : a.toNat = 237
  · have : hiB a.toNat = 159 := by rw [e2]; rfl
    omega
  omega
theorem sec4_ok (a b c d : UInt8) (R : Nat) (h0 : 240 ≤ a.toNat) (h1 : a.toNat ≤ 244) (hs : secB a b = true) (hc : contB c = true) (hd : contB d = true) (hR : (a.toNat - 240) * 262144 + (b.toNat - 128) * 4096 + (c.toNat - 128) * 64 + (d.toNat - 128) = R) : 65536 ≤ R ∧ R < 1114112 := by
  rw [secB_iff] at hs
  rw [contB_iff] at hc hd
  have l1 := lo_ge a.toNat
  have l2 := hiB_le a.toNat
  by_cases e1 : a.toNat = 240
  · have : loB a.toNat = 144 := by rw [e1]; rfl
    omega
  by_cases e2 : a.toNat = 244
  · have : hiB a.toNat = 143 := by rw [e2]; rfl
    omega
  omega

def Wh2 (m R : Nat) (r i : Value) : Prop := ∃ k : Nat, i = .int .i64 (k : Int) ∧ ((k = 1 ∧ r = .int .i32 (m : Int)) ∨ (k = 2 ∧ r = .int .i32 (R : Int)))
def Wh3 (m R2 R : Nat) (r i : Value) : Prop := ∃ k : Nat, i = .int .i64 (k : Int) ∧ ((k = 1 ∧ r = .int .i32 (m : Int)) ∨ (k = 2 ∧ r = .int .i32 (R2 : Int)) ∨ (k = 3 ∧ r = .int .i32 (R : Int)))
def Wh4 (m R2 R3 R : Nat) (r i : Value) : Prop := ∃ k : Nat, i = .int .i64 (k : Int) ∧ ((k = 1 ∧ r = .int .i32 (m : Int)) ∨ (k = 2 ∧ r = .int .i32 (R2 : Int)) ∨ (k = 3 ∧ r = .int .i32 (R3 : Int)) ∨ (k = 4 ∧ r = .int .i32 (R : Int)))

set_option maxHeartbeats 1000000 in
set_option maxRecDepth 100000 in
theorem wholer2_yes (ad : Addr) (cp : Nat) (a b : UInt8) (x : Nat) (w : World) (ca : w.cell? ad = some (.int .u8 (x : Int))) (cb : w.cell? ⟨ad.block, ad.off + 1, none⟩ = some (.int .u8 (b.toNat : Int))) (HX : Hid (a.toNat = x)) (h0 : 194 ≤ x) (h1 : x < 224) (hc : contB b = true) :
    Calls Try.prog 41 #[.slice (some ad) 2 cp] w (WholePost [a, b] w) := by
  have d1 : 192 ≤ (x : Int) := by omega
  have d2 : (x : Int) < 224 := by omega
  have HW : Hid (wholeL [a, b] = some ((x - 192) * 64 + (b.toNat - 128))) := by
    have := whole2_yes a b (by rw [HX.out]; exact h0) (by rw [HX.out]; exact h1) hc
    rw [HX.out] at this
    exact this
  have e1 : bits .and .u8 (x : Int) 31 = ((x - 192 : Nat) : Int) := by rw [u8_and31 _ (by omega) (by omega)]; omega
  have e2 := m63 b hc
  have e3 := contB_yes b hc
  rw [contB_iff] at hc
  obtain ⟨m, hm⟩ : ∃ m, x - 192 = m := ⟨_, rfl⟩
  obtain ⟨v, hv⟩ : ∃ v, b.toNat - 128 = v := ⟨_, rfl⟩
  obtain ⟨R, hR⟩ : ∃ R, m * 64 + v = R := ⟨_, rfl⟩
  rw [hm, hv, hR] at HW
  have hm1 : 2 ≤ m := by omega
  have hm2 : m < 32 := by omega
  have hv1 : v < 64 := by omega
  have e4 := or6n m v R (by omega) hv1 hR
  have r1 : 128 ≤ (R : Int) := by omega
  have hmay := may_ok R (by omega) (by omega)
  have r2 : R < 2048 := by omega
  rw [hm] at e1
  rw [hv] at e2
  clear hm hv hc hR
  go_enter Try.func41, Try.ntmps41
  go_wp2
  go_loop [7, 8] (fun r i => Wh2 m R r i) (fun _ i => 2 - (intOf i).toNat)
  case atStart => exact ⟨1, rfl, .inl ⟨rfl, rfl⟩⟩
  case round =>
    obtain ⟨k, rfl, hk⟩ := hrel
    rcases hk with ⟨rfl, rfl⟩ | ⟨rfl, rfl⟩
    · go_wp2
      go_round
      case rel => exact ⟨2, rfl, .inr ⟨rfl, rfl⟩⟩
      case measure => simp [intOf]
    · go_wp2_with (go_at_call 54; (with_reducible refine (mayr_any (R : Int) (by omega) (by omega) _).mono ?_); rintro e w' ⟨rfl, rfl⟩; rw [hmay])
      go_ret2
      exact ⟨rfl, .inl ⟨R, HW.out, rfl⟩⟩
set_option maxHeartbeats 1000000 in
set_option maxRecDepth 100000 in
theorem wholer2_no (ad : Addr) (cp : Nat) (a b : UInt8) (x : Nat) (w : World) (ca : w.cell? ad = some (.int .u8 (x : Int))) (cb : w.cell? ⟨ad.block, ad.off + 1, none⟩ = some (.int .u8 (b.toNat : Int))) (HX : Hid (a.toNat = x)) (h0 : 194 ≤ x) (h1 : x < 224) (hc : contB b = false) :
    Calls Try.prog 41 #[.slice (some ad) 2 cp] w (WholePost [a, b] w) := by
  have d1 : 192 ≤ (x : Int) := by omega
  have d2 : (x : Int) < 224 := by omega
  have HW : Hid (wholeL [a, b] = none) := whole2_no a b (.inr hc)
  have e1 : bits .and .u8 (x : Int) 31 = ((x - 192 : Nat) : Int) := by rw [u8_and31 _ (by omega) (by omega)]; omega
  have e3 := contB_no b hc
  obtain ⟨m, hm⟩ : ∃ m, x - 192 = m := ⟨_, rfl⟩
  rw [hm] at e1
  clear hm hc
  go_enter Try.func41, Try.ntmps41
  go_wp2
  go_loop [7, 8] (fun r i => i = .int .i64 1) (fun _ i => 2 - (intOf i).toNat)
  case atStart => rfl
  case round =>
    obtain rfl := hrel
    go_wp2
    go_ret2
    exact ⟨rfl, .inr ⟨HW.out, 0, rfl⟩⟩
set_option maxHeartbeats 1000000 in
set_option maxRecDepth 100000 in
theorem wholer2_3 (ad : Addr) (cp : Nat) (a b : UInt8) (x : Nat) (w : World) (ca : w.cell? ad = some (.int .u8 (x : Int))) (cb : w.cell? ⟨ad.block, ad.off + 1, none⟩ = some (.int .u8 (b.toNat : Int))) (HX : Hid (a.toNat = x)) (h0 : 224 ≤ x) (h1 : x < 240) :
    Calls Try.prog 41 #[.slice (some ad) 2 cp] w (WholePost [a, b] w) := by
  have d1 : 192 ≤ (x : Int) := by omega
  have d2 : decide ((x : Int) < 224) = false := by simp; omega
  have d3 : 224 ≤ (x : Int) := by omega
  have d4 : (x : Int) < 240 := by omega
  have HW : Hid (wholeL [a, b] = none) := whole2_no a b (.inl (by rw [HX.out]; exact h0))
  go_enter Try.func41, Try.ntmps41
  go_wp2
  go_ret2
  exact ⟨rfl, .inr ⟨HW.out, 0, rfl⟩⟩
set_option maxHeartbeats 1000000 in
set_option maxRecDepth 100000 in
theorem wholer2_4 (ad : Addr) (cp : Nat) (a b : UInt8) (x : Nat) (w : World) (ca : w.cell? ad = some (.int .u8 (x : Int))) (cb : w.cell? ⟨ad.block, ad.off + 1, none⟩ = some (.int .u8 (b.toNat : Int))) (HX : Hid (a.toNat = x)) (h0 : 240 ≤ x) (h1 : x ≤ 244) :
    Calls Try.prog 41 #[.slice (some ad) 2 cp] w (WholePost [a, b] w) := by
  have d1 : 192 ≤ (x : Int) := by omega
  have d2 : decide ((x : Int) < 224) = false := by simp; omega
  have d3 : 224 ≤ (x : Int) := by omega
  have d4 : decide ((x : Int) < 240) = false := by simp; omega
  have d5 : 240 ≤ (x : Int) := by omega
  have d6 : (x : Int) < 248 := by omega
  have HW : Hid (wholeL [a, b] = none) := whole2_no a b (.inl (by rw [HX.out]; omega))
  go_enter Try.func41, Try.ntmps41
  go_wp2
  go_ret2
  exact ⟨rfl, .inr ⟨HW.out, 0, rfl⟩⟩
set_option maxHeartbeats 1000000 in
set_option maxRecDepth 100000 in
theorem wholer3_yes (ad : Addr) (cp : Nat) (a b c : UInt8) (x : Nat) (w : World) (ca : w.cell? ad = some (.int .u8 (x : Int))) (cb : w.cell? ⟨ad.block, ad.off + 1, none⟩ = some (.int .u8 (b.toNat : Int))) (cc : w.cell? ⟨ad.block, ad.off + 2, none⟩ = some (.int .u8 (c.toNat : Int))) (HX : Hid (a.toNat = x)) (h0 : 224 ≤ x) (h1 : x < 240) (hs : secB a b = true) (hc : contB c = true) :
    Calls Try.prog 41 #[.slice (some ad) 3 cp] w (WholePost [a, b, c] w) := by
  have d1 : 192 ≤ (x : Int) := by omega
  have d2 : decide ((x : Int) < 224) = false := by simp; omega
  have d3 : 224 ≤ (x : Int) := by omega
  have d4 : (x : Int) < 240 := by omega
  have HW : Hid (wholeL [a, b, c] = some ((x - 224) * 4096 + (b.toNat - 128) * 64 + (c.toNat - 128))) := by
    have := whole3_yes a b c (by rw [HX.out]; exact h0) (by rw [HX.out]; exact h1) hs hc
    rw [HX.out] at this
    exact this
  have hok := sec3_ok a b c _ (by rw [HX.out]; exact h0) (by rw [HX.out]; exact h1) hs hc rfl
  rw [HX.out] at hok
  have hb := secB_cont a b hs
  have e1 : bits .and .u8 (x : Int) 15 = ((x - 224 : Nat) : Int) := by rw [u8_and15 _ (by omega) (by omega)]; omega
  have e2 := m63 b hb
  have e3 := contB_yes b hb
  have e5 := m63 c hc
  have e6 := contB_yes c hc
  rw [contB_iff] at hc hb
  obtain ⟨m, hm⟩ : ∃ m, x - 224 = m := ⟨_, rfl⟩
  obtain ⟨v, hv⟩ : ∃ v, b.toNat - 128 = v := ⟨_, rfl⟩
  obtain ⟨u, hu⟩ : ∃ u, c.toNat - 128 = u := ⟨_, rfl⟩
  obtain ⟨R2, hR2⟩ : ∃ R, m * 64 + v = R := ⟨_, rfl⟩
  obtain ⟨R, hR⟩ : ∃ R, R2 * 64 + u = R := ⟨_, rfl⟩
  rw [hm, hv, hu] at HW hok
  rw [show m * 4096 + v * 64 + u = R by omega] at HW hok
  have hm2 : m < 16 := by omega
  have hv1 : v < 64 := by omega
  have hu1 : u < 64 := by omega
  have e4 := or6n m v R2 (by omega) hv1 hR2
  have e7 := or6n R2 u R (by omega) hu1 hR
  have r1 : 2048 ≤ (R : Int) := by omega
  have hmay := may_ok R hok.2.1 hok.2.2
  have r2 : R < 65536 := by omega
  have r3 : R2 < 1024 := by omega
  rw [hm] at e1
  rw [hv] at e2
  rw [hu] at e5
  clear hm hv hu hc hb hR hR2 hok hs
  go_enter Try.func41, Try.ntmps41
  go_wp2
  go_loop [7, 8] (fun r i => Wh3 m R2 R r i) (fun _ i => 3 - (intOf i).toNat)
  case atStart => exact ⟨1, rfl, .inl ⟨rfl, rfl⟩⟩
  case round =>
    obtain ⟨k, rfl, hk⟩ := hrel
    rcases hk with ⟨rfl, rfl⟩ | ⟨rfl, rfl⟩ | ⟨rfl, rfl⟩
    · go_wp2
      go_round
      case rel => exact ⟨2, rfl, .inr (.inl ⟨rfl, rfl⟩)⟩
      case measure => simp [intOf]
    · go_wp2
      go_round
      case rel => exact ⟨3, rfl, .inr (.inr ⟨rfl, rfl⟩)⟩
      case measure => simp [intOf]
    · go_wp2_with (go_at_call 54; (with_reducible refine (mayr_any (R : Int) (by omega) (by omega) _).mono ?_); rintro e w' ⟨rfl, rfl⟩; rw [hmay])
      go_ret2
      exact ⟨rfl, .inl ⟨R, HW.out, rfl⟩⟩
set_option maxHeartbeats 1000000 in
set_option maxRecDepth 100000 in
theorem wholer3_no (ad : Addr) (cp : Nat) (a b c : UInt8) (x : Nat) (w : World) (ca : w.cell? ad = some (.int .u8 (x : Int))) (cb : w.cell? ⟨ad.block, ad.off + 1, none⟩ = some (.int .u8 (b.toNat : Int))) (cc : w.cell? ⟨ad.block, ad.off + 2, none⟩ = some (.int .u8 (c.toNat : Int))) (HX : Hid (a.toNat = x)) (h0 : 224 ≤ x) (h1 : x < 240) (hs : secB a b = true) (hc : contB c = false) :
    Calls Try.prog 41 #[.slice (some ad) 3 cp] w (WholePost [a, b, c] w) := by
  have d1 : 192 ≤ (x : Int) := by omega
  have d2 : decide ((x : Int) < 224) = false := by simp; omega
  have d3 : 224 ≤ (x : Int) := by omega
  have d4 : (x : Int) < 240 := by omega
  have HW : Hid (wholeL [a, b, c] = none) := whole3_no a b c (.inr hc)
  have hb := secB_cont a b hs
  have e1 : bits .and .u8 (x : Int) 15 = ((x - 224 : Nat) : Int) := by rw [u8_and15 _ (by omega) (by omega)]; omega
  have e2 := m63 b hb
  have e3 := contB_yes b hb
  have e6 := contB_no c hc
  rw [contB_iff] at hb
  obtain ⟨m, hm⟩ : ∃ m, x - 224 = m := ⟨_, rfl⟩
  obtain ⟨v, hv⟩ : ∃ v, b.toNat - 128 = v := ⟨_, rfl⟩
  obtain ⟨R2, hR2⟩ : ∃ R, m * 64 + v = R := ⟨_, rfl⟩
  have hm2 : m < 16 := by omega
  have hv1 : v < 64 := by omega
  have e4 := or6n m v R2 (by omega) hv1 hR2
  rw [hm] at e1
  rw [hv] at e2
  clear hm hv hc hb hR2 hs
  go_enter Try.func41, Try.ntmps41
  go_wp2
  go_loop [7, 8] (fun r i => Wh2 m R2 r i) (fun _ i => 3 - (intOf i).toNat)
  case atStart => exact ⟨1, rfl, .inl ⟨rfl, rfl⟩⟩
  case round =>
    obtain ⟨k, rfl, hk⟩ := hrel
    rcases hk with ⟨rfl, rfl⟩ | ⟨rfl, rfl⟩
    · go_wp2
      go_round
      case rel => exact ⟨2, rfl, .inr ⟨rfl, rfl⟩⟩
      case measure => simp [intOf]
    · go_wp2
      go_ret2
      exact ⟨rfl, .inr ⟨HW.out, 0, rfl⟩⟩
set_option maxHeartbeats 1000000 in
set_option maxRecDepth 100000 in
theorem wholer3_4 (ad : Addr) (cp : Nat) (a b c : UInt8) (x : Nat) (w : World) (ca : w.cell? ad = some (.int .u8 (x : Int))) (cb : w.cell? ⟨ad.block, ad.off + 1, none⟩ = some (.int .u8 (b.toNat : Int))) (cc : w.cell? ⟨ad.block, ad.off + 2, none⟩ = some (.int .u8 (c.toNat : Int))) (HX : Hid (a.toNat = x)) (h0 : 240 ≤ x) (h1 : x ≤ 244) :
    Calls Try.prog 41 #[.slice (some ad) 3 cp] w (WholePost [a, b, c] w) := by
  have d1 : 192 ≤ (x : Int) := by omega
  have d2 : decide ((x : Int) < 224) = false := by simp; omega
  have d3 : 224 ≤ (x : Int) := by omega
  have d4 : decide ((x : Int) < 240) = false := by simp; omega
  have d5 : 240 ≤ (x : Int) := by omega
  have d6 : (x : Int) < 248 := by omega
  have HW : Hid (wholeL [a, b, c] = none) := whole3_no a b c (.inl (by rw [HX.out]; exact h0))
  go_enter Try.func41, Try.ntmps41
  go_wp2
  go_ret2
  exact ⟨rfl, .inr ⟨HW.out, 0, rfl⟩⟩
set_option maxHeartbeats 1000000 in
set_option maxRecDepth 100000 in
theorem wholer4_yes (ad : Addr) (cp : Nat) (a b c d : UInt8) (x : Nat) (w : World) (ca : w.cell? ad = some (.int .u8 (x : Int))) (cb : w.cell? ⟨ad.block, ad.off + 1, none⟩ = some (.int .u8 (b.toNat : Int))) (cc : w.cell? ⟨ad.block, ad.off + 2, none⟩ = some (.int .u8 (c.toNat : Int))) (cd : w.cell? ⟨ad.block, ad.off + 3, none⟩ = some (.int .u8 (d.toNat : Int))) (HX : Hid (a.toNat = x)) (h0 : 240 ≤ x) (h1 : x ≤ 244) (hs : secB a b = true) (hc : contB c = true) (hd : contB d = true) :
    Calls Try.prog 41 #[.slice (some ad) 4 cp] w (WholePost [a, b, c, d] w) := by
  have d1 : 192 ≤ (x : Int) := by omega
  have d2 : decide ((x : Int) < 224) = false := by simp; omega
  have d3 : 224 ≤ (x : Int) := by omega
  have d4 : decide ((x : Int) < 240) = false := by simp; omega
  have d5 : 240 ≤ (x : Int) := by omega
  have d6 : (x : Int) < 248 := by omega
  have HW : Hid (wholeL [a, b, c, d] = some ((x - 240) * 262144 + (b.toNat - 128) * 4096 + (c.toNat - 128) * 64 + (d.toNat - 128))) := by
    have := whole4_yes a b c d (by rw [HX.out]; exact h0) (by rw [HX.out]; exact h1) hs hc hd
    rw [HX.out] at this
    exact this
  have hok := sec4_ok a b c d _ (by rw [HX.out]; exact h0) (by rw [HX.out]; exact h1) hs hc hd rfl
  rw [HX.out] at hok
  have hb := secB_cont a b hs
  have e1 : bits .and .u8 (x : Int) 7 = ((x - 240 : Nat) : Int) := by rw [u8_and7 _ (by omega) (by omega)]; omega
  have e2 := m63 b hb
  have e3 := contB_yes b hb
  have e5 := m63 c hc
  have e6 := contB_yes c hc
  have e8 := m63 d hd
  have e9 := contB_yes d hd
  rw [contB_iff] at hc hb hd
  obtain ⟨m, hm⟩ : ∃ m, x - 240 = m := ⟨_, rfl⟩
  obtain ⟨v, hv⟩ : ∃ v, b.toNat - 128 = v := ⟨_, rfl⟩
  obtain ⟨u, hu⟩ : ∃ u, c.toNat - 128 = u := ⟨_, rfl⟩
  obtain ⟨t, ht⟩ : ∃ t, d.toNat - 128 = t := ⟨_, rfl⟩
  obtain ⟨R2, hR2⟩ : ∃ R, m * 64 + v = R := ⟨_, rfl⟩
  obtain ⟨R3, hR3⟩ : ∃ R, R2 * 64 + u = R := ⟨_, rfl⟩
  obtain ⟨R, hR⟩ : ∃ R, R3 * 64 + t = R := ⟨_, rfl⟩
  rw [hm, hv, hu, ht] at HW hok
  rw [show m * 262144 + v * 4096 + u * 64 + t = R by omega] at HW hok
  have hm2 : m < 8 := by omega
  have hv1 : v < 64 := by omega
  have hu1 : u < 64 := by omega
  have ht1 : t < 64 := by omega
  have e4 := or6n m v R2 (by omega) hv1 hR2
  have e7 := or6n R2 u R3 (by omega) hu1 hR3
  have e10 := or6n R3 t R (by omega) ht1 hR
  have r1 : 65536 ≤ (R : Int) := by omega
  have hmay := may_ok R hok.2 (.inr (by omega))
  have r2 : R < 1114112 := hok.2
  have r3 : R2 < 1024 := by omega
  have r4 : R3 < 65536 := by omega
  rw [hm] at e1
  rw [hv] at e2
  rw [hu] at e5
  rw [ht] at e8
  clear hm hv hu ht hc hb hd hR hR2 hR3 hok hs
  go_enter Try.func41, Try.ntmps41
  go_wp2
  go_loop [7, 8] (fun r i => Wh4 m R2 R3 R r i) (fun _ i => 4 - (intOf i).toNat)
  case atStart => exact ⟨1, rfl, .inl ⟨rfl, rfl⟩⟩
  case round =>
    obtain ⟨k, rfl, hk⟩ := hrel
    rcases hk with ⟨rfl, rfl⟩ | ⟨rfl, rfl⟩ | ⟨rfl, rfl⟩ | ⟨rfl, rfl⟩
    · go_wp2
      go_round
      case rel => exact ⟨2, rfl, .inr (.inl ⟨rfl, rfl⟩)⟩
      case measure => simp [intOf]
    · go_wp2
      go_round
      case rel => exact ⟨3, rfl, .inr (.inr (.inl ⟨rfl, rfl⟩))⟩
      case measure => simp [intOf]
    · go_wp2
      go_round
      case rel => exact ⟨4, rfl, .inr (.inr (.inr ⟨rfl, rfl⟩))⟩
      case measure => simp [intOf]
    · go_wp2_with (go_at_call 54; (with_reducible refine (mayr_any (R : Int) (by omega) (by omega) _).mono ?_); rintro e w' ⟨rfl, rfl⟩; rw [hmay])
      go_ret2
      exact ⟨rfl, .inl ⟨R, HW.out, rfl⟩⟩
set_option maxHeartbeats 1000000 in
set_option maxRecDepth 100000 in
theorem wholer4_no (ad : Addr) (cp : Nat) (a b c d : UInt8) (x : Nat) (w : World) (ca : w.cell? ad = some (.int .u8 (x : Int))) (cb : w.cell? ⟨ad.block, ad.off + 1, none⟩ = some (.int .u8 (b.toNat : Int))) (cc : w.cell? ⟨ad.block, ad.off + 2, none⟩ = some (.int .u8 (c.toNat : Int))) (cd : w.cell? ⟨ad.block, ad.off + 3, none⟩ = some (.int .u8 (d.toNat : Int))) (HX : Hid (a.toNat = x)) (h0 : 240 ≤ x) (h1 : x ≤ 244) (hs : secB a b = true) (hc : contB c = true) (hd : contB d = false) :
    Calls Try.prog 41 #[.slice (some ad) 4 cp] w (WholePost [a, b, c, d] w) := by
  have d1 : 192 ≤ (x : Int) := by omega
  have d2 : decide ((x : Int) < 224) = false := by simp; omega
  have d3 : 224 ≤ (x : Int) := by omega
  have d4 : decide ((x : Int) < 240) = false := by simp; omega
  have d5 : 240 ≤ (x : Int) := by omega
  have d6 : (x : Int) < 248 := by omega
  have HW : Hid (wholeL [a, b, c, d] = none) := whole4_no a b c d hd
  have hb := secB_cont a b hs
  have e1 : bits .and .u8 (x : Int) 7 = ((x - 240 : Nat) : Int) := by rw [u8_and7 _ (by omega) (by omega)]; omega
  have e2 := m63 b hb
  have e3 := contB_yes b hb
  have e5 := m63 c hc
  have e6 := contB_yes c hc
  have e9 := contB_no d hd
  rw [contB_iff] at hc hb
  obtain ⟨m, hm⟩ : ∃ m, x - 240 = m := ⟨_, rfl⟩
  obtain ⟨v, hv⟩ : ∃ v, b.toNat - 128 = v := ⟨_, rfl⟩
  obtain ⟨u, hu⟩ : ∃ u, c.toNat - 128 = u := ⟨_, rfl⟩
  obtain ⟨R2, hR2⟩ : ∃ R, m * 64 + v = R := ⟨_, rfl⟩
  obtain ⟨R3, hR3⟩ : ∃ R, R2 * 64 + u = R := ⟨_, rfl⟩
  have hm2 : m < 8 := by omega
  have hv1 : v < 64 := by omega
  have hu1 : u < 64 := by omega
  have e4 := or6n m v R2 (by omega) hv1 hR2
  have e7 := or6n R2 u R3 (by omega) hu1 hR3
  have r3 : R2 < 1024 := by omega
  rw [hm] at e1
  rw [hv] at e2
  rw [hu] at e5
  clear hm hv hu hc hb hd hR2 hR3 hs
  go_enter Try.func41, Try.ntmps41
  go_wp2
  go_loop [7, 8] (fun r i => Wh3 m R2 R3 r i) (fun _ i => 4 - (intOf i).toNat)
  case atStart => exact ⟨1, rfl, .inl ⟨rfl, rfl⟩⟩
  case round =>
    obtain ⟨k, rfl, hk⟩ := hrel
    rcases hk with ⟨rfl, rfl⟩ | ⟨rfl, rfl⟩ | ⟨rfl, rfl⟩
    · go_wp2
      go_round
      case rel => exact ⟨2, rfl, .inr (.inl ⟨rfl, rfl⟩)⟩
      case measure => simp [intOf]
    · go_wp2
      go_round
      case rel => exact ⟨3, rfl, .inr (.inr ⟨rfl, rfl⟩)⟩
      case measure => simp [intOf]
    · go_wp2
      go_ret2
      exact ⟨rfl, .inr ⟨HW.out, 0, rfl⟩⟩

/-- The document's whole, behind a beginning. -/
theorem wholer_any (v : Value) (p : List UInt8) (b : UInt8) (B : Nat) (w : World) (hv : BS w B v (p ++ [b])) (hp : beginsL p = true) : Calls Try.prog 41 #[v] w (WholePost (p ++ [b]) w) := by
  match p, hp, hv with
  | [a], hp, hv =>
    rw [beg1_iff] at hp
    obtain ⟨ad, cp, rfl, _, _, ca, hcs⟩ := hv.lits
    have cb := hcs 0 b rfl
    obtain ⟨x, hx⟩ : ∃ x, a.toNat = x := ⟨_, rfl⟩
    rw [hx] at ca hp
    have HX : Hid (a.toNat = x) := hx
    by_cases h1 : x < 224
    · cases hc : contB b
      · exact wholer2_no ad cp a b x w ca cb HX hp.1 h1 hc
      · exact wholer2_yes ad cp a b x w ca cb HX hp.1 h1 hc
    by_cases h2 : x < 240
    · exact wholer2_3 ad cp a b x w ca cb HX (by omega) h2
    · exact wholer2_4 ad cp a b x w ca cb HX (by omega) hp.2
  | [a, b0], hp, hv =>
    have hs : secB a b0 = true := by rw [secB_iff]; rw [beg2_iff] at hp; exact hp.2.2
    rw [beg2_iff] at hp
    obtain ⟨ad, cp, rfl, _, _, ca, hcs⟩ := hv.lits
    have cb := hcs 0 b0 rfl
    have cc := hcs 1 b rfl
    obtain ⟨x, hx⟩ : ∃ x, a.toNat = x := ⟨_, rfl⟩
    rw [hx] at ca hp
    have HX : Hid (a.toNat = x) := hx
    by_cases h1 : x < 240
    · cases hc : contB b
      · exact wholer3_no ad cp a b0 b x w ca cb cc HX hp.1 h1 hs hc
      · exact wholer3_yes ad cp a b0 b x w ca cb cc HX hp.1 h1 hs hc
    · exact wholer3_4 ad cp a b0 b x w ca cb cc HX (by omega) hp.2.1
  | [a, b0, c0], hp, hv =>
    have hs : secB a b0 = true := by rw [secB_iff]; rw [beg3_iff] at hp; exact ⟨hp.2.2.1, hp.2.2.2.1⟩
    rw [beg3_iff] at hp
    obtain ⟨ad, cp, rfl, _, _, ca, hcs⟩ := hv.lits
    have cb := hcs 0 b0 rfl
    have cc := hcs 1 c0 rfl
    have cd := hcs 2 b rfl
    obtain ⟨x, hx⟩ : ∃ x, a.toNat = x := ⟨_, rfl⟩
    rw [hx] at ca hp
    have HX : Hid (a.toNat = x) := hx
    cases hd : contB b
    · exact wholer4_no ad cp a b0 c0 b x w ca cb cc cd HX hp.1 hp.2.1 hs hp.2.2.2.2 hd
    · exact wholer4_yes ad cp a b0 c0 b x w ca cb cc cd HX hp.1 hp.2.1 hs hp.2.2.2.2 hd
end Go.Proofs.Ytbimhhcmfhooaaa
