/- What is proved here: words for slices of bytes in memory over this translation (a slice that reads as a list of bytes; a row of bytes of the call's own), how they are kept, what append makes of them, what they are as a string; words for slices of runes in memory over this translation (a slice that reads as a list of runes; a row of runes of the call's own), how they are kept, what append makes of them, ; plain facts on UTF-8 as the document tells it: which bytes begin a rune, what a byte comes to behind others, what all come to; each rune's form comes back, bytes may be parted; no program is named; words for a row of bytes of the call's own that is made by make or written at a place: what it reads as behind it; no function of the program is named; contracts of the document's functions on UTF-8 (which runes may be, which bytes begin one, which are one): memory is left alone; a contract of the document's function that tells the rune that bytes are just a form of, behind a beginning: memory is left alone; contracts of the document's functions that take a byte behind others, all bytes, and that put a rune: in new memory; words for bytes of runes: masks, a byte of a number, runes as numbers; words for a rune's form in new memory; no function of the program is named. -/
import Derived.Test.YtlolgfgcgfjdjaaGreatDoorRows
import Derived.Test.YtlolgfgcgfjdjaaGreatDoorLebPlain
import Derived.WalkKit
import Derived.WalkSpells
import Derived.WalkLawsBesides
import Derived.Below
import Derived.Lib.Hide
import Derived.Maps.AppendAt
import Derived.Deep.AppendLies
import Derived.Deep.Draws
import Derived.OwnWalk
import Derived.Laws.BytesArg
import Derived.OpenShut
import Derived.Lib.SlBytesConst
import Derived.Laws.OwnMore
import Derived.Laws.MakeOwn
import Derived.Deep.OwnRows
import Derived.Laws.BitsLemmas
namespace Go.Proofs.YtlolgfgcgfjdjaaGreatDoor
open Go.RowKit
set_option linter.unusedVariables false
set_option linter.unusedSimpArgs false
set_option maxHeartbeats 400000
set_option maxRecDepth 100000
def vB (b : UInt8) : Value := .int .u8 (b.toNat : Int)
def vBs (l : List UInt8) : List Value := l.map vB
def OB (w : World) (base : Nat) (v : Value) (l : List UInt8) : Prop := w.ownsRow base 5 1 v l.length (vBs l)
def BS (w : World) (B : Nat) (v : Value) (l : List UInt8) : Prop :=
 ∃ A c, v = .slice A l.length c ∧ l.length ≤ c ∧ c ≤ maxLen ∧
  (0 < l.length → ∃ ad, A = some ad ∧ ad.block < B ∧ ∀ j b, l[j]? = some b → w.cell? (ad.add j) = some (vB b))
theorem block_add (a : Addr) (n : Nat) : (a.add n).block = a.block := by unfold Addr.add; split <;> rfl
theorem add_add (a : Addr) (i j : Nat) : (a.add i).add j = a.add (i + j) := by
 unfold Addr.add
 by_cases hi : i = 0 <;> by_cases hj : j = 0 <;> simp [hi, hj, Nat.add_assoc]
theorem vBs_one (l : List UInt8) : ∀ u ∈ vBs l, u.oneCell' = true := by
 intro u hu
 unfold vBs at hu
 rw [List.mem_map] at hu
 obtain ⟨b, _, rfl⟩ := hu
 rfl
section
variable {w w' : World} {B B' base : Nat} {v : Value} {l : List UInt8}
theorem BS.keep (h : BS w B v l) (hk : ∀ p : Addr, p.block < B → w'.cell? p = w.cell? p) : BS w' B v l := by
 obtain ⟨A, c, hv, h1, h2, h3⟩ := h
 refine ⟨A, c, hv, h1, h2, fun hl => ?_⟩
 obtain ⟨ad, hA, hb, hc⟩ := h3 hl
 exact ⟨ad, hA, hb, fun j b hj => (hk _ (by rw [block_add]; exact hb)).trans (hc j b hj)⟩
theorem BS.below (h : BS w B v l) (hb : Below B w w') : BS w' B v l := h.keep fun _ hp => hb.cell hp
theorem BS.more (h : BS w B v l) (hB : B ≤ B') : BS w B' v l := by
 obtain ⟨A, c, hv, h1, h2, h3⟩ := h
 refine ⟨A, c, hv, h1, h2, fun hl => ?_⟩
 obtain ⟨ad, hA, hb, hc⟩ := h3 hl
 exact ⟨ad, hA, by omega, hc⟩
theorem BS.alloc (h : BS w B v l) (hB : B ≤ w.heap.size) (o : Obj) : BS (w.alloc o) B v l := h.keep fun p hp => World.cell?_alloc_lt w o p (by omega)
theorem BS.nil (w : World) (B : Nat) : BS w B (.slice none 0 0) [] := ⟨none, 0, rfl, by simp, by simp [maxLen], fun h => absurd h (by simp)⟩
theorem BS.at_ (h : BS w B v l) : ∃ A c, v = .slice A l.length c ∧ l.length ≤ c ∧ c ≤ maxLen ∧
  ∀ k (hk : k < l.length), ∃ ad, A = some ad ∧ w.cell? (ad.add k) = some (vB (l[k]'hk)) := by
 obtain ⟨A, c, hv, h1, h2, h3⟩ := h
 refine ⟨A, c, hv, h1, h2, fun k hk => ?_⟩
 obtain ⟨ad, hA, _, hc⟩ := h3 (by omega)
 exact ⟨ad, hA, hc k _ (List.getElem?_eq_getElem hk)⟩
theorem OB.nil (w : World) (base : Nat) : OB w base (.slice none 0 0) [] := World.ownsRow_nil w base _ _
theorem OB.below (h : OB w base v l) (hb : Below w.heap.size w w') : OB w' base v l := by
 have hg : w.grownBy w' none := ⟨hb.os, hb.tape, hb.output, hb.size, fun i hi _ => hb.block i hi⟩
 unfold OB at h ⊢
 refine h.kept hg ?_
 cases hv : v.ownBlock with
 | none => exact Or.inl rfl
 | some k => exact Or.inr (by simp)
theorem OB.bs (h : OB w base v l) : BS w w.heap.size v l := by
 unfold OB at h
 rcases h.2 with ⟨rfl, hn⟩ | ⟨g, cap, cur, rfl, hbg, hg, hnc, hcm, hcs, htake⟩
 ·have : l = [] := List.eq_nil_of_length_eq_zero hn
  subst this
  exact BS.nil w _
 ·have hlt : g < w.heap.size := by
   rcases Nat.lt_or_ge g w.heap.size with hh | hh
   ·exact hh
   ·rw [Array.getElem?_eq_none hh] at hg; cases hg
  refine ⟨_, cap, rfl, hnc, hcm, fun _ => ⟨_, rfl, hlt, fun j b hj => ?_⟩⟩
  refine h.cells (g := g) rfl j (vB b) ?_
  unfold vBs
  rw [List.getElem?_map, hj]; rfl
end
theorem BS.cut {w : World} {B : Nat} {A : Option Addr} {n c : Nat} {l : List UInt8} (h : BS w B (.slice A n c) l) (k m j : Nat) (hk : k + m ≤ l.length) (hj : j = m) :
  BS w B (.slice (if c = k then A else Option.map (fun x => x.add k) A) j (c - k)) ((l.drop k).take m) := by
 subst hj
 obtain ⟨A', c', hv, h1, h2, h3⟩ := h
 simp only [Value.slice.injEq] at hv
 obtain ⟨rfl, rfl, rfl⟩ := hv
 have hlen : ((l.drop k).take j).length = j := by simp; omega
 refine ⟨_, c - k, by rw [hlen], by rw [hlen]; omega, by omega, fun hl => ?_⟩
 rw [hlen] at hl
 obtain ⟨ad, rfl, hb, hc⟩ := h3 (by omega)
 rw [if_neg (by omega)]
 refine ⟨ad.add k, rfl, by rw [block_add]; exact hb, fun i b hi => ?_⟩
 rw [add_add]
 refine hc _ b ?_
 rw [List.getElem?_take] at hi
 split at hi
 ·rw [List.getElem?_drop] at hi; exact hi
 ·cases hi
theorem BS.cutH {w : World} {B : Nat} {A : Option Addr} {n c : Nat} {l : List UInt8} (h : BS w B (.slice A n c) l) (m j : Nat) (hk : m ≤ l.length) (hj : j = m) :
  BS w B (.slice A j c) (l.take m) := by
 obtain ⟨A', c', hv, h1, h2, h3⟩ := h
 simp only [Value.slice.injEq] at hv
 obtain ⟨rfl, rfl, rfl⟩ := hv
 subst hj
 have hlen : (l.take j).length = j := by simp; omega
 refine ⟨A, c, by rw [hlen], by omega, h2, fun hl => ?_⟩
 rw [hlen] at hl
 obtain ⟨ad, rfl, hb, hc⟩ := h3 (by omega)
 refine ⟨ad, rfl, hb, fun i b hi => ?_⟩
 refine hc _ b ?_
 rw [List.getElem?_take] at hi
 split at hi
 ·exact hi
 ·cases hi
theorem BS.one (w : World) (b : UInt8) (t : TypeId) : BS (w.alloc (.cells #[vB b] t)) (w.heap.size + 1) (.slice (some ⟨w.heap.size, 0, none⟩) 1 1) [b] := by
 refine ⟨_, 1, rfl, by simp, by simp [maxLen], fun _ => ⟨_, rfl, by simp, fun j c hj => ?_⟩⟩
 match j, hj with
 | 0, hj =>
  simp at hj
  subst hj
  simp [Addr.add]
theorem vB_of (x : Int) (h0 : 0 ≤ x) (h1 : x < 256) : vB (UInt8.ofNat x.toNat) = .int .u8 x := by
 unfold vB
 rw [ofNat_toNat _ (by omega)]
 congr 1
 omega
theorem OB.alloc {w : World} {base : Nat} {v : Value} {l : List UInt8} (h : OB w base v l) (o : Obj) : OB (w.alloc o) base v l := World.ownsRow.alloc h o
theorem BS.lit (w : World) (l : List UInt8) (n : Nat) (cs : Array Value) (t : TypeId) (hn : n = l.length) (hcs : cs = (vBs l).toArray) (hm : l.length ≤ 1048576) :
  BS (w.alloc (.cells cs t)) (w.heap.size + 1) (.slice (some ⟨w.heap.size, 0, none⟩) n n) l := by
 subst hn
 subst hcs
 refine ⟨_, _, rfl, by simp, by simp [maxLen]; omega, fun _ => ⟨_, rfl, by simp, fun j b hj => ?_⟩⟩
 have h := World.news_of_block (heap_alloc_new w (.cells (vBs l).toArray t)) j (vB b)
 exact h (by simp [vBs, hj])
theorem BS.litM (w : World) (l : List UInt8) (n : Nat) (cs : Array Value) (t : TypeId) (fr : Nat × Nat) (hn : n = l.length) (hcs : cs = (vBs l).toArray) (hm : l.length ≤ 1048576) :
  BS (w.alloc (.cells cs t fr)) (w.heap.size + 1) (.slice (some ⟨w.heap.size, 0, none⟩) n n) l := by
 subst hn
 subst hcs
 refine ⟨_, _, rfl, by simp, by simp [maxLen]; omega, fun _ => ⟨_, rfl, by simp, fun j b hj => ?_⟩⟩
 have h := World.news_of_block (heap_alloc_new w (.cells (vBs l).toArray t fr)) j (vB b)
 exact h (by simp [vBs, hj])
theorem bs_row {W : World} {a : Addr} {len cap : Nat} {zs : List Int} (hl : len ≤ cap) (hm : cap ≤ maxLen) (hz : zs.length = cap)
  (hcell : ∀ i, i < zs.length → W.cell? (a.add i) = some (.int .u8 (zs.getD i 0))) (hwz : ∀ n ∈ zs, (Lit.int .u8 n).wf = true) : ∃ l, BS W W.heap.size (.slice (some a) len cap) l := by
 have hlen : ((zs.take len).map fun n => UInt8.ofNat n.toNat).length = len := by simp; omega
 refine ⟨(zs.take len).map fun n => UInt8.ofNat n.toNat, _, cap, by rw [hlen], by rw [hlen]; exact hl, hm, fun h0 => ⟨a, rfl, ?_, fun j b hj => ?_⟩⟩
 ·rw [hlen] at h0
  have h := hcell 0 (by omega)
  rw [show a.add 0 = a from by simp [Addr.add]] at h
  rcases Nat.lt_or_ge a.block W.heap.size with hh | hh
  ·exact hh
  ·simp [World.cell?, Array.getElem?_eq_none hh] at h
 ·have hj1 : j < len := by
   rcases Nat.lt_or_ge j len with hh | hh
   ·exact hh
   ·rw [List.getElem?_eq_none (by rw [hlen]; exact hh)] at hj; cases hj
  have hj2 : j < zs.length := by omega
  rw [hcell j hj2]
  rw [List.getElem?_map, List.getElem?_take, if_pos hj1, List.getElem?_eq_getElem hj2] at hj
  injection hj with hj
  subst hj
  have hw := bounds_u8 (hwz zs[j] (List.getElem_mem hj2))
  rw [vB_of zs[j] (by omega) (by omega)]
  simp [List.getD, List.getElem?_eq_getElem hj2]
theorem byteInfo : (Tryz.prog.info? 5).map (fun i => (i.zero, i.size, i.bytes)) = some (some (.int .u8 0), 1, 1) := by kernel_rfl
theorem run_app (w : World) (ty : TypeId) {base B : Nat} {v u : Value} {l m : List UInt8} (hown : OB w base v l) (hr : BS w B u m) (hlen : l.length + m.length ≤ 1099511627776) (hbase : base ≤ w.heap.size) :
  ∃ v' w', (Builtin.append_ #[22, 22] ty #[v, u]).run Tryz.prog w = .ok v' w' ∧ OB w' base v' (l ++ m) ∧ w.grownBy w' v.ownBlock ∧ Below base w w' ∧ (v'.ownBlock = v.ownBlock ∨ v'.ownBlock = some w.heap.size) := by
 obtain ⟨i0, hi0, hz0, hz1, hz2⟩ := info_parts byteInfo
 have hlt := World.ownsRow.lt hown
 have hfin : ∀ v' w', w'.ownsRow base 5 1 v' (l.length + m.length) (vBs l ++ vBs m) → OB w' base v' (l ++ m) := by
  intro v' w' h
  unfold OB vBs
  rw [List.length_append, List.map_append]
  exact h
 obtain ⟨A, c, rfl, h1, h2, h3⟩ := hr
 rcases Nat.eq_zero_or_pos m.length with h0 | h0
 ·have hm : m = [] := List.eq_nil_of_length_eq_zero h0
  subst hm
  refine ⟨v, w, ?_, by simpa using hown, World.grownBy.refl w _, Below.refl _ _, .inl rfl⟩
  rcases hown.2 with ⟨rfl, hn⟩ | ⟨g, cap, cur, rfl, _, _, hnc, _⟩
  ·cases A <;> simp [Builtin.append_, run_underlying Tryz.underlying22, sizeOf, typeInfo, hi0, Builtin.lenOf, Builtin.firstCells, loadCells, loadCellsFrom]
  ·cases A <;> simp [Builtin.append_, run_underlying Tryz.underlying22, sizeOf, typeInfo, hi0, Builtin.lenOf, Builtin.firstCells, hnc, storeCells, loadCells, loadCellsFrom]
 ·obtain ⟨ad, rfl, hb, hc⟩ := h3 h0
  obtain ⟨v', w', hrun, h4, h5, _, h6⟩ := run_append_own_at (P := Tryz.prog) w base 22 ty 5 i0 _ 1 1 Tryz.underlying22 hi0 hz0 hz1 hz2 rfl (by omega) v l.length (vBs l) hown ad m.length c (vBs m) (by simp [vBs])
   (fun j u hj => by
    unfold vBs at hj
    rw [List.getElem?_map] at hj
    cases hmj : m[j]? with
    | none => rw [hmj] at hj; cases hj
    | some b =>
     rw [hmj] at hj
     simp only [Option.map_some, Option.some.injEq] at hj
     subst hj
     exact hc j b hmj)
   (vBs_one m) (by simp only [maxLen]; omega) (by omega) hbase
  exact ⟨v', w', hrun, hfin v' w' h4, h5, (Below.refl _ _).grown h5 hbase (fun k hk => (hlt k hk).1), h6⟩
theorem wpl_app (w : World) {ops : Array Oper} {rest : List Oper} {o : Oper} {a : Act} {Q : Exit → Act → World → Prop} (hgd : o.guard = none) (s x : Operand)
  (ho : o.op = .call { callee := .builtin .append, args := #[s, x], argTypes := #[22, 22] })
  (base B : Nat) (v u : Value) (l m : List UInt8) (hs : a.eval s = v) (hx : a.eval x = u) (hown : OB w base v l) (hr : BS w B u m) (hlen : l.length + m.length ≤ 1099511627776) (hbase : base ≤ w.heap.size)
  (h : ∀ v' w', OB w' base v' (l ++ m) → w.grownBy w' v.ownBlock → Below base w w' → (v'.ownBlock = v.ownBlock ∨ v'.ownBlock = some w.heap.size) → wpList Tryz.prog ops Q rest (a.put o.dst v') w') :
  wpList Tryz.prog ops Q (o :: rest) a w := by
 refine wpList_plain hgd fun K hK => ?_
 obtain ⟨v', w', hrun, h2, h3, h4, h5⟩ := run_app w o.type hown hr hlen hbase
 unfold Oper.wp execOp
 simp only [ho, resolve, invoke, builtin, Sem.run_bind, Sem.run_pure, Result.andThen_ok, List.map_toArray, List.map_cons, List.map_nil, hs, hx, hrun]
 exact hK _ _ (h v' w' h2 h3 h4 h5)
def strB (l : List UInt8) : ByteArray := ⟨l.toArray⟩
theorem strB_toList (l : List UInt8) : (strB l).toList = l := by
 rw [ByteArray.toList_eq]
 rfl
theorem run_str {w : World} {B : Nat} {v : Value} {l : List UInt8} (h : BS w B v l) : (convert 22 9 v).run Tryz.prog w = .ok (.string (strB l)) w := by
 obtain ⟨A, c, rfl, h1, h2, h3⟩ := h
 rcases Nat.eq_zero_or_pos l.length with h0 | h0
 ·have hm : l = [] := List.eq_nil_of_length_eq_zero h0
  subst hm
  cases A with
  | none => exact run_convert_bytes_nil w 22 5 Tryz.underlying22 Tryz.underlying5 _ _ 9 Tryz.underlying9
  | some ad =>
   rw [run_convert_bytes_string w 22 9 5 _ _ c Tryz.underlying22 Tryz.underlying5 Tryz.underlying9,
    run_bytesToString w ad [].length c [] (by simp [loadCells, loadCellsFrom])]
   rfl
 ·obtain ⟨ad, rfl, _, hc⟩ := h3 h0
  have hl : (loadCells ad l.length).run Tryz.prog w = .ok ((l.map fun b => (b.toNat : Int)).map (Value.int .u8)).toArray w := by
   have := run_loadCells_list (P := Tryz.prog) w ad (vBs l) (fun j u hj => by
    unfold vBs at hj
    rw [List.getElem?_map] at hj
    cases hmj : l[j]? with
    | none => rw [hmj] at hj; cases hj
    | some b =>
     rw [hmj] at hj
     simp only [Option.map_some, Option.some.injEq] at hj
     subst hj
     exact hc j b hmj)
   have e : (l.map fun b => (b.toNat : Int)).map (Value.int .u8) = vBs l := by simp [vBs, vB]
   rw [e]
   simpa [vBs] using this
  rw [run_convert_bytes_string w 22 9 5 _ _ c Tryz.underlying22 Tryz.underlying5 Tryz.underlying9, run_bytesToString w ad _ c _ hl, foldl_push_bytes]
  congr 2
  simp [strB, Function.comp_def]
end Go.Proofs.YtlolgfgcgfjdjaaGreatDoor

namespace Go.Proofs.YtlolgfgcgfjdjaaGreatDoor
open Go.RowKit
set_option linter.unusedVariables false
set_option linter.unusedSimpArgs false
set_option maxHeartbeats 400000
set_option maxRecDepth 100000
def vR (b : Int) : Value := .int .i32 b
def vRs (l : List Int) : List Value := l.map vR
def OR (w : World) (base : Nat) (v : Value) (l : List Int) : Prop := w.ownsRow base 21 1 v l.length (vRs l)
def RS (w : World) (B : Nat) (v : Value) (l : List Int) : Prop :=
 ∃ A c, v = .slice A l.length c ∧ l.length ≤ c ∧ c ≤ maxLen ∧
  (0 < l.length → ∃ ad, A = some ad ∧ ad.block < B ∧ ∀ j b, l[j]? = some b → w.cell? (ad.add j) = some (vR b))
theorem vRs_one (l : List Int) : ∀ u ∈ vRs l, u.oneCell' = true := by
 intro u hu
 unfold vRs at hu
 rw [List.mem_map] at hu
 obtain ⟨b, _, rfl⟩ := hu
 rfl
section
variable {w w' : World} {B B' base : Nat} {v : Value} {l : List Int}
theorem RS.keep (h : RS w B v l) (hk : ∀ p : Addr, p.block < B → w'.cell? p = w.cell? p) : RS w' B v l := by
 obtain ⟨A, c, hv, h1, h2, h3⟩ := h
 refine ⟨A, c, hv, h1, h2, fun hl => ?_⟩
 obtain ⟨ad, hA, hb, hc⟩ := h3 hl
 exact ⟨ad, hA, hb, fun j b hj => (hk _ (by rw [block_add]; exact hb)).trans (hc j b hj)⟩
theorem RS.below (h : RS w B v l) (hb : Below B w w') : RS w' B v l := h.keep fun _ hp => hb.cell hp
theorem RS.more (h : RS w B v l) (hB : B ≤ B') : RS w B' v l := by
 obtain ⟨A, c, hv, h1, h2, h3⟩ := h
 refine ⟨A, c, hv, h1, h2, fun hl => ?_⟩
 obtain ⟨ad, hA, hb, hc⟩ := h3 hl
 exact ⟨ad, hA, by omega, hc⟩
theorem RS.alloc (h : RS w B v l) (hB : B ≤ w.heap.size) (o : Obj) : RS (w.alloc o) B v l := h.keep fun p hp => World.cell?_alloc_lt w o p (by omega)
theorem RS.nil (w : World) (B : Nat) : RS w B (.slice none 0 0) [] := ⟨none, 0, rfl, by simp, by simp [maxLen], fun h => absurd h (by simp)⟩
theorem RS.at_ (h : RS w B v l) : ∃ A c, v = .slice A l.length c ∧ l.length ≤ c ∧ c ≤ maxLen ∧
  ∀ k (hk : k < l.length), ∃ ad, A = some ad ∧ w.cell? (ad.add k) = some (vR (l[k]'hk)) := by
 obtain ⟨A, c, hv, h1, h2, h3⟩ := h
 refine ⟨A, c, hv, h1, h2, fun k hk => ?_⟩
 obtain ⟨ad, hA, _, hc⟩ := h3 (by omega)
 exact ⟨ad, hA, hc k _ (List.getElem?_eq_getElem hk)⟩
theorem OR.nil (w : World) (base : Nat) : OR w base (.slice none 0 0) [] := World.ownsRow_nil w base _ _
theorem OR.below (h : OR w base v l) (hb : Below w.heap.size w w') : OR w' base v l := by
 have hg : w.grownBy w' none := ⟨hb.os, hb.tape, hb.output, hb.size, fun i hi _ => hb.block i hi⟩
 unfold OR at h ⊢
 refine h.kept hg ?_
 cases hv : v.ownBlock with
 | none => exact Or.inl rfl
 | some k => exact Or.inr (by simp)
theorem OR.bs (h : OR w base v l) : RS w w.heap.size v l := by
 unfold OR at h
 rcases h.2 with ⟨rfl, hn⟩ | ⟨g, cap, cur, rfl, hbg, hg, hnc, hcm, hcs, htake⟩
 ·have : l = [] := List.eq_nil_of_length_eq_zero hn
  subst this
  exact RS.nil w _
 ·have hlt : g < w.heap.size := by
   rcases Nat.lt_or_ge g w.heap.size with hh | hh
   ·exact hh
   ·rw [Array.getElem?_eq_none hh] at hg; cases hg
  refine ⟨_, cap, rfl, hnc, hcm, fun _ => ⟨_, rfl, hlt, fun j b hj => ?_⟩⟩
  refine h.cells (g := g) rfl j (vR b) ?_
  unfold vRs
  rw [List.getElem?_map, hj]; rfl
end
theorem RS.cut {w : World} {B : Nat} {A : Option Addr} {n c : Nat} {l : List Int} (h : RS w B (.slice A n c) l) (k m j : Nat) (hk : k + m ≤ l.length) (hj : j = m) :
  RS w B (.slice (if c = k then A else Option.map (fun x => x.add k) A) j (c - k)) ((l.drop k).take m) := by
 subst hj
 obtain ⟨A', c', hv, h1, h2, h3⟩ := h
 simp only [Value.slice.injEq] at hv
 obtain ⟨rfl, rfl, rfl⟩ := hv
 have hlen : ((l.drop k).take j).length = j := by simp; omega
 refine ⟨_, c - k, by rw [hlen], by rw [hlen]; omega, by omega, fun hl => ?_⟩
 rw [hlen] at hl
 obtain ⟨ad, rfl, hb, hc⟩ := h3 (by omega)
 rw [if_neg (by omega)]
 refine ⟨ad.add k, rfl, by rw [block_add]; exact hb, fun i b hi => ?_⟩
 rw [add_add]
 refine hc _ b ?_
 rw [List.getElem?_take] at hi
 split at hi
 ·rw [List.getElem?_drop] at hi; exact hi
 ·cases hi
theorem RS.cutH {w : World} {B : Nat} {A : Option Addr} {n c : Nat} {l : List Int} (h : RS w B (.slice A n c) l) (m j : Nat) (hk : m ≤ l.length) (hj : j = m) :
  RS w B (.slice A j c) (l.take m) := by
 obtain ⟨A', c', hv, h1, h2, h3⟩ := h
 simp only [Value.slice.injEq] at hv
 obtain ⟨rfl, rfl, rfl⟩ := hv
 subst hj
 have hlen : (l.take j).length = j := by simp; omega
 refine ⟨A, c, by rw [hlen], by omega, h2, fun hl => ?_⟩
 rw [hlen] at hl
 obtain ⟨ad, rfl, hb, hc⟩ := h3 (by omega)
 refine ⟨ad, rfl, hb, fun i b hi => ?_⟩
 refine hc _ b ?_
 rw [List.getElem?_take] at hi
 split at hi
 ·exact hi
 ·cases hi
theorem RS.one (w : World) (b : Int) (t : TypeId) : RS (w.alloc (.cells #[vR b] t)) (w.heap.size + 1) (.slice (some ⟨w.heap.size, 0, none⟩) 1 1) [b] := by
 refine ⟨_, 1, rfl, by simp, by simp [maxLen], fun _ => ⟨_, rfl, by simp, fun j c hj => ?_⟩⟩
 match j, hj with
 | 0, hj =>
  simp at hj
  subst hj
  simp [Addr.add]
theorem OR.alloc {w : World} {base : Nat} {v : Value} {l : List Int} (h : OR w base v l) (o : Obj) : OR (w.alloc o) base v l := World.ownsRow.alloc h o
theorem RS.lit (w : World) (l : List Int) (n : Nat) (cs : Array Value) (t : TypeId) (hn : n = l.length) (hcs : cs = (vRs l).toArray) (hm : l.length ≤ 1048576) :
  RS (w.alloc (.cells cs t)) (w.heap.size + 1) (.slice (some ⟨w.heap.size, 0, none⟩) n n) l := by
 subst hn
 subst hcs
 refine ⟨_, _, rfl, by simp, by simp [maxLen]; omega, fun _ => ⟨_, rfl, by simp, fun j b hj => ?_⟩⟩
 have h := World.news_of_block (heap_alloc_new w (.cells (vRs l).toArray t)) j (vR b)
 exact h (by simp [vRs, hj])
theorem RS.litM (w : World) (l : List Int) (n : Nat) (cs : Array Value) (t : TypeId) (fr : Nat × Nat) (hn : n = l.length) (hcs : cs = (vRs l).toArray) (hm : l.length ≤ 1048576) :
  RS (w.alloc (.cells cs t fr)) (w.heap.size + 1) (.slice (some ⟨w.heap.size, 0, none⟩) n n) l := by
 subst hn
 subst hcs
 refine ⟨_, _, rfl, by simp, by simp [maxLen]; omega, fun _ => ⟨_, rfl, by simp, fun j b hj => ?_⟩⟩
 have h := World.news_of_block (heap_alloc_new w (.cells (vRs l).toArray t fr)) j (vR b)
 exact h (by simp [vRs, hj])
theorem runeInfo : (Tryz.prog.info? 21).map (fun i => (i.zero, i.size, i.bytes)) = some (some (.int .i32 0), 1, 4) := by kernel_rfl
theorem run_appR (w : World) (ty : TypeId) {base B : Nat} {v u : Value} {l m : List Int} (hown : OR w base v l) (hr : RS w B u m) (hlen : l.length + m.length ≤ 1099511627776) (hbase : base ≤ w.heap.size) :
  ∃ v' w', (Builtin.append_ #[91, 91] ty #[v, u]).run Tryz.prog w = .ok v' w' ∧ OR w' base v' (l ++ m) ∧ w.grownBy w' v.ownBlock ∧ Below base w w' ∧ (v'.ownBlock = v.ownBlock ∨ v'.ownBlock = some w.heap.size) := by
 obtain ⟨i0, hi0, hz0, hz1, hz2⟩ := info_parts runeInfo
 have hlt := World.ownsRow.lt hown
 have hfin : ∀ v' w', w'.ownsRow base 21 1 v' (l.length + m.length) (vRs l ++ vRs m) → OR w' base v' (l ++ m) := by
  intro v' w' h
  unfold OR vRs
  rw [List.length_append, List.map_append]
  exact h
 obtain ⟨A, c, rfl, h1, h2, h3⟩ := hr
 rcases Nat.eq_zero_or_pos m.length with h0 | h0
 ·have hm : m = [] := List.eq_nil_of_length_eq_zero h0
  subst hm
  refine ⟨v, w, ?_, by simpa using hown, World.grownBy.refl w _, Below.refl _ _, .inl rfl⟩
  rcases hown.2 with ⟨rfl, hn⟩ | ⟨g, cap, cur, rfl, _, _, hnc, _⟩
  ·cases A <;> simp [Builtin.append_, run_underlying Tryz.underlying91, sizeOf, typeInfo, hi0, Builtin.lenOf, Builtin.firstCells, loadCells, loadCellsFrom]
  ·cases A <;> simp [Builtin.append_, run_underlying Tryz.underlying91, sizeOf, typeInfo, hi0, Builtin.lenOf, Builtin.firstCells, hnc, storeCells, loadCells, loadCellsFrom]
 ·obtain ⟨ad, rfl, hb, hc⟩ := h3 h0
  obtain ⟨v', w', hrun, h4, h5, _, h6⟩ := run_append_own_at (P := Tryz.prog) w base 91 ty 21 i0 _ 1 4 Tryz.underlying91 hi0 hz0 hz1 hz2 rfl (by omega) v l.length (vRs l) hown ad m.length c (vRs m) (by simp [vRs])
   (fun j u hj => by
    unfold vRs at hj
    rw [List.getElem?_map] at hj
    cases hmj : m[j]? with
    | none => rw [hmj] at hj; cases hj
    | some b =>
     rw [hmj] at hj
     simp only [Option.map_some, Option.some.injEq] at hj
     subst hj
     exact hc j b hmj)
   (vRs_one m) (by simp only [maxLen]; omega) (by omega) hbase
  exact ⟨v', w', hrun, hfin v' w' h4, h5, (Below.refl _ _).grown h5 hbase (fun k hk => (hlt k hk).1), h6⟩
theorem wpl_appR (w : World) {ops : Array Oper} {rest : List Oper} {o : Oper} {a : Act} {Q : Exit → Act → World → Prop} (hgd : o.guard = none) (s x : Operand)
  (ho : o.op = .call { callee := .builtin .append, args := #[s, x], argTypes := #[91, 91] })
  (base B : Nat) (v u : Value) (l m : List Int) (hs : a.eval s = v) (hx : a.eval x = u) (hown : OR w base v l) (hr : RS w B u m) (hlen : l.length + m.length ≤ 1099511627776) (hbase : base ≤ w.heap.size)
  (h : ∀ v' w', OR w' base v' (l ++ m) → w.grownBy w' v.ownBlock → Below base w w' → (v'.ownBlock = v.ownBlock ∨ v'.ownBlock = some w.heap.size) → wpList Tryz.prog ops Q rest (a.put o.dst v') w') :
  wpList Tryz.prog ops Q (o :: rest) a w := by
 refine wpList_plain hgd fun K hK => ?_
 obtain ⟨v', w', hrun, h2, h3, h4, h5⟩ := run_appR w o.type hown hr hlen hbase
 unfold Oper.wp execOp
 simp only [ho, resolve, invoke, builtin, Sem.run_bind, Sem.run_pure, Result.andThen_ok, List.map_toArray, List.map_cons, List.map_nil, hs, hx, hrun]
 exact hK _ _ (h v' w' h2 h3 h4 h5)
end Go.Proofs.YtlolgfgcgfjdjaaGreatDoor

namespace Go.Proofs.YtlolgfgcgfjdjaaGreatDoor
set_option linter.unusedVariables false
set_option linter.unusedSimpArgs false
set_option maxHeartbeats 400000
set_option maxRecDepth 100000
def mayR (r : Int) : Bool := decide (0 ≤ r) && decide (r ≤ 1114111) && (decide (r < 55296) || decide (57343 < r))
def contB (b : UInt8) : Bool := decide (128 ≤ b.toNat) && decide (b.toNat < 192)
def loB (a : Nat) : Nat := if a = 224 then 160 else if a = 240 then 144 else 128
def hiB (a : Nat) : Nat := if a = 237 then 159 else if a = 244 then 143 else 191
theorem hiB_le (a : Nat) : hiB a ≤ 191 := by
 unfold hiB
 split
 ·omega
 ·split <;> omega
def secB (a b : UInt8) : Bool := decide (loB a.toNat ≤ b.toNat) && decide (b.toNat ≤ hiB a.toNat)
theorem secB_iff (a b : UInt8) : secB a b = true ↔ loB a.toNat ≤ b.toNat ∧ b.toNat ≤ hiB a.toNat := by simp [secB]
def beginsL : List UInt8 → Bool
 | [a] => decide (194 ≤ a.toNat) && decide (a.toNat ≤ 244)
 | [a, b] => decide (224 ≤ a.toNat) && decide (a.toNat ≤ 244) && secB a b
 | [a, b, c] => decide (240 ≤ a.toNat) && decide (a.toNat ≤ 244) && secB a b && contB c
 | _ => false
def wholeL : List UInt8 → Option Nat
 | [a] => if a.toNat < 128 then some a.toNat else none
 | [a, b] => if (decide (194 ≤ a.toNat) && decide (a.toNat < 224) && contB b) = true then some ((a.toNat - 192) * 64 + (b.toNat - 128)) else none
 | [a, b, c] => if (decide (224 ≤ a.toNat) && decide (a.toNat < 240) && secB a b && contB c) = true then some ((a.toNat - 224) * 4096 + (b.toNat - 128) * 64 + (c.toNat - 128)) else none
 | [a, b, c, d] => if (decide (240 ≤ a.toNat) && decide (a.toNat ≤ 244) && secB a b && contB c && contB d) = true then some ((a.toNat - 240) * 262144 + (b.toNat - 128) * 4096 + (c.toNat - 128) * 64 + (d.toNat - 128)) else none
 | _ => none
def firstL (b : UInt8) (out : List Nat) : List UInt8 × List Nat :=
 if b.toNat < 128 then ([], out ++ [b.toNat]) else if beginsL [b] then ([b], out) else ([], out ++ [65533])
def stepL (p : List UInt8) (b : UInt8) : List UInt8 × List Nat :=
 if beginsL p = true then
  match wholeL (p ++ [b]) with
  | some r => ([], [r])
  | none => if beginsL (p ++ [b]) then (p ++ [b], []) else firstL b [65533]
 else firstL b []
def allF (s : List UInt8 × List Nat) (l : List UInt8) : List UInt8 × List Nat := l.foldl (fun s b => ((stepL s.1 b).1, s.2 ++ (stepL s.1 b).2)) s
def formN (r : Nat) : List UInt8 :=
 if r < 128 then [UInt8.ofNat r]
 else if r < 2048 then [UInt8.ofNat (192 + r / 64), UInt8.ofNat (128 + r % 64)]
 else if r < 65536 then [UInt8.ofNat (224 + r / 4096), UInt8.ofNat (128 + r / 64 % 64), UInt8.ofNat (128 + r % 64)]
 else [UInt8.ofNat (240 + r / 262144), UInt8.ofNat (128 + r / 4096 % 64), UInt8.ofNat (128 + r / 64 % 64), UInt8.ofNat (128 + r % 64)]
def asR (r : Int) : Nat := if mayR r then r.toNat else 65533
def formL (r : Int) : List UInt8 := formN (asR r)
theorem allF_nil (s : List UInt8 × List Nat) : allF s [] = s := rfl
theorem allF_cons (s : List UInt8 × List Nat) (b : UInt8) (l : List UInt8) : allF s (b :: l) = allF ((stepL s.1 b).1, s.2 ++ (stepL s.1 b).2) l := rfl
theorem allF_step {p q : List UInt8} {t : List Nat} {b : UInt8} (h : stepL p b = (q, t)) (o : List Nat) (l : List UInt8) : allF (p, o) (b :: l) = allF (q, o ++ t) l := by rw [allF_cons]; simp only [h]
theorem allF_out (p : List UInt8) (o : List Nat) (l : List UInt8) : allF (p, o) l = ((allF (p, []) l).1, o ++ (allF (p, []) l).2) := by
 induction l generalizing p o with
 | nil => simp [allF_nil]
 | cons b l ih =>
  rw [allF_cons, allF_cons, ih, ih (stepL p b).1 ([] ++ (stepL p b).2)]
  simp
theorem beginsL_len (p : List UInt8) (h : beginsL p = true) : 1 ≤ p.length ∧ p.length ≤ 3 := by
 match p, h with
 | [a], _ => simp
 | [a, b], _ => simp
 | [a, b, c], _ => simp
theorem firstL_pend (b : UInt8) (o : List Nat) : (firstL b o).1 = [] ∨ beginsL (firstL b o).1 = true := by
 unfold firstL
 split
 ·exact .inl rfl
 ·split
  ·exact .inr (by assumption)
  ·exact .inl rfl
theorem stepL_pend (p : List UInt8) (b : UInt8) : (stepL p b).1 = [] ∨ beginsL (stepL p b).1 = true := by
 unfold stepL
 split
 ·split
  ·exact .inl rfl
  ·split
   ·exact .inr (by assumption)
   ·exact firstL_pend _ _
 ·exact firstL_pend _ _
theorem firstL_len (b : UInt8) (o : List Nat) : (firstL b o).1.length ≤ 1 ∧ (firstL b o).2.length ≤ o.length + 1 := by
 unfold firstL
 split
 ·simp
 ·split <;> simp
theorem stepL_len (p : List UInt8) (b : UInt8) : (stepL p b).1.length ≤ 3 ∧ (stepL p b).2.length ≤ 2 := by
 unfold stepL
 split
 ·split
  ·simp
  ·split
   ·rename_i h
    have := beginsL_len _ h
    exact ⟨this.2, by simp⟩
   ·have := firstL_len b [65533]
    simp at this
    omega
 ·have := firstL_len b []
  simp at this
  omega
theorem firstL_lt (b : UInt8) (o : List Nat) (ho : ∀ r ∈ o, r < 1114112) : ∀ r ∈ (firstL b o).2, r < 1114112 := by
 have := b.toNat_lt
 unfold firstL
 split
 ·intro r hr
  rw [List.mem_append, List.mem_singleton] at hr
  rcases hr with hr | hr
  ·exact ho r hr
  ·omega
 ·split
  ·exact ho
  ·intro r hr
   rw [List.mem_append, List.mem_singleton] at hr
   rcases hr with hr | hr
   ·exact ho r hr
   ·omega
theorem wholeL_lt (l : List UInt8) (r : Nat) (h : wholeL l = some r) : r < 1114112 := by
 match l, h with
 | [a], h =>
  have := a.toNat_lt
  simp only [wholeL] at h
  split at h <;> simp at h
  omega
 | [a, b], h =>
  have := a.toNat_lt
  have := b.toNat_lt
  simp only [wholeL] at h
  split at h <;> simp at h
  omega
 | [a, b, c], h =>
  have := a.toNat_lt
  have := b.toNat_lt
  have := c.toNat_lt
  simp only [wholeL] at h
  split at h
  ·rename_i hc
   simp [contB] at hc
   simp at h
   omega
  ·simp at h
 | [a, b, c, d], h =>
  have := b.toNat_lt
  have := c.toNat_lt
  have := d.toNat_lt
  simp only [wholeL] at h
  split at h
  ·rename_i hc
   simp only [Bool.and_eq_true, secB_iff, decide_eq_true_eq, contB] at hc
   simp at h
   have := hiB_le a.toNat
   by_cases h4 : a.toNat = 244
   ·have h5 : hiB a.toNat = 143 := by rw [h4]; rfl
    omega
   ·omega
  ·simp at h
theorem stepL_lt (p : List UInt8) (b : UInt8) : ∀ r ∈ (stepL p b).2, r < 1114112 := by
 unfold stepL
 split
 ·split
  ·rename_i r h
   intro q hq
   simp at hq
   subst hq
   exact wholeL_lt _ _ h
  ·split
   ·simp
   ·exact firstL_lt b _ (by simp)
 ·exact firstL_lt b _ (by simp)
theorem step_new (b : UInt8) (h : b.toNat < 128) : stepL [] b = ([], [b.toNat]) := by
 simp [stepL, beginsL, firstL, h]
theorem step_lead (b : UInt8) (h : beginsL [b] = true) : stepL [] b = ([b], []) := by
 have h2 : ¬ b.toNat < 128 := by simp [beginsL] at h; omega
 simp only [stepL, firstL, h2, h]
 simp [beginsL]
theorem step_whole (p : List UInt8) (b : UInt8) (r : Nat) (hp : beginsL p = true) (h : wholeL (p ++ [b]) = some r) : stepL p b = ([], [r]) := by
 simp [stepL, hp, h]
theorem step_more (p : List UInt8) (b : UInt8) (q : List UInt8) (hq : p ++ [b] = q) (hp : beginsL p = true) (h : wholeL (p ++ [b]) = none) (h2 : beginsL (p ++ [b]) = true) : stepL p b = (q, []) := by
 subst hq
 simp [stepL, hp, h, h2]
theorem asR_ok (r : Int) : asR r < 1114112 ∧ (asR r < 55296 ∨ 57343 < asR r) := by
 unfold asR mayR
 split
 ·rename_i h
  simp at h
  omega
 ·omega
theorem formN_back (r : Nat) (h1 : r < 1114112) (h2 : r < 55296 ∨ 57343 < r) (o : List Nat) : allF ([], o) (formN r) = ([], o ++ [r]) := by
 rw [allF_out]
 unfold formN
 split
 ·rename_i h
  have e : (UInt8.ofNat r).toNat = r := ofNat_toNat _ (by omega)
  rw [allF_step (step_new _ (by rw [e]; exact h)), allF_nil, e]
  rfl
 split
 ·rename_i h0 h
  have ea : (UInt8.ofNat (192 + r / 64)).toNat = 192 + r / 64 := ofNat_toNat _ (by omega)
  have eb : (UInt8.ofNat (128 + r % 64)).toNat = 128 + r % 64 := ofNat_toNat _ (by omega)
  generalize UInt8.ofNat (192 + r / 64) = a at *
  generalize UInt8.ofNat (128 + r % 64) = b at *
  have p1 : beginsL [a] = true := by simp [beginsL]; omega
  have q1 : wholeL ([a] ++ [b]) = some r := by
   show wholeL [a, b] = some r
   simp only [wholeL]
   rw [if_pos (by simp [contB]; omega)]
   exact congrArg some (by omega)
  rw [allF_step (step_lead _ p1), allF_step (step_whole _ _ r p1 q1)]
  rfl
 split
 ·rename_i h0 h00 h
  have ea : (UInt8.ofNat (224 + r / 4096)).toNat = 224 + r / 4096 := ofNat_toNat _ (by omega)
  have eb : (UInt8.ofNat (128 + r / 64 % 64)).toNat = 128 + r / 64 % 64 := ofNat_toNat _ (by omega)
  have ec : (UInt8.ofNat (128 + r % 64)).toNat = 128 + r % 64 := ofNat_toNat _ (by omega)
  generalize UInt8.ofNat (224 + r / 4096) = a at *
  generalize UInt8.ofNat (128 + r / 64 % 64) = b at *
  generalize UInt8.ofNat (128 + r % 64) = c at *
  have hsec : secB a b = true := by
   rw [secB_iff]
   unfold loB hiB
   refine ⟨?_, ?_⟩
   ·split
    ·omega
    ·split <;> omega
   ·split
    ·omega
    ·split <;> omega
  have p1 : beginsL [a] = true := by simp [beginsL]; omega
  have n1 : wholeL ([a] ++ [b]) = none := by
   show wholeL [a, b] = none
   simp only [wholeL]
   rw [if_neg (by simp; omega)]
  have p2 : beginsL ([a] ++ [b]) = true := by
   show beginsL [a, b] = true
   simp [beginsL, hsec]
   omega
  have q1 : wholeL ([a, b] ++ [c]) = some r := by
   show wholeL [a, b, c] = some r
   simp only [wholeL]
   rw [if_pos (by simp [contB, hsec]; omega)]
   exact congrArg some (by omega)
  rw [allF_step (step_lead _ p1), allF_step (step_more _ _ [a, b] rfl p1 n1 p2), allF_step (step_whole [a, b] c r p2 q1)]
  rfl
 ·rename_i h0 h00 h
  have ea : (UInt8.ofNat (240 + r / 262144)).toNat = 240 + r / 262144 := ofNat_toNat _ (by omega)
  have eb : (UInt8.ofNat (128 + r / 4096 % 64)).toNat = 128 + r / 4096 % 64 := ofNat_toNat _ (by omega)
  have ec : (UInt8.ofNat (128 + r / 64 % 64)).toNat = 128 + r / 64 % 64 := ofNat_toNat _ (by omega)
  have ed : (UInt8.ofNat (128 + r % 64)).toNat = 128 + r % 64 := ofNat_toNat _ (by omega)
  generalize UInt8.ofNat (240 + r / 262144) = a at *
  generalize UInt8.ofNat (128 + r / 4096 % 64) = b at *
  generalize UInt8.ofNat (128 + r / 64 % 64) = c at *
  generalize UInt8.ofNat (128 + r % 64) = d at *
  have hsec : secB a b = true := by
   rw [secB_iff]
   unfold loB hiB
   refine ⟨?_, ?_⟩
   ·split
    ·omega
    ·split <;> omega
   ·split
    ·omega
    ·split <;> omega
  have hc : contB c = true := by simp [contB]; omega
  have p1 : beginsL [a] = true := by simp [beginsL]; omega
  have n1 : wholeL ([a] ++ [b]) = none := by
   show wholeL [a, b] = none
   simp only [wholeL]
   rw [if_neg (by simp; omega)]
  have p2 : beginsL ([a] ++ [b]) = true := by
   show beginsL [a, b] = true
   simp [beginsL, hsec]
   omega
  have n2 : wholeL ([a, b] ++ [c]) = none := by
   show wholeL [a, b, c] = none
   simp only [wholeL]
   rw [if_neg (by simp; omega)]
  have p3 : beginsL ([a, b] ++ [c]) = true := by
   show beginsL [a, b, c] = true
   simp [beginsL, hsec, hc]
   omega
  have q1 : wholeL ([a, b, c] ++ [d]) = some r := by
   show wholeL [a, b, c, d] = some r
   simp only [wholeL]
   rw [if_pos (by simp [contB, hsec]; omega)]
   exact congrArg some (by omega)
  rw [allF_step (step_lead _ p1), allF_step (step_more _ _ [a, b] rfl p1 n1 p2), allF_step (step_more [a, b] c [a, b, c] rfl p2 n2 p3), allF_step (step_whole [a, b, c] d r p3 q1)]
  rfl
theorem formN_len (r : Nat) : 1 ≤ (formN r).length ∧ (formN r).length ≤ 4 := by
 unfold formN
 split
 ·simp
 split
 ·simp
 split <;> simp
end Go.Proofs.YtlolgfgcgfjdjaaGreatDoor

namespace Go.Proofs.YtlolgfgcgfjdjaaGreatDoor
open Go.RowKit
set_option linter.unusedVariables false
set_option linter.unusedSimpArgs false
set_option maxHeartbeats 400000
set_option maxRecDepth 100000
theorem BS.cellC {w : World} {B n c : Nat} {A : Option Addr} {l : List UInt8} (h : BS w B (.slice A n c) l) (k : Nat) (hk : k < l.length) : ∃ ad, A = some ad ∧ w.cell? (ad.add k) = some (vB l[k]) := by
 obtain ⟨A', c', hv, _, _, h3⟩ := h.at_
 simp only [Value.slice.injEq] at hv
 obtain ⟨rfl, _, _⟩ := hv
 exact h3 k hk
section
variable {w : World} {base g n cap : Nat} {l : List UInt8}
theorem OB.len (h : OB w base (.slice (some ⟨g, 0, none⟩) n cap) l) : n = l.length := by
 unfold OB at h
 rcases h.2 with ⟨hv, _⟩ | ⟨g', cap', cur, hv, _⟩
 ·cases hv
 ·simp only [Value.slice.injEq] at hv
  exact hv.2.1
theorem OB.cellAt (h : OB w base (.slice (some ⟨g, 0, none⟩) l.length cap) l) (j : Nat) (hj : j < l.length) : w.cell? ⟨g, j, none⟩ = some (vB l[j]) := by
 unfold OB at h
 rw [World.ownsRow.cellAt h j (by omega)]
 simp [vBs, hj]
theorem OB.frozenAt (h : OB w base (.slice (some ⟨g, 0, none⟩) l.length cap) l) (j : Nat) : w.frozen? ⟨g, j, none⟩ = false := World.ownsRow.frozenAt h j
theorem OB.stored (h : OB w base (.slice (some ⟨g, 0, none⟩) l.length cap) l) (j : Nat) (x : UInt8) : OB (w.setCell ⟨g, j, none⟩ (vB x)) base (.slice (some ⟨g, 0, none⟩) l.length cap) (l.set j x) := by
 have := (World.ownsRow.stored h j (vB x)).1
 unfold OB
 rw [List.length_set]
 have e : vBs (l.set j x) = (vBs l).set j (vB x) := by simp [vBs, List.map_set]
 rw [e]
 exact this
theorem OB.block (h : OB w base (.slice (some ⟨g, 0, none⟩) n cap) l) : base ≤ g ∧ g < w.heap.size := World.ownsRow.lt h g rfl
end
theorem madeZ (n : Nat) : madeCells #[.int .u8 0] n = (vBs (List.replicate n 0)).toArray := by
 apply Array.ext_getElem?
 intro i
 simp only [madeCells, vBs, List.map_replicate, List.getElem?_toArray, Array.getElem?_map]
 by_cases h : i < n
 ·simp [h, vB, Nat.mod_one]
 ·simp [h]
theorem OB.made (w : World) (n : Nat) (hm : n ≤ 1048576) : OB (w.alloc (.cells (madeCells #[.int .u8 0] n) 5)) w.heap.size (.slice (some ⟨w.heap.size, 0, none⟩) n n) (List.replicate n 0) := by
 have := World.ownsRow_lit (base := w.heap.size) (e := 5) (size := 1) w (madeCells #[.int .u8 0] n) n (Nat.le_refl _) (by simp [maxLen]; omega) (by rw [size_madeCells]; omega)
 unfold OB
 rw [List.length_replicate]
 rw [madeZ] at this ⊢
 exact this
end Go.Proofs.YtlolgfgcgfjdjaaGreatDoor

namespace Go.Proofs.YtlolgfgcgfjdjaaGreatDoor
open Go.RowKit
set_option linter.unusedVariables false
set_option linter.unusedSimpArgs false
set_option maxHeartbeats 400000
set_option maxRecDepth 100000
theorem mayR_true {r : Int} (h0 : 0 ≤ r) (h1 : r ≤ 1114111) (h2 : r < 55296 ∨ 57343 < r) : mayR r = true := by simp [mayR, h0, h1, h2]
theorem mayR_false {r : Int} (h : r < 0 ∨ 1114111 < r ∨ (55296 ≤ r ∧ r ≤ 57343)) : mayR r = false := by
 rw [Bool.eq_false_iff]
 intro hh
 simp [mayR] at hh
 omega
theorem BS.lits {w : World} {B : Nat} {v : Value} {a : UInt8} {l : List UInt8} (h : BS w B v (a :: l)) : ∃ ad c, v = .slice (some ad) (a :: l).length c ∧ (a :: l).length ≤ c ∧ c ≤ maxLen ∧ w.cell? ad = some (.int .u8 (a.toNat : Int)) ∧ ∀ j b, l[j]? = some b → w.cell? ⟨ad.block, ad.off + (j + 1), none⟩ = some (.int .u8 (b.toNat : Int)) := by
 obtain ⟨A, c, rfl, h1, h2, h3⟩ := h
 obtain ⟨ad, rfl, _, hc⟩ := h3 (by simp)
 refine ⟨ad, c, rfl, h1, h2, ?_, fun j b hj => ?_⟩
 ·have := hc 0 a rfl
  rw [show ad.add 0 = ad from by simp [Addr.add]] at this
  exact this
 ·have := hc (j + 1) b (by simpa using hj)
  rw [show ad.add (j + 1) = ⟨ad.block, ad.off + (j + 1), none⟩ from by simp [Addr.add]] at this
  exact this
theorem lo_other (x : Nat) (h1 : x ≠ 224) (h2 : x ≠ 240) : loB x = 128 := by unfold loB; rw [if_neg h1, if_neg h2]
theorem hi_other (x : Nat) (h1 : x ≠ 237) (h2 : x ≠ 244) : hiB x = 191 := by unfold hiB; rw [if_neg h1, if_neg h2]
theorem beg1_iff (a : UInt8) : beginsL [a] = true ↔ 194 ≤ a.toNat ∧ a.toNat ≤ 244 := by simp [beginsL]
theorem beg2_iff (a b : UInt8) : beginsL [a, b] = true ↔ 224 ≤ a.toNat ∧ a.toNat ≤ 244 ∧ loB a.toNat ≤ b.toNat ∧ b.toNat ≤ hiB a.toNat := by simp [beginsL, secB, and_assoc]
theorem beg3_iff (a b c : UInt8) : beginsL [a, b, c] = true ↔ 240 ≤ a.toNat ∧ a.toNat ≤ 244 ∧ loB a.toNat ≤ b.toNat ∧ b.toNat ≤ hiB a.toNat ∧ contB c = true := by simp [beginsL, secB, and_assoc]
theorem lo_ge (x : Nat) : 128 ≤ loB x := by
 unfold loB
 split
 ·omega
 ·split <;> omega
theorem contB_iff (b : UInt8) : contB b = true ↔ 128 ≤ b.toNat ∧ b.toNat < 192 := by simp [contB]
def BegPost (l : List UInt8) (w : World) (e : Ending) (w' : World) : Prop := e = .returned (.bool (beginsL l)) ∧ w = w'
theorem begPost_of {l : List UInt8} {w : World} {b : Bool} (h : b = beginsL l) : BegPost l w (.returned (.bool b)) w := ⟨by rw [h], rfl⟩
end Go.Proofs.YtlolgfgcgfjdjaaGreatDoor

namespace Go.Proofs.YtlolgfgcgfjdjaaGreatDoor
open Go.RowKit
set_option linter.unusedVariables false
set_option linter.unusedSimpArgs false
set_option maxHeartbeats 400000
set_option maxRecDepth 100000
theorem whole2_yes (a b : UInt8) (h0 : 194 ≤ a.toNat) (h1 : a.toNat < 224) (hc : contB b = true) : wholeL [a, b] = some ((a.toNat - 192) * 64 + (b.toNat - 128)) := by
 simp only [wholeL]
 rw [if_pos (by simp [hc]; omega)]
theorem m63 (b : UInt8) (h : contB b = true) : bits .and .u8 (b.toNat : Int) 63 = ((b.toNat - 128 : Nat) : Int) := by
 rw [contB_iff] at h
 rw [u8_and63 _ (by omega) (by omega)]
 omega
theorem whole3_yes (a b c : UInt8) (h0 : 224 ≤ a.toNat) (h1 : a.toNat < 240) (hs : secB a b = true) (hc : contB c = true) : wholeL [a, b, c] = some ((a.toNat - 224) * 4096 + (b.toNat - 128) * 64 + (c.toNat - 128)) := by
 simp only [wholeL]
 rw [if_pos (by simp [hs, hc]; omega)]
theorem whole4_yes (a b c d : UInt8) (h0 : 240 ≤ a.toNat) (h1 : a.toNat ≤ 244) (hs : secB a b = true) (hc : contB c = true) (hd : contB d = true) : wholeL [a, b, c, d] = some ((a.toNat - 240) * 262144 + (b.toNat - 128) * 4096 + (c.toNat - 128) * 64 + (d.toNat - 128)) := by
 simp only [wholeL]
 rw [if_pos (by simp [hs, hc, hd]; omega)]
theorem or6n (m v R : Nat) (h0 : m < 1000000) (h1 : v < 64) (hR : m * 64 + v = R) : bits .or .i32 ((m : Int) * 64) (v : Int) = (R : Int) := by
 rw [i32_or6 _ _ (by omega) (by omega) (by omega) (by omega) (by omega)]
 omega
theorem secB_cont (a b : UInt8) (h : secB a b = true) : contB b = true := by
 rw [secB_iff] at h
 have h1 := lo_ge a.toNat
 have h2 := hiB_le a.toNat
 rw [contB_iff]
 omega
end Go.Proofs.YtlolgfgcgfjdjaaGreatDoor

namespace Go.Proofs.YtlolgfgcgfjdjaaGreatDoor
open Go.RowKit
set_option linter.unusedVariables false
set_option linter.unusedSimpArgs false
set_option maxHeartbeats 400000
set_option maxRecDepth 100000
def ints (l : List Nat) : List Int := List.map (fun n : Nat => Int.ofNat n) l
def BN (w : World) (lo : Nat) (v : Value) (l : List UInt8) : Prop := BS w w.heap.size v l ∧ ∀ ad n c, v = .slice (some ad) n c → 0 < l.length → lo ≤ ad.block
theorem BN.nil (w : World) (lo : Nat) : BN w lo (.slice none 0 0) [] := ⟨BS.nil _ _, fun _ _ _ h => by cases h⟩
theorem OB.bn {w : World} {base : Nat} {v : Value} {l : List UInt8} (h : OB w base v l) : BN w base v l := by
 refine ⟨h.bs, fun ad n c hv _ => ?_⟩
 subst hv
 exact (World.ownsRow.lt h ad.block rfl).1
theorem BN.grown {w w' : World} {lo : Nat} {v : Value} {l : List UInt8} {row : Option Nat} (h : BN w lo v l) (hg : w.grownBy w' row) (hrow : ∀ k, row = some k → k < lo) : BN w' lo v l := by
 obtain ⟨⟨A, c, hv, h1, h2, h3⟩, h4⟩ := h
 refine ⟨⟨A, c, hv, h1, h2, fun hl => ?_⟩, h4⟩
 obtain ⟨ad, hA, hb, hc⟩ := h3 hl
 subst hA
 have hlo := h4 ad _ _ hv hl
 refine ⟨ad, rfl, Nat.lt_of_lt_of_le hb hg.size, fun j b hj => ?_⟩
 have e : w'.cell? (ad.add j) = w.cell? (ad.add j) := World.cell?_of_block (w := w) (by
  rw [block_add]
  exact hg.block ad.block hb (fun e => by have := hrow _ e.symm; omega))
 rw [e]
 exact hc j b hj
theorem stepL_no (p : List UInt8) (b : UInt8) (h : beginsL p = false) : stepL p b = firstL b [] := by simp [stepL, h]
theorem stepL_some (p : List UInt8) (b : UInt8) (r : Nat) (h : beginsL p = true) (hw : wholeL (p ++ [b]) = some r) : stepL p b = ([], [r]) := by simp [stepL, h, hw]
theorem stepL_pends (p : List UInt8) (b : UInt8) (h : beginsL p = true) (hw : wholeL (p ++ [b]) = none) (hq : beginsL (p ++ [b]) = true) : stepL p b = (p ++ [b], []) := by simp [stepL, h, hw, hq]
theorem stepL_breaks (p : List UInt8) (b : UInt8) (h : beginsL p = true) (hw : wholeL (p ++ [b]) = none) (hq : beginsL (p ++ [b]) = false) : stepL p b = firstL b [65533] := by simp [stepL, h, hw, hq]
theorem firstL_ascii (b : UInt8) (o : List Nat) (h : b.toNat < 128) : firstL b o = ([], o ++ [b.toNat]) := by simp [firstL, h]
theorem firstL_lead (b : UInt8) (o : List Nat) (h : ¬ b.toNat < 128) (hb : beginsL [b] = true) : firstL b o = ([b], o) := by simp [firstL, h, hb]
theorem firstL_bad (b : UInt8) (o : List Nat) (h : ¬ b.toNat < 128) (hb : beginsL [b] = false) : firstL b o = ([], o ++ [65533]) := by simp [firstL, h, hb]
theorem RS.oneAt (w : World) (b : Int) (t : TypeId) (g : Nat) (hg : g = w.heap.size) : RS (w.alloc (.cells #[.int .i32 b] t)) (w.heap.size + 1) (.slice (some ⟨g, 0, none⟩) 1 1) [b] := by
 subst hg
 exact RS.one w b t
end Go.Proofs.YtlolgfgcgfjdjaaGreatDoor

namespace Go.Proofs.YtlolgfgcgfjdjaaGreatDoor
open Go.RowKit
set_option linter.unusedVariables false
set_option linter.unusedSimpArgs false
set_option maxHeartbeats 400000
set_option maxRecDepth 100000
theorem vB_nat (n : Nat) (h : n < 256) : vB (UInt8.ofNat n) = .int .u8 (n : Int) := by unfold vB; rw [ofNat_toNat _ h]
theorem a63 (y : Int) (h0 : 0 ≤ y) (h1 : y < 2147483648) : bits .and .i32 y 63 = y % 64 := bits_mask .i32 31 (by decide) wraps_i32 6 (by decide) y h0 h1
theorem ints_len (a : List Nat) : (ints a).length = a.length := by simp [ints]
end Go.Proofs.YtlolgfgcgfjdjaaGreatDoor

namespace Go.Proofs.YtlolgfgcgfjdjaaGreatDoor
open Go.RowKit
set_option linter.unusedVariables false
set_option linter.unusedSimpArgs false
set_option maxHeartbeats 400000
set_option maxRecDepth 100000
def FormPost (r : Int) (w : World) (e : Ending) (w' : World) : Prop := ∃ v, e = .returned v ∧ BN w' w.heap.size v (formL r) ∧ Below w.heap.size w w'
theorem form_post (r : Int) (w : World) (t : TypeId) (cs : Array Value) (k : Nat) (hk : k = (formL r).length) (hcs : cs = (vBs (formL r)).toArray) :
  FormPost r w (.returned (.slice (some ⟨w.heap.size, 0, none⟩) k k)) (w.alloc (.cells cs t)) := by
 have hl := formN_len (asR r)
 refine ⟨_, rfl, ⟨(BS.lit w (formL r) k cs t hk hcs (by unfold formL; omega)).more (by simp), fun ad n c h _ => ?_⟩, (Below.refl _ _).alloc (Nat.le_refl _) _⟩
 simp only [Value.slice.injEq, Option.some.injEq] at h
 rw [← h.1]
 exact Nat.le_refl _
theorem fcells1 (n : Nat) (h : n < 128) (c : Int) (hc : c = n) : #[Value.int .u8 c] = (vBs (formN n)).toArray := by
 subst hc
 unfold formN
 rw [if_pos h]
 simp only [vBs, List.map_cons, List.map_nil]
 rw [vB_nat _ (by omega)]
theorem fcells2 (n : Nat) (h : 128 ≤ n) (h2 : n < 2048) (c d : Int) (hc : c = 192 + (n : Int) / 64) (hd : d = 128 + (n : Int) % 64) : #[Value.int .u8 c, .int .u8 d] = (vBs (formN n)).toArray := by
 subst hc hd
 unfold formN
 rw [if_neg (by omega), if_pos h2]
 simp only [vBs, List.map_cons, List.map_nil]
 rw [vB_nat _ (by omega), vB_nat _ (by omega)]
 rfl
theorem fcells3 (n : Nat) (h : 2048 ≤ n) (h2 : n < 65536) (b c d : Int) (hb : b = 224 + (n : Int) / 4096) (hc : c = 128 + (n : Int) / 64 % 64) (hd : d = 128 + (n : Int) % 64) : #[Value.int .u8 b, .int .u8 c, .int .u8 d] = (vBs (formN n)).toArray := by
 subst hb hc hd
 unfold formN
 rw [if_neg (by omega), if_neg (by omega), if_pos h2]
 simp only [vBs, List.map_cons, List.map_nil]
 rw [vB_nat _ (by omega), vB_nat _ (by omega), vB_nat _ (by omega)]
 rfl
theorem fcells4 (n : Nat) (h : 65536 ≤ n) (h2 : n < 1114112) (a b c d : Int) (ha : a = 240 + (n : Int) / 262144) (hb : b = 128 + (n : Int) / 4096 % 64) (hc : c = 128 + (n : Int) / 64 % 64) (hd : d = 128 + (n : Int) % 64) : #[Value.int .u8 a, .int .u8 b, .int .u8 c, .int .u8 d] = (vBs (formN n)).toArray := by
 subst ha hb hc hd
 unfold formN
 rw [if_neg (by omega), if_neg (by omega), if_neg (by omega)]
 simp only [vBs, List.map_cons, List.map_nil]
 rw [vB_nat _ (by omega), vB_nat _ (by omega), vB_nat _ (by omega), vB_nat _ (by omega)]
 rfl
theorem formL_len2 (n : Nat) (h : 128 ≤ n) (h2 : n < 2048) : (formN n).length = 2 := by unfold formN; rw [if_neg (by omega), if_pos h2]; rfl
theorem formL_len3 (n : Nat) (h : 2048 ≤ n) (h2 : n < 65536) : (formN n).length = 3 := by unfold formN; rw [if_neg (by omega), if_neg (by omega), if_pos h2]; rfl
theorem formL_len4 (n : Nat) (h : 65536 ≤ n) : (formN n).length = 4 := by unfold formN; rw [if_neg (by omega), if_neg (by omega), if_neg (by omega)]; rfl
theorem formL_len1 (n : Nat) (h : n < 128) : (formN n).length = 1 := by unfold formN; rw [if_pos h]; rfl
theorem asR_may (r : Int) (h : mayR r = true) : asR r = r.toNat := by unfold asR; rw [if_pos h]
theorem asR_not (r : Int) (h : mayR r = false) : asR r = 65533 := by unfold asR; rw [if_neg (by rw [h]; decide)]
end Go.Proofs.YtlolgfgcgfjdjaaGreatDoor
