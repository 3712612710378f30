/- What is proved here: parts of the proof of SnapTells. -/
import Derived.Test.YtbegccgpmhbnfaaGreatRows
import Derived.WalkKit
import Derived.WalkSpells
import Derived.WalkLawsBesides
import Derived.Below
import Derived.Orders
import Derived.IntWalk
import Derived.DataShut
import Derived.Laws.Strings
import Derived.Laws.Small
import Derived.Laws.Cells
import Derived.Laws.Rows
namespace Go.Proofs.YtbegccgpmhbnfaaGreat
open Go.RowKit
set_option linter.unusedVariables false
set_option linter.unusedSimpArgs false
inductive DV where
 | I (n : Int)
 | B (x : Bool)
 | S (l : List UInt8)
 | L (rows : List (List DV))
 | R (row : List DV)
def DV.int : DV → Int | .I n => n | _ => 0
def DV.bool : DV → Bool | .B x => x | _ => false
def DV.str : DV → List UInt8 | .S l => l | _ => []
def DV.rows : DV → List (List DV) | .L l => l | _ => []
def DV.row : DV → List DV | .R l => l | _ => []
def bLess : List UInt8 → List UInt8 → Bool
 | _, [] => false
 | [], _ :: _ => true
 | a :: x, b :: y => a < b || (a == b && bLess x y)
inductive U where
 | not | len | slen | wrap (k : IntKind) | fit (k : IntKind) | one | toB | ofB (a : Nat)
deriving DecidableEq
inductive O where
 | add | sub | mul | quo | rem | lt | le | eq | beq | seq | slt | and | or | min | max
 | band (k : IntKind) | bor (k : IntKind) | bxor (k : IntKind) | bnot (k : IntKind) | shl (k : IntKind) | shr (k : IntKind)
 | cat | sat | app | tk | dr | stk | sdr | at (j : Nat) | cns | rep
deriving DecidableEq
inductive E where
 | V (n : Nat)
 | I (n : Int)
 | B (x : Bool)
 | S (l : List UInt8)
 | N
 | R
 | U (o : U) (a : E)
 | O (o : O) (a b : E)
 | C (c a b : E)
 | P (l i r : E)
deriving DecidableEq
def toBytes (rows : List (List DV)) : List UInt8 := rows.map fun r => UInt8.ofNat (r.headD (.I 0)).int.toNat
def ofBytes (l : List UInt8) : List (List DV) := l.map fun c => [.I c.toNat]
def U.den : U → DV → DV
 | .not, x => .B !x.bool
 | .len, x => .I x.rows.length
 | .slen, x => .I x.str.length
 | .wrap k, x => .I (k.wrap x.int)
 | .fit k, x => .B (decide (k.min ≤ x.int ∧ x.int ≤ k.max))
 | .one, x => .L [x.row]
 | .toB, x => .S (toBytes x.rows)
 | .ofB _, x => .L (ofBytes x.str)
def O.den : O → DV → DV → DV
 | .add, x, y => .I (x.int + y.int)
 | .sub, x, y => .I (x.int - y.int)
 | .mul, x, y => .I (x.int * y.int)
 | .quo, x, y => .I (x.int.tdiv y.int)
 | .rem, x, y => .I (x.int.tmod y.int)
 | .lt, x, y => .B (decide (x.int < y.int))
 | .le, x, y => .B (decide (x.int ≤ y.int))
 | .eq, x, y => .B (decide (x.int = y.int))
 | .beq, x, y => .B (x.bool == y.bool)
 | .seq, x, y => .B (x.str == y.str)
 | .slt, x, y => .B (bLess x.str y.str)
 | .and, x, y => .B (x.bool && y.bool)
 | .or, x, y => .B (x.bool || y.bool)
 | .min, x, y => .I (if y.int < x.int then y.int else x.int)
 | .max, x, y => .I (if y.int > x.int then y.int else x.int)
 | .band k, x, y => .I (k.wrap (BitVec.ofInt k.bits x.int &&& BitVec.ofInt k.bits y.int).toNat)
 | .bor k, x, y => .I (k.wrap (BitVec.ofInt k.bits x.int ||| BitVec.ofInt k.bits y.int).toNat)
 | .bxor k, x, y => .I (k.wrap (BitVec.ofInt k.bits x.int ^^^ BitVec.ofInt k.bits y.int).toNat)
 | .bnot k, x, y => .I (k.wrap (BitVec.ofInt k.bits x.int &&& ~~~(BitVec.ofInt k.bits y.int)).toNat)
 | .shl k, x, y => .I (k.wrap (x.int * 2 ^ (Min.min y.int.toNat k.bits)))
 | .shr k, x, y => .I (x.int.fdiv (2 ^ (Min.min y.int.toNat k.bits)))
 | .cat, x, y => .S (x.str ++ y.str)
 | .sat, x, y => .I (x.str.getD y.int.toNat 0).toNat
 | .app, x, y => .L (x.rows ++ y.rows)
 | .tk, x, y => .L (x.rows.take y.int.toNat)
 | .dr, x, y => .L (x.rows.drop y.int.toNat)
 | .stk, x, y => .S (x.str.take y.int.toNat)
 | .sdr, x, y => .S (x.str.drop y.int.toNat)
 | .at j, x, y => (x.rows.getD y.int.toNat []).getD j (.I 0)
 | .cns, x, y => .R (x.row ++ [y])
 | .rep, x, y => .L (List.replicate x.int.toNat y.row)
def E.den (e : List DV) : E → DV
 | .V n => e.getD n (.I 0)
 | .I n => .I n
 | .B x => .B x
 | .S l => .S l
 | .N => .L []
 | .R => .R []
 | .U o a => o.den (a.den e)
 | .O o a b => o.den (a.den e) (b.den e)
 | .C c a b => bif (c.den e).bool then a.den e else b.den e
 | .P l i r => .L ((l.den e).rows.set (i.den e).int.toNat (r.den e).row)
def E.bd (n : Nat) : E → Bool
 | .V k => Nat.blt k n
 | .U _ a => a.bd n
 | .O _ a b => a.bd n && b.bd n
 | .C c a b => c.bd n && (a.bd n && b.bd n)
 | .P a b c => a.bd n && (b.bd n && c.bd n)
 | _ => true
theorem E.den_ext (e t : List DV) : ∀ (x : E), x.bd e.length = true → x.den (e ++ t) = x.den e := by
 intro x
 induction x with
 | V k =>
  intro h
  simp only [E.bd, Nat.blt_eq] at h
  simp only [E.den, List.getD_eq_getElem?_getD]
  rw [List.getElem?_append_left h]
 | U o a ih => intro h; simp only [E.bd] at h; simp only [E.den, ih h]
 | O o a b iha ihb =>
  intro h
  simp only [E.bd, Bool.and_eq_true] at h
  simp only [E.den, iha h.1, ihb h.2]
 | C c a b ihc iha ihb =>
  intro h
  simp only [E.bd, Bool.and_eq_true] at h
  simp only [E.den, ihc h.1, iha h.2.1, ihb h.2.2]
 | P a b c iha ihb ihc =>
  intro h
  simp only [E.bd, Bool.and_eq_true] at h
  simp only [E.den, iha h.1, ihb h.2.1, ihc h.2.2]
 | _ => intro _; rfl
theorem E.bd_mono {m n : Nat} (hmn : m ≤ n) : ∀ (x : E), x.bd m = true → x.bd n = true := by
 intro x
 induction x with
 | V k => intro h; simp only [E.bd, Nat.blt_eq] at h ⊢; omega
 | U o a ih => exact ih
 | O o a b iha ihb =>
  intro h
  simp only [E.bd, Bool.and_eq_true] at h ⊢
  exact ⟨iha h.1, ihb h.2⟩
 | C c a b ihc iha ihb =>
  intro h
  simp only [E.bd, Bool.and_eq_true] at h ⊢
  exact ⟨ihc h.1, iha h.2.1, ihb h.2.2⟩
 | P a b c iha ihb ihc =>
  intro h
  simp only [E.bd, Bool.and_eq_true] at h ⊢
  exact ⟨iha h.1, ihb h.2.1, ihc h.2.2⟩
 | _ => intro _; rfl
inductive CK where
 | int (k : IntKind)
 | bool
 | str
 | lst (e : TypeId)
deriving DecidableEq
abbrev Tab := List (TypeId × TypeInfo)
def Tab.info (T : Tab) (t : TypeId) : Option TypeInfo := T.lookup t
def Tab.und (T : Tab) (t : TypeId) : Option TypeDesc :=
 match T.info t with
 | none => none
 | some i => match i.desc with
  | .named _ u => (T.info u).map (·.desc)
  | d => some d
def Tab.size (T : Tab) (t : TypeId) : Option Nat := (T.info t).map (·.size)
def Tab.ckN (T : Tab) : Nat → TypeId → Option (List CK)
 | 0, _ => none
 | n + 1, t => match T.und t with
  | some (.int k) => some [.int k]
  | some .bool => some [.bool]
  | some .string => some [.str]
  | some (.slice e) => some [.lst e]
  | some (.struct fs) => fs.toList.foldlM (fun acc f => do
      let l ← T.ckN n f.type
      if f.offset == acc.length then some (acc ++ l) else none) []
  | some (.array m e) => (T.ckN n e).map fun l => (List.replicate m l).flatten
  | _ => none
def Tab.flat (T : Tab) (t : TypeId) : Bool := match T.ckN 8 t, T.und t with
 | some l, some (.struct _) => l.all fun k => match k with
  | .lst _ => false
  | _ => true
 | _, _ => false
structure Tab.Ok (T : Tab) (P : Program) : Prop where
 info : ∀ t i, T.info t = some i → P.info? t = some i
 plain : ∀ t, T.flat t = true → P.stoodInHeld t = false ∧ P.eqGuardType P.depth t = false
def Tab.cks (T : Tab) (t : TypeId) : Option (List CK) :=
 match T.ckN 8 t with
 | none => none
 | some l => if T.size t == some l.length && !l.isEmpty then some l else none
theorem Tab.cks_size {T : Tab} {t : TypeId} {l : List CK} (h : T.cks t = some l) : T.size t = some l.length ∧ 0 < l.length := by
 unfold Tab.cks at h
 split at h
 ·cases h
 ·split at h
  ·rename_i hc
   cases h
   simp at hc
   exact ⟨hc.1, List.length_pos_iff.2 hc.2⟩
  ·cases h
theorem und_of {P : Program} {t : TypeId} {i : TypeInfo} (h1 : P.info? t = some i) : P.underlying t = match i.desc with | .named _ u => (P.info? u).map (·.desc) | d => some d := by
 simp only [Program.underlying, h1]
 obtain ⟨d, _⟩ := i
 cases d <;> rfl
theorem Tab.Ok.und {T : Tab} {P : Program} (h : T.Ok P) {t : TypeId} {d : TypeDesc} (hd : T.und t = some d) : P.underlying t = some d := by
 unfold Tab.und at hd
 split at hd
 ·cases hd
 ·rename_i i hi
  rw [und_of (h.info _ _ hi)]
  split at hd
  ·rename_i u hu
   cases hj : T.info u with
   | none => rw [hj] at hd; cases hd
   | some j =>
    rw [hj] at hd
    cases hd
    simp only [h.info _ _ hj, Option.map_some]
  ·rename_i hn
   cases hd
   rfl
theorem Tab.Ok.size {T : Tab} {P : Program} (h : T.Ok P) {t : TypeId} {n : Nat} (hd : T.size t = some n) : (P.info? t).map (·.size) = some n := by
 unfold Tab.size at hd
 cases hi : T.info t with
 | none => rw [hi] at hd; cases hd
 | some i =>
  rw [hi] at hd
  simp only [h.info _ _ hi]
  exact hd
def bL : Nat := 9223372036854775807
inductive Rd (T : Tab) (w : World) (S : Nat → Prop) : CK → DV → Value → Prop
 | int {k : IntKind} {n : Int} (h : k.min ≤ n ∧ n ≤ k.max) : Rd T w S (.int k) (.I n) (.int k n)
 | bool {b : Bool} : Rd T w S .bool (.B b) (.bool b)
 | str {s : ByteArray} (h : s.size ≤ bL) : Rd T w S .str (.S s.data.toList) (.string s)
 | lst {e : TypeId} {rows : List (List DV)} {a : Option Addr} {cap : Nat} {cks : List CK} {q o : Nat} (u : Nat → Nat → Value)
   (hk : T.cks e = some cks) (hn : rows.length ≤ bL) (hc : rows.length ≤ cap) (ha : rows ≠ [] → a = some ⟨q, o, none⟩ ∧ S q)
   (hr : ∀ r ∈ rows, r.length = cks.length)
   (hm : ∀ i j, i < rows.length → j < cks.length → w.cell? ⟨q, o + (i * cks.length + j), none⟩ = some (u i j))
   (hd : ∀ i j r d k, rows[i]? = some r → r[j]? = some d → cks[j]? = some k → Rd T w S k d (u i j)) :
   Rd T w S (.lst e) (.L rows) (.slice a rows.length cap)
theorem Rd.keep {T : Tab} {w w' : World} {S S' : Nat → Prop} {k : CK} {d : DV} {v : Value} (h : Rd T w S k d v)
  (hw : ∀ q, S q → w'.heap[q]? = w.heap[q]?) (hS : ∀ q, S q → S' q) : Rd T w' S' k d v := by
 induction h with
 | int h => exact .int h
 | bool => exact .bool
 | str h => exact .str h
 | @lst e rows a cap cks q o u hk hn hc ha hr hm hd ih =>
  refine .lst (q := q) (o := o) u hk hn hc (fun h => ⟨(ha h).1, hS _ (ha h).2⟩) hr (fun i j hi hj => ?_) ih
  have hq := (ha (fun h => by rw [h] at hi; cases hi)).2
  exact (World.cell?_of_block (w := w) (hw q hq)).trans (hm i j hi hj)
inductive CV where
 | any
 | c (k : CK) (e : E)
 | nl
 | own (b : Nat) (el : TypeId)
 | sub (b : Nat) (el : TypeId) (off len : E)
 | rp (b off : Nat)
 | ap (b : Nat) (el : TypeId) (row : E) (off : Nat) (eb : E)
 | ip (el : TypeId) (l row : E) (off : Nat)
 | fn (f : FuncId)
deriving DecidableEq
inductive SV where
 | one (c : CV)
 | agg (l : List CV)
 | tup (l : List (Bool × List CV))
deriving DecidableEq
inductive Blk where
 | no
 | dead
 | box (l : List CV)
 | arr (el : TypeId) (e : E) (fz : Bool)
deriving DecidableEq
def Blk.live : Blk → Bool
 | .box _ | .arr _ _ _ => true
 | _ => false
def Blk.frz : Blk → Bool
 | .arr _ _ f => f
 | _ => false
structure Mem where
 env : List DV
 w : World
 S : Nat → Prop
 ρ : Nat → Option (Nat × Nat × Nat)
 h : Nat → Blk
def SlR (T : Tab) (m : Mem) (b : Nat) (el : TypeId) (off len cap : Nat) (v : Value) : Prop :=
 match m.ρ b with
 | none => off = 0 ∧ len = 0 ∧ v = .slice none 0 0
 | some (q, base, cs) => ∃ sz ad, T.size el = some sz ∧ v = .slice (some ad) len cap ∧ (cap ≠ 0 → ad = ⟨q, base + off * sz, none⟩) ∧ len ≤ cap ∧ base + (off + cap) * sz ≤ cs
def CVr (T : Tab) (m : Mem) : CV → Value → Prop
 | .any, _ => True
 | .c k e, v => Rd T m.w m.S k (e.den m.env) v
 | .nl, v => v = .slice none 0 0
 | .own b el, v => m.h b = .dead ∨ ∃ e fz rows cap, m.h b = .arr el e fz ∧ e.den m.env = .L rows ∧ SlR T m b el 0 rows.length cap v
 | .sub b el off len, v => m.h b = .dead ∨ ∃ e fz cap, ∃ o l : Nat, m.h b = .arr el e fz ∧ off.den m.env = .I o ∧ len.den m.env = .I l ∧ SlR T m b el o l cap v ∧ l ≤ bL
 | .rp b off, v => m.h b = .dead ∨ ∃ l q cs, m.h b = .box l ∧ m.ρ b = some (q, 0, cs) ∧ v = .pointer (some ⟨q, off, none⟩)
 | .ap b el row off eb, v => m.h b = .dead ∨ ∃ e fz rows sz q base cs, ∃ r : Nat, m.h b = .arr el e fz ∧ m.ρ b = some (q, base, cs) ∧ row.den m.env = .I r ∧ eb.den m.env = .L rows ∧ r < rows.length ∧ T.size el = some sz ∧ v = .pointer (some ⟨q, base + r * sz + off, none⟩)
 | .ip el l row off, v => ∃ rows cap cks q o, ∃ r : Nat, l.den m.env = .L rows ∧ Rd T m.w m.S (.lst el) (.L rows) (.slice (some ⟨q, o, none⟩) rows.length cap) ∧ row.den m.env = .I r ∧ r < rows.length ∧ T.cks el = some cks ∧ v = .pointer (some ⟨q, o + r * cks.length + off, none⟩)
 | .fn f, v => v = .func (.func f) #[] #[]
def CsR (T : Tab) (m : Mem) (l : List CV) (vs : List Value) : Prop := vs.length = l.length ∧ ∀ (j : Nat) c, l[j]? = some c → ∃ u, vs[j]? = some u ∧ u.oneCell' = true ∧ CVr T m c u
def PvR (T : Tab) (m : Mem) (p : Bool × List CV) (v : Value) : Prop := (p.1 = true ∧ ∃ a : Array Value, v = .agg a ∧ CsR T m p.2 a.toList) ∨ (p.1 = false ∧ ∃ c, p.2 = [c] ∧ CVr T m c v)
def SVr (T : Tab) (m : Mem) : SV → Value → Prop
 | .one c, v => CVr T m c v
 | .agg l, v => ∃ a : Array Value, v = .agg a ∧ CsR T m l a.toList
 | .tup l, v => ∃ a : Array Value, v = .tuple a ∧ a.size = l.length ∧ ∀ (j : Nat) p, l[j]? = some p → ∃ u, a[j]? = some u ∧ PvR T m p u
def BlkR (T : Tab) (m : Mem) (b : Nat) : Blk → Prop
 | .no => True
 | .dead => True
 | .box l => ∃ q c t, m.ρ b = some (q, 0, l.length) ∧ m.w.heap[q]? = some (.cells c t (0, 0)) ∧ CsR T m l c.toList
 | .arr el e fz => ∃ rows cks, e.den m.env = .L rows ∧ T.cks el = some cks ∧ rows.length ≤ bL ∧ (∀ r ∈ rows, r.length = cks.length) ∧
   ((m.ρ b = none ∧ rows = []) ∨ ∃ q base c t, m.ρ b = some (q, base, c.size) ∧ m.w.heap[q]? = some (.cells c t (0, 0)) ∧ base + rows.length * cks.length ≤ c.size ∧
     (∀ i j r d k, rows[i]? = some r → r[j]? = some d → cks[j]? = some k → ∃ u, c[base + (i * cks.length + j)]? = some u ∧ Rd T m.w m.S k d u) ∧ (fz = true → m.S q))
def Mem.at_ (m : Mem) (b : Nat) : Option Nat := (m.ρ b).map (·.1)
structure W0 extends World where
 X : Nat → Prop
 K : Nat → Option (Option (Nat × Nat × Nat))
def W0.has (w0 : W0) (q : Nat) : Prop := w0.heap.size ≤ q ∨ w0.X q
structure Low (w0 : W0) (w : World) : Prop where
 os : w.os = w0.os
 tape : w.tape = w0.tape
 output : w.output = w0.output
 size : w0.heap.size ≤ w.heap.size
 block : ∀ k, k < w0.heap.size → ¬ w0.X k → w.heap[k]? = w0.heap[k]?
theorem Low.below {w0 : W0} {a b : World} (h : Low w0 a) (k : Below a.heap.size a b) : Low w0 b :=
 ⟨k.os.trans h.os, k.tape.trans h.tape, k.output.trans h.output, Nat.le_trans h.size k.size, fun i hi hx => (k.block i (Nat.lt_of_lt_of_le hi h.size)).trans (h.block i hi hx)⟩
theorem Low.alloc {w0 : W0} {a : World} (h : Low w0 a) (o : Obj) : Low w0 (a.alloc o) := h.below ((Below.refl _ _).alloc (Nat.le_refl _) o)
theorem Low.drew {w0 : W0} {a : World} (h : Low w0 a) : Low w0 a.drew := h.below (Below.refl _ _).drew
theorem Low.refl {w0 : W0} : Low w0 w0.toWorld := ⟨rfl, rfl, rfl, Nat.le_refl _, fun _ _ _ => rfl⟩
theorem Low.whole {w0 : W0} {a : World} (h : Low w0 a) (hX : ∀ q, ¬ w0.X q) : Below w0.heap.size w0.toWorld a := ⟨h.os, h.tape, h.output, h.size, fun k hk => h.block k hk (hX k)⟩
structure MOk (T : Tab) (w0 : W0) (S0 : Nat → Prop) (m : Mem) : Prop where
 blk : ∀ b, BlkR T m b (m.h b)
 inj : ∀ b b' q, (m.h b).live = true → (m.h b').live = true → m.at_ b = some q → m.at_ b' = some q → b = b'
 new : ∀ b q, (m.h b).live = true → m.at_ b = some q → w0.has q ∧ ((m.h b).frz = false → ¬ m.S q)
 sz : ∀ q, m.S q → q < m.w.heap.size
 low : Low w0 m.w
 s0 : ∀ q, S0 q → m.S q
 s1 : ∀ q, m.S q → S0 q ∨ w0.has q
 s2 : ∀ q, S0 q → q < w0.heap.size
 kept : ∀ b p, w0.K b = some p → m.h b ≠ .no ∧ ((m.h b).live = true → m.ρ b = p)
structure MIn (T : Tab) (m : Mem) : Prop where
 blk : ∀ b, BlkR T m b (m.h b)
 inj : ∀ b b' q, (m.h b).live = true → (m.h b').live = true → m.at_ b = some q → m.at_ b' = some q → b = b'
 new : ∀ b q, (m.h b).live = true → m.at_ b = some q → (m.h b).frz = false → ¬ m.S q
 sz : ∀ q, m.S q → q < m.w.heap.size
theorem MOk.min {T : Tab} {w0 : W0} {S0 : Nat → Prop} {m : Mem} (h : MOk T w0 S0 m) : MIn T m := ⟨h.blk, h.inj, fun b q l a => (h.new b q l a).2, h.sz⟩
def XOf (m : Mem) (q : Nat) : Prop := ∃ b, (m.h b).live = true ∧ m.at_ b = some q
def Keep (T : Tab) (m m' : Mem) : Prop := ∀ c v, CVr T m c v → CVr T m' c v
section
variable {T : Tab} {m m' m2 : Mem}
theorem Keep.refl : Keep T m m := fun _ _ h => h
theorem Keep.trans (h : Keep T m m') (h' : Keep T m' m2) : Keep T m m2 := fun c v x => h' c v (h c v x)
theorem Keep.cs (h : Keep T m m') {l : List CV} {vs : List Value} (x : CsR T m l vs) : CsR T m' l vs :=
 ⟨x.1, fun j c hj => let ⟨u, h1, h2, h3⟩ := x.2 j c hj; ⟨u, h1, h2, h _ _ h3⟩⟩
theorem Keep.pv (h : Keep T m m') {p : Bool × List CV} {v : Value} (x : PvR T m p v) : PvR T m' p v := by
 rcases x with ⟨h1, a, h2, h3⟩ | ⟨h1, c, h2, h3⟩
 ·exact .inl ⟨h1, a, h2, h.cs h3⟩
 ·exact .inr ⟨h1, c, h2, h _ _ h3⟩
theorem Keep.sv (h : Keep T m m') {s : SV} {v : Value} (x : SVr T m s v) : SVr T m' s v := by
 cases s with
 | one c => exact h c v x
 | agg l => obtain ⟨a, h1, h2⟩ := x; exact ⟨a, h1, h.cs h2⟩
 | tup l => obtain ⟨a, h1, h2, h3⟩ := x; exact ⟨a, h1, h2, fun j p hj => let ⟨u, h4, h5⟩ := h3 j p hj; ⟨u, h4, h.pv h5⟩⟩
def Alike (env : List DV) (x y : Blk) : Prop :=
 x = y ∨ (∃ l l', x = .box l ∧ y = .box l') ∨ ∃ el e e' fz fz' rows rows', x = .arr el e fz ∧ y = .arr el e' fz' ∧ e.den env = .L rows ∧ e'.den env = .L rows' ∧ rows'.length = rows.length
theorem keep_gen (he : m'.env = m.env) (hw : ∀ q, m.S q → m'.w.heap[q]? = m.w.heap[q]?) (hS : ∀ q, m.S q → m'.S q)
  (hh : ∀ b, m.h b ≠ .no → m'.h b = .dead ∨ (m'.ρ b = m.ρ b ∧ Alike m.env (m.h b) (m'.h b))) : Keep T m m' := by
 have sl : ∀ b el off len cap v, m'.ρ b = m.ρ b → SlR T m b el off len cap v → SlR T m' b el off len cap v := fun b el off len cap v h x => by
  unfold SlR at *; rw [h]; exact x
 intro c v x
 cases c with
 | any => trivial
 | c k e => unfold CVr at *; rw [he]; exact x.keep hw hS
 | nl => exact x
 | fn f => exact x
 | ip el l row off =>
  obtain ⟨rows, cap, cks, q, o, r, h1, h2, h3, h4, h5, h6⟩ := x
  exact ⟨rows, cap, cks, q, o, r, by rw [he]; exact h1, h2.keep hw hS, by rw [he]; exact h3, h4, h5, h6⟩
 | own b el =>
  unfold CVr at *
  rcases x with x | ⟨e, fz, rows, cap, h1, h2, h3⟩
  ·rcases hh b (by rw [x]; simp) with h | ⟨_, h⟩
   ·exact .inl h
   ·rw [x] at h
    rcases h with h | ⟨_, _, h, _⟩ | ⟨_, _, _, _, _, _, _, h, _⟩
    ·exact .inl h.symm
    ·cases h
    ·cases h
  ·rcases hh b (by rw [h1]; simp) with h | ⟨hρ, h⟩
   ·exact .inl h
   ·rw [h1] at h
    rcases h with h | ⟨_, _, h, _⟩ | ⟨el', a, a', g, g', rs, rs', hx, hy, hz, hz', hl⟩
    ·exact .inr ⟨e, fz, rows, cap, h.symm, by rw [he]; exact h2, sl _ _ _ _ _ _ hρ h3⟩
    ·cases h
    ·cases hx
     rw [h2] at hz
     cases hz
     exact .inr ⟨a', g', rs', cap, hy, by rw [he]; exact hz', by rw [hl]; exact sl _ _ _ _ _ _ hρ h3⟩
 | sub b el off len =>
  unfold CVr at *
  rcases x with x | ⟨e, fz, cap, o, l, h1, h2, h3, h4, h5⟩
  ·rcases hh b (by rw [x]; simp) with h | ⟨_, h⟩
   ·exact .inl h
   ·rw [x] at h
    rcases h with h | ⟨_, _, h, _⟩ | ⟨_, _, _, _, _, _, _, h, _⟩
    ·exact .inl h.symm
    ·cases h
    ·cases h
  ·rcases hh b (by rw [h1]; simp) with h | ⟨hρ, h⟩
   ·exact .inl h
   ·rw [h1] at h
    rcases h with h | ⟨_, _, h, _⟩ | ⟨el', a, a', g, g', rs, rs', hx, hy, hz, hz', hl⟩
    ·exact .inr ⟨e, fz, cap, o, l, h.symm, by rw [he]; exact h2, by rw [he]; exact h3, sl _ _ _ _ _ _ hρ h4, h5⟩
    ·cases h
    ·cases hx
     exact .inr ⟨a', g', cap, o, l, hy, by rw [he]; exact h2, by rw [he]; exact h3, sl _ _ _ _ _ _ hρ h4, h5⟩
 | rp b off =>
  unfold CVr at *
  rcases x with x | ⟨l, q, cs, h1, h2, h3⟩
  ·rcases hh b (by rw [x]; simp) with h | ⟨_, h⟩
   ·exact .inl h
   ·rw [x] at h
    rcases h with h | ⟨_, _, h, _⟩ | ⟨_, _, _, _, _, _, _, h, _⟩
    ·exact .inl h.symm
    ·cases h
    ·cases h
  ·rcases hh b (by rw [h1]; simp) with h | ⟨hρ, h⟩
   ·exact .inl h
   ·rw [h1] at h
    rcases h with h | ⟨_, l', h, hy⟩ | ⟨_, _, _, _, _, _, _, h, _⟩
    ·exact .inr ⟨l, q, cs, h.symm, hρ.trans h2, h3⟩
    ·exact .inr ⟨l', q, cs, hy, hρ.trans h2, h3⟩
    ·cases h
 | ap b el row off eb =>
  unfold CVr at *
  rcases x with x | ⟨e, fz, rows, sz, q, base, cs, r, h1, h2, h3, h4, h5, h6, h7⟩
  ·rcases hh b (by rw [x]; simp) with h | ⟨_, h⟩
   ·exact .inl h
   ·rw [x] at h
    rcases h with h | ⟨_, _, h, _⟩ | ⟨_, _, _, _, _, _, _, h, _⟩
    ·exact .inl h.symm
    ·cases h
    ·cases h
  ·rcases hh b (by rw [h1]; simp) with h | ⟨hρ, h⟩
   ·exact .inl h
   ·rw [h1] at h
    rcases h with h | ⟨_, _, h, _⟩ | ⟨el', a, a', g, g', rs, rs', hx, hy, hz, hz', hl⟩
    ·exact .inr ⟨e, fz, rows, sz, q, base, cs, r, h.symm, hρ.trans h2, by rw [he]; exact h3, by rw [he]; exact h4, h5, h6, h7⟩
    ·cases h
    ·cases hx
     exact .inr ⟨a', g', rows, sz, q, base, cs, r, hy, hρ.trans h2, by rw [he]; exact h3, by rw [he]; exact h4, h5, h6, h7⟩
end
theorem wrap_in (k : IntKind) (n : Int) : k.min ≤ k.wrap n ∧ k.wrap n ≤ k.max := by
 cases k <;> simp only [IntKind.min, IntKind.max, IntKind.wrap, IntKind.signed, IntKind.bits] <;> simp <;> (try split) <;> omega
theorem wrap_id {k : IntKind} {n : Int} (h : k.min ≤ n ∧ n ≤ k.max) : k.wrap n = n := by
 revert h
 cases k <;> simp only [IntKind.min, IntKind.max, IntKind.wrap, IntKind.signed, IntKind.bits] <;> simp <;> (try split) <;> omega
theorem tmod_in {k : IntKind} {x y : Int} (hx : k.min ≤ x ∧ x ≤ k.max) (hy : y ≠ 0) : k.min ≤ x.tmod y ∧ x.tmod y ≤ k.max := by
 have hm : k.min ≤ 0 ∧ 0 ≤ k.max := by cases k <;> decide
 rcases Int.le_total 0 x with h | h
 ·have h1 := Int.tmod_nonneg y h
  have h2 : x.tmod y ≤ x := by
   rw [Int.tmod_eq_emod_of_nonneg h]
   have := Int.emod_def x y
   rcases Int.lt_or_lt_of_ne hy with h3 | h3
   ·have : x / y * y = -(x / y * -y) := by rw [Int.mul_neg, Int.neg_neg]
    have h4 : x % y = x % (-y) := by rw [Int.emod_neg]
    rw [h4]
    have h5 := Int.emod_add_mul_ediv x (-y)
    have h6 : 0 ≤ x / (-y) := Int.ediv_nonneg h (by omega)
    have h7 : 0 ≤ -y * (x / -y) := Int.mul_nonneg (by omega) h6
    omega
   ·have h5 := Int.emod_add_mul_ediv x y
    have h6 : 0 ≤ x / y := Int.ediv_nonneg h (by omega)
    have h7 : 0 ≤ y * (x / y) := Int.mul_nonneg (by omega) h6
    omega
  omega
 ·have hn : 0 ≤ -x := by omega
  have h1 := Int.tmod_nonneg y hn
  have h0 : (-x).tmod y = -(x.tmod y) := Int.neg_tmod x y
  have h2 : (-x).tmod y ≤ -x := by
   rw [Int.tmod_eq_emod_of_nonneg hn]
   rcases Int.lt_or_lt_of_ne hy with h3 | h3
   ·have h4 : (-x) % y = (-x) % (-y) := by rw [Int.emod_neg]
    rw [h4]
    have h5 := Int.emod_add_mul_ediv (-x) (-y)
    have h6 : 0 ≤ (-x) / (-y) := Int.ediv_nonneg hn (by omega)
    have h7 : 0 ≤ -y * ((-x) / -y) := Int.mul_nonneg (by omega) h6
    omega
   ·have h5 := Int.emod_add_mul_ediv (-x) y
    have h6 : 0 ≤ (-x) / y := Int.ediv_nonneg hn (by omega)
    have h7 : 0 ≤ y * ((-x) / y) := Int.mul_nonneg (by omega) h6
    omega
  omega
theorem fdiv_in {k : IntKind} {x : Int} (n : Nat) (hx : k.min ≤ x ∧ x ≤ k.max) : k.min ≤ x.fdiv (2 ^ n) ∧ x.fdiv (2 ^ n) ≤ k.max := by
 have hm : k.min ≤ 0 ∧ 0 ≤ k.max := by cases k <;> decide
 have hp : (0 : Int) < 2 ^ n := Int.pow_pos (by omega)
 rw [Int.fdiv_eq_ediv_of_nonneg x (Int.le_of_lt hp)]
 have h1 := Int.emod_add_mul_ediv x (2 ^ n)
 have h2 := Int.emod_nonneg x (Int.ne_of_gt hp)
 have h3 := Int.emod_lt_of_pos x hp
 generalize hz : x / 2 ^ n = z at *
 generalize hpp : (2 : Int) ^ n = p at *
 constructor
 ·rcases Int.le_total 0 x with h | h
  ·have : 0 ≤ z := by rw [← hz]; exact Int.ediv_nonneg h (Int.le_of_lt hp)
   omega
  ·rcases Int.lt_or_le z x with h4 | h4
   ·exfalso
    have e1 : p * z ≤ p * (x - 1) := Int.mul_le_mul_of_nonneg_left (by omega) (by omega)
    have e2 : p * x ≤ 1 * x := Int.mul_le_mul_of_nonpos_right (by omega) (by omega)
    rw [Int.mul_sub] at e1
    omega
   ·omega
 ·rcases Int.le_total 0 x with h | h
  ·have h0 : 0 ≤ z := by rw [← hz]; exact Int.ediv_nonneg h (Int.le_of_lt hp)
   have : 1 * z ≤ p * z := Int.mul_le_mul_of_nonneg_right (by omega) h0
   omega
  ·rcases Int.lt_or_le 0 z with h4 | h4
   ·exfalso
    have : 0 < p * z := Int.mul_pos hp h4
    omega
   ·omega
theorem blt_eq : ∀ (x y : List UInt8), bLess x y = Op.bytesLess x y
 | _, [] => by unfold bLess Op.bytesLess; rfl
 | [], _ :: _ => by unfold bLess Op.bytesLess; rfl
 | a :: x, b :: y => by unfold bLess Op.bytesLess; rw [blt_eq x y]
def arith (k : IntKind) (e : E) : List E × CV := if k.signed then ([.U (.fit k) e], .c (.int k) e) else ([], .c (.int k) (.U (.wrap k) e))
def nz : E → List E
 | .I n => if n = 0 then [.B false] else []
 | e => [.U .not (.O .eq e (.I 0))]
def cmpI (op : BinOp) (a b : E) : Option E := match op with
 | .eql => some (.O .eq a b)
 | .neq => some (.U .not (.O .eq a b))
 | .lss => some (.O .lt a b)
 | .leq => some (.O .le a b)
 | .gtr => some (.O .lt b a)
 | .geq => some (.O .le b a)
 | _ => none
def cmpS (op : BinOp) (a b : E) : Option E := match op with
 | .eql => some (.O .seq a b)
 | .neq => some (.U .not (.O .seq a b))
 | .lss => some (.O .slt a b)
 | .leq => some (.O .or (.O .slt a b) (.O .seq a b))
 | .gtr => some (.U .not (.O .or (.O .slt a b) (.O .seq a b)))
 | .geq => some (.U .not (.O .slt a b))
 | _ => none
def symBin (T : Tab) (op : BinOp) (xt : TypeId) : CV → CV → Option (List E × CV)
 | .c (.int k) a, .c (.int k') b =>
  match op with
  | .shl => some ([.O .le (.I 0) b], .c (.int k) (.O (.shl k) a b))
  | .shr => some ([.O .le (.I 0) b], .c (.int k) (.O (.shr k) a b))
  | _ => if k = k' then
    match op with
    | .add => some (arith k (.O .add a b))
    | .sub => some (arith k (.O .sub a b))
    | .mul => some (arith k (.O .mul a b))
    | .quo => let r := arith k (.O .quo a b); some (nz b ++ r.1, r.2)
    | .rem => some (nz b, .c (.int k) (.O .rem a b))
    | .and => some ([], .c (.int k) (.O (.band k) a b))
    | .or => some ([], .c (.int k) (.O (.bor k) a b))
    | .xor => some ([], .c (.int k) (.O (.bxor k) a b))
    | .andNot => some ([], .c (.int k) (.O (.bnot k) a b))
    | _ => (cmpI op a b).map fun e => ([], .c .bool e)
   else none
 | .c .bool a, .c .bool b =>
  match op, T.und xt with
  | .eql, some .bool => some ([], .c .bool (.O .beq a b))
  | .neq, some .bool => some ([], .c .bool (.U .not (.O .beq a b)))
  | _, _ => none
 | .c .str a, .c .str b =>
  match op with
  | .add => some ([.O .le (.O .add (.U .slen a) (.U .slen b)) (.I bL)], .c .str (.O .cat a b))
  | _ => (cmpS op a b).map fun e => ([], .c .bool e)
 | _, _ => none
def needsOk (env : List DV) (l : List E) : Prop := ∀ e ∈ l, (e.den env).bool = true
section
variable {P : Program} {T : Tab} {m : Mem} {w : World}
theorem Rd.int_inv {S : Nat → Prop} {k : IntKind} {d : DV} {v : Value} (h : Rd T w S (.int k) d v) : ∃ n, d = .I n ∧ v = .int k n ∧ (k.min ≤ n ∧ n ≤ k.max) := by
 cases h with | int h => exact ⟨_, rfl, rfl, h⟩
theorem Rd.bool_inv {S : Nat → Prop} {d : DV} {v : Value} (h : Rd T w S .bool d v) : ∃ b, d = .B b ∧ v = .bool b := by
 cases h with | bool => exact ⟨_, rfl, rfl⟩
theorem Rd.str_inv {S : Nat → Prop} {d : DV} {v : Value} (h : Rd T w S .str d v) : ∃ s, d = .S s.data.toList ∧ v = .string s ∧ s.size ≤ bL := by
 cases h with | str h => exact ⟨_, rfl, rfl, h⟩
theorem cvr_c {k : CK} {e : E} {v : Value} : CVr T m (.c k e) v = Rd T m.w m.S k (e.den m.env) v := rfl
theorem arith_ok {k : IntKind} {e : E} {n : Int} {ns : List E} {c : CV} (h : arith k e = (ns, c)) (he : e.den m.env = .I n) (hn : needsOk m.env ns) : CVr T m c (.int k (k.wrap n)) := by
 unfold arith at h
 split at h
 ·cases h
  have := hn _ (List.mem_singleton.2 rfl)
  simp only [E.den, U.den, he, DV.int, DV.bool, decide_eq_true_eq] at this
  rw [cvr_c]
  rw [he, wrap_id this]
  exact .int this
 ·cases h
  rw [cvr_c]
  simp only [E.den, U.den, he, DV.int]
  exact .int (wrap_in _ _)
theorem nz_ok {b : E} {y : Int} (hb : b.den m.env = .I y) (h : needsOk m.env (nz b)) : y ≠ 0 := by
 unfold nz at h
 split at h
 ·rename_i n
  simp only [E.den] at hb
  cases hb
  split at h
  ·have := h _ (List.mem_singleton.2 rfl)
   simp [E.den, DV.bool] at this
  ·assumption
 ·have := h _ (List.mem_singleton.2 rfl)
  simpa [E.den, U.den, O.den, hb, DV.int, DV.bool] using this
theorem needsOk.left {l l' : List E} {env : List DV} (h : needsOk env (l ++ l')) : needsOk env l := fun e he => h e (List.mem_append.2 (.inl he))
theorem needsOk.right {l l' : List E} {env : List DV} (h : needsOk env (l ++ l')) : needsOk env l' := fun e he => h e (List.mem_append.2 (.inr he))
theorem bin_run {op : BinOp} {xt : TypeId} {c1 c2 c : CV} {v1 v2 : Value} {x y : Operand} {ns : List E} (hT : T.Ok P) (h : symBin T op xt c1 c2 = some (ns, c)) (h1 : CVr T m c1 v1) (h2 : CVr T m c2 v2) (hn : needsOk m.env ns) :
  ∃ v, (do eqGuard op xt x y v1 v2; binOp op xt v1 v2 : Sem Value).run P w = .ok v w ∧ CVr T m c v := by
 unfold symBin at h
 split at h
 ·rename_i k a k' b
  obtain ⟨n1, e1, rfl, r1⟩ := Rd.int_inv h1
  obtain ⟨n2, e2, rfl, r2⟩ := Rd.int_inv h2
  have hg : ∀ (u : Sem Value), (do eqGuard op xt x y (.int k n1) (.int k' n2); u : Sem Value).run P w = u.run P w := fun u => by
   unfold eqGuard; split <;> simp [go_sem]
  rw [hg]
  split at h
  ·cases h
   have := hn _ (List.mem_singleton.2 rfl)
   simp only [E.den, O.den, e2, DV.int, DV.bool, decide_eq_true_eq] at this
   refine ⟨_, by simp [binOp, Op.shift, show ¬ n2 < 0 by omega, go_sem]; rfl, ?_⟩
   rw [cvr_c]
   simp only [E.den, O.den, e1, e2, DV.int]
   exact .int (wrap_in _ _)
  ·cases h
   have := hn _ (List.mem_singleton.2 rfl)
   simp only [E.den, O.den, e2, DV.int, DV.bool, decide_eq_true_eq] at this
   refine ⟨_, by simp [binOp, Op.shift, show ¬ n2 < 0 by omega, go_sem]; rfl, ?_⟩
   rw [cvr_c]
   simp only [E.den, O.den, e1, e2, DV.int]
   exact .int (fdiv_in _ r1)
  ·rename_i hs1 hs2
   split at h
   ·rename_i hk
    subst hk
    have hbit : ∀ z : Nat, Rd T m.w m.S (.int k) (.I (k.wrap z)) (.int k (k.wrap z)) := fun z => .int (wrap_in _ _)
    split at h
    ·injection h with h; exact ⟨_, by simp [binOp, Op.intArith, go_sem]; rfl, arith_ok h (by simp only [E.den, O.den, e1, e2, DV.int]) hn⟩
    ·injection h with h; exact ⟨_, by simp [binOp, Op.intArith, go_sem]; rfl, arith_ok h (by simp only [E.den, O.den, e1, e2, DV.int]) hn⟩
    ·injection h with h; exact ⟨_, by simp [binOp, Op.intArith, go_sem]; rfl, arith_ok h (by simp only [E.den, O.den, e1, e2, DV.int]) hn⟩
    ·cases h
     have := nz_ok e2 hn.left
     exact ⟨_, by simp [binOp, Op.intDiv, this, go_sem]; rfl, arith_ok rfl (by simp only [E.den, O.den, e1, e2, DV.int]) hn.right⟩
    ·cases h
     have := nz_ok e2 hn
     refine ⟨_, by simp [binOp, Op.intDiv, this, go_sem]; rfl, ?_⟩
     rw [cvr_c]
     simp only [E.den, O.den, e1, e2, DV.int]
     exact .int (tmod_in r1 this)
    ·cases h; exact ⟨_, by simp [binOp, Op.intBits, go_sem]; rfl, by rw [cvr_c]; simp only [E.den, O.den, e1, e2, DV.int]; exact hbit _⟩
    ·cases h; exact ⟨_, by simp [binOp, Op.intBits, go_sem]; rfl, by rw [cvr_c]; simp only [E.den, O.den, e1, e2, DV.int]; exact hbit _⟩
    ·cases h; exact ⟨_, by simp [binOp, Op.intBits, go_sem]; rfl, by rw [cvr_c]; simp only [E.den, O.den, e1, e2, DV.int]; exact hbit _⟩
    ·cases h; exact ⟨_, by simp [binOp, Op.intBits, go_sem]; rfl, by rw [cvr_c]; simp only [E.den, O.den, e1, e2, DV.int]; exact hbit _⟩
    ·cases hc : cmpI op a b with
     | none => rw [hc] at h; cases h
     | some e =>
      rw [hc] at h
      cases h
      unfold cmpI at hc
      split at hc <;> cases hc <;> refine ⟨_, by simp [binOp, Op.intCmp, go_sem]; rfl, ?_⟩ <;> rw [cvr_c] <;>
       simp only [E.den, O.den, U.den, e1, e2, DV.int, DV.bool] <;> first | exact .bool | (refine (?_ : Rd T m.w m.S .bool (.B _) (.bool _))) <;>
       simp only [← decide_not, Int.not_lt, Int.not_le, bne, beq_eq_decide] <;> first | exact .bool | exact Rd.bool
   ·cases h
 ·rename_i a b
  obtain ⟨n1, e1, rfl⟩ := Rd.bool_inv h1
  obtain ⟨n2, e2, rfl⟩ := Rd.bool_inv h2
  have hg : ∀ (u : Sem Value), (do eqGuard op xt x y (.bool n1) (.bool n2); u : Sem Value).run P w = u.run P w := fun u => by
   unfold eqGuard; split <;> simp [go_sem]
  rw [hg]
  split at h
  ·rename_i hu
   cases h
   refine ⟨.bool (n1 == n2), by simp [binOp, run_equal_bool _ _ _ _ (hT.und hu), go_sem], ?_⟩
   rw [cvr_c]
   simp only [E.den, O.den, e1, e2, DV.bool]
   exact .bool
  ·rename_i hu
   cases h
   refine ⟨.bool (!(n1 == n2)), by simp [binOp, run_equal_bool _ _ _ _ (hT.und hu), go_sem], ?_⟩
   rw [cvr_c]
   simp only [E.den, O.den, U.den, e1, e2, DV.bool]
   exact .bool
  ·cases h
 ·rename_i a b
  obtain ⟨n1, e1, rfl, r1⟩ := Rd.str_inv h1
  obtain ⟨n2, e2, rfl, r2⟩ := Rd.str_inv h2
  have hg : ∀ (u : Sem Value), (do eqGuard op xt x y (.string n1) (.string n2); u : Sem Value).run P w = u.run P w := fun u => by
   unfold eqGuard; split <;> simp [go_sem]
  rw [hg]
  split at h
  ·cases h
   have := hn _ (List.mem_singleton.2 rfl)
   simp only [E.den, O.den, U.den, e1, e2, DV.int, DV.bool, DV.str, decide_eq_true_eq] at this
   have hs : (n1 ++ n2).size = n1.size + n2.size := by simp
   have z1 : n1.data.toList.length = n1.size := rfl
   have z2 : n2.data.toList.length = n2.size := rfl
   have hq : n1.size + n2.size ≤ bL := by omega
   refine ⟨.string (n1 ++ n2), ?_, ?_⟩
   ·have hl : ¬ IntKind.i64.max < ((n1.size + n2.size : Nat) : Int) := by
     have : IntKind.i64.max = 9223372036854775807 := rfl
     unfold bL at *
     omega
    simp only [binOp, Op.stringOp]
    rw [if_neg hl]
    rfl
   ·rw [cvr_c]
    simp only [E.den, O.den, e1, e2, DV.str]
    have hd : (n1 ++ n2).data.toList = n1.data.toList ++ n2.data.toList := by simp
    rw [← hd]
    exact .str (by rw [hs]; exact hq)
  ·cases hc : cmpS op a b with
   | none => rw [hc] at h; cases h
   | some e =>
    rw [hc] at h
    cases h
    have hb := blt_eq n1.data.toList n2.data.toList
    have q1 : n1.toList = n1.data.toList := ByteArray.toList_eq n1
    have q2 : n2.toList = n2.data.toList := ByteArray.toList_eq n2
    unfold cmpS at hc
    split at hc <;> cases hc <;> refine ⟨_, by simp [binOp, Op.stringOp, go_sem]; rfl, ?_⟩ <;> rw [cvr_c] <;>
     simp only [E.den, O.den, U.den, e1, e2, DV.str, DV.bool, q1, q2, hb, Bool.not_or] <;> exact .bool
 ·cases h
end
def upf {α : Type} (f : Nat → α) (k : Nat) (v : α) : Nat → α := fun x => if x = k then v else f x
theorem upf_same {α : Type} (f : Nat → α) (k : Nat) (v : α) : upf f k v k = v := if_pos rfl
theorem upf_ne {α : Type} (f : Nat → α) {k x : Nat} (v : α) (h : x ≠ k) : upf f k v x = f x := if_neg h
def upl (h : Nat → Blk) : List (Nat × Blk) → Nat → Blk
 | [] => h
 | (b, x) :: l => upl (upf h b x) l
section
variable {T : Tab} {m m' : Mem} {w0 : W0} {S0 : Nat → Prop} {b : Nat} {x : Blk}
theorem BlkR.keep (hK : Keep T m m') (he : m'.env = m.env) (hρ : m'.ρ b = m.ρ b) (hw : x.live = true → ∀ q, m.at_ b = some q → m'.w.heap[q]? = m.w.heap[q]?)
  (hS : ∀ q, m.S q → m'.w.heap[q]? = m.w.heap[q]?) (hS' : ∀ q, m.S q → m'.S q) (h : BlkR T m b x) : BlkR T m' b x := by
 cases x with
 | no => trivial
 | dead => trivial
 | box l =>
  obtain ⟨q, c, t, h1, h2, h3⟩ := h
  exact ⟨q, c, t, hρ.trans h1, (hw rfl q (by simp [Mem.at_, h1])).trans h2, hK.cs h3⟩
 | arr el e fz =>
  obtain ⟨rows, cks, h1, h2, h3, h4, h5⟩ := h
  refine ⟨rows, cks, by rw [he]; exact h1, h2, h3, h4, ?_⟩
  rcases h5 with ⟨h5, h6⟩ | ⟨q, base, c, t, h5, h6, h7, h8, h9⟩
  ·exact .inl ⟨hρ.trans h5, h6⟩
  ·refine .inr ⟨q, base, c, t, hρ.trans h5, (hw rfl q (by simp [Mem.at_, h5])).trans h6, h7, fun i j r d k hi hj hk => ?_, fun hf => hS' _ (h9 hf)⟩
   obtain ⟨u, hu, hr⟩ := h8 i j r d k hi hj hk
   exact ⟨u, hu, hr.keep hS hS'⟩
theorem BlkR.lt {q : Nat} (h : BlkR T m b x) (hl : x.live = true) (hq : m.at_ b = some q) : q < m.w.heap.size := by
 have key : ∀ {c t}, m.w.heap[q]? = some (Obj.cells c t (0, 0)) → q < m.w.heap.size := fun h => (Array.getElem?_eq_some_iff.1 h).1
 cases x with
 | no => cases hl
 | dead => cases hl
 | box l =>
  obtain ⟨q', c, t, h1, h2, h3⟩ := h
  simp [Mem.at_, h1] at hq
  subst hq
  exact key h2
 | arr el e fz =>
  obtain ⟨rows, cks, h1, h2, h3, h4, h5⟩ := h
  rcases h5 with ⟨h5, h6⟩ | ⟨q', base, c, t, h5, h6, h7, h8, h9⟩
  ·simp [Mem.at_, h5] at hq
  ·simp [Mem.at_, h5] at hq
   subst hq
   exact key h6
theorem mok_gen (h : MOk T w0 S0 m) (X : Nat → Prop) (he : m'.env = m.env) (hS : m'.S = m.S) (hw : ∀ q, m.S q → m'.w.heap[q]? = m.w.heap[q]?) (hlow : Low w0 m'.w)
  (hsz : m.w.heap.size ≤ m'.w.heap.size) (hX : ∀ b, ¬ X b → m'.h b = m.h b ∧ m'.ρ b = m.ρ b ∧ ((m.h b).live = true → ∀ q, m.at_ b = some q → m'.w.heap[q]? = m.w.heap[q]?))
  (hk : ∀ b, X b → m.h b ≠ .no → m'.h b = .dead ∨ (m'.ρ b = m.ρ b ∧ Alike m.env (m.h b) (m'.h b)))
  (hb : Keep T m m' → ∀ b, X b → BlkR T m' b (m'.h b))
  (hinj : ∀ b b' q, X b → (m'.h b).live = true → (m'.h b').live = true → m'.at_ b = some q → m'.at_ b' = some q → b = b')
  (hnew : ∀ b q, X b → (m'.h b).live = true → m'.at_ b = some q → w0.has q ∧ ((m'.h b).frz = false → ¬ m.S q)) : Keep T m m' ∧ MOk T w0 S0 m' := by
 have hK : Keep T m m' := keep_gen he hw (fun q hq => by rw [hS]; exact hq) fun b hb => by
  by_cases x : X b
  ·exact hk b x hb
  ·exact .inr ⟨(hX b x).2.1, .inl (hX b x).1.symm⟩
 have hat : ∀ b, ¬ X b → m'.at_ b = m.at_ b := fun b hb => by unfold Mem.at_; rw [(hX b hb).2.1]
 refine ⟨hK, ⟨fun b => ?_, fun b b' q l l' a a' => ?_, fun b q l a => ?_, fun q hq => ?_, hlow, fun q hq => by rw [hS]; exact h.s0 q hq, fun q hq => h.s1 q (by rw [← hS]; exact hq), h.s2, fun b p hp => ?_⟩⟩
 ·by_cases x : X b
  ·exact hb hK b x
  ·obtain ⟨h1, h2, h3⟩ := hX b x
   rw [h1]
   exact BlkR.keep hK he h2 h3 hw (fun q hq => by rw [hS]; exact hq) (h.blk b)
 ·by_cases x : X b
  ·exact hinj b b' q x l l' a a'
  ·by_cases x' : X b'
   ·exact (hinj b' b q x' l' l a' a).symm
   ·rw [(hX b x).1] at l
    rw [(hX b' x').1] at l'
    exact h.inj b b' q l l' (by rw [← hat b x]; exact a) (by rw [← hat b' x']; exact a')
 ·rw [hS]
  by_cases x : X b
  ·exact hnew b q x l a
  ·rw [(hX b x).1] at l ⊢
   exact h.new b q l (by rw [← hat b x]; exact a)
 ·rw [hS] at hq
  exact Nat.lt_of_lt_of_le (h.sz q hq) hsz
 ·obtain ⟨n1, n2⟩ := h.kept b p hp
  by_cases x : X b
  ·rcases hk b x n1 with d | ⟨d1, d2⟩
   ·rw [d]; exact ⟨by simp, fun l => by cases l⟩
   ·rcases d2 with d2 | ⟨_, _, d2, d3⟩ | ⟨_, _, _, _, _, _, _, d2, d3, _⟩
    ·rw [← d2, d1]; exact ⟨n1, n2⟩
    ·rw [d3]; exact ⟨by simp, fun _ => d1.trans (n2 (by rw [d2]; rfl))⟩
    ·rw [d3]; exact ⟨by simp, fun _ => d1.trans (n2 (by rw [d2]; rfl))⟩
  ·rw [(hX b x).1, (hX b x).2.1]; exact ⟨n1, n2⟩
theorem mok_grow (h : MOk T w0 S0 m) {w' : World} (hw : Below m.w.heap.size m.w w') : Keep T m { m with w := w' } ∧ MOk T w0 S0 { m with w := w' } :=
 mok_gen h (fun _ => False) rfl rfl (fun q hq => hw.block q (h.sz q hq)) (h.low.below hw) hw.size
  (fun b _ => ⟨rfl, rfl, fun l q hq => hw.block q ((h.blk b).lt l hq)⟩) (fun _ h => h.elim) (fun _ _ h => h.elim) (fun _ _ _ h => h.elim) (fun _ _ h => h.elim)
theorem mok_born (h : MOk T w0 S0 m) (hno : m.h b = .no) (c : Array Value) (t : TypeId) (base : Nat) (hx : x.live = true) (hf : x.frz = false)
  (hb : Keep T m { m with w := m.w.alloc (.cells c t), ρ := upf m.ρ b (some (m.w.heap.size, base, c.size)), h := upf m.h b x } → BlkR T { m with w := m.w.alloc (.cells c t), ρ := upf m.ρ b (some (m.w.heap.size, base, c.size)), h := upf m.h b x } b x) :
  Keep T m { m with w := m.w.alloc (.cells c t), ρ := upf m.ρ b (some (m.w.heap.size, base, c.size)), h := upf m.h b x } ∧ MOk T w0 S0 { m with w := m.w.alloc (.cells c t), ρ := upf m.ρ b (some (m.w.heap.size, base, c.size)), h := upf m.h b x } := by
 have hlow := h.low.size
 refine mok_gen h (fun y => y = b) rfl rfl (fun q hq => Below.heap_alloc _ _ _ (h.sz q hq)) (h.low.alloc _) (by simp) (fun y hy => ⟨upf_ne _ _ hy, upf_ne _ _ hy, fun l q hq => Below.heap_alloc _ _ _ ((h.blk y).lt l hq)⟩)
  (fun y hy hn => by subst hy; exact absurd hno hn) (fun hK y hy => by subst hy; dsimp only; rw [show upf m.h y x y = x from upf_same _ _ _]; exact hb hK) (fun y y' q hy l l' a a' => ?_) (fun y q hy l a => ?_)
 ·subst hy
  by_cases e : y' = y
  ·exact e.symm
  ·simp only [Mem.at_, upf_same] at a
   simp only [Mem.at_, upf_ne _ _ e] at a'
   dsimp only at l'
   rw [show upf m.h y x y' = m.h y' from upf_ne _ _ e] at l'
   have := (h.blk y').lt l' a'
   simp at a
   omega
 ·subst hy
  simp only [Mem.at_, upf_same] at a
  simp at a
  subst a
  exact ⟨.inl hlow, fun _ hs => by have := h.sz _ hs; omega⟩
theorem mok_put (h : MOk T w0 S0 m) (hl : (m.h b).live = true) (hz : (m.h b).frz = false) {w' : World} (hw : ∀ q, m.at_ b ≠ some q → w'.heap[q]? = m.w.heap[q]?) (hsz : w'.heap.size = m.w.heap.size)
  (hlow : Low w0 w') (hal : Alike m.env (m.h b) x) (hx : x.live = true) (hf : x.frz = false) (hb : Keep T m { m with w := w', h := upf m.h b x } → BlkR T { m with w := w', h := upf m.h b x } b x) :
  Keep T m { m with w := w', h := upf m.h b x } ∧ MOk T w0 S0 { m with w := w', h := upf m.h b x } := by
 refine mok_gen h (fun y => y = b) rfl rfl (fun q hq => hw q fun e => (h.new b q hl e).2 hz hq) hlow (by simp [hsz]) (fun y hy => ⟨upf_ne _ _ hy, rfl, fun l q hq => hw q fun e => hy (h.inj y b q l hl hq e)⟩)
  (fun y hy hn => .inr ⟨rfl, by subst hy; dsimp only; rw [show upf m.h y x y = x from upf_same _ _ _]; exact hal⟩) (fun hK y hy => by subst hy; dsimp only; rw [show upf m.h y x y = x from upf_same _ _ _]; exact hb hK) (fun y y' q hy l l' a a' => ?_) (fun y q hy l a => ?_)
 ·subst hy
  by_cases e : y' = y
  ·exact e.symm
  ·dsimp only at l'
   rw [show upf m.h y x y' = m.h y' from upf_ne _ _ e] at l'
   exact h.inj y y' q hl l' a a'
 ·subst hy
  exact ⟨(h.new y q hl a).1, fun _ => (h.new y q hl a).2 hz⟩
theorem mok_freeze (h : MOk T w0 S0 m) {el : TypeId} {e : E} {fz : Bool} (hx : m.h b = .arr el e fz) : ∃ S, (∀ q, m.S q → S q) ∧ (∀ q, S q → m.S q ∨ m.at_ b = some q) ∧
  Keep T m { m with S := S, h := upf m.h b (.arr el e true) } ∧ MOk T w0 S0 { m with S := S, h := upf m.h b (.arr el e true) } := by
 refine ⟨fun q => m.S q ∨ m.at_ b = some q, fun q hq => .inl hq, fun q hq => hq, ?_⟩
 have hl : (m.h b).live = true := by rw [hx]; rfl
 have hK : Keep T m { m with S := fun q => m.S q ∨ m.at_ b = some q, h := upf m.h b (.arr el e true) } := keep_gen rfl (fun _ _ => rfl) (fun q hq => .inl hq) fun y hy => by
  by_cases hyb : y = b
  ·subst hyb
   obtain ⟨rows, cks, h1, _⟩ := hx ▸ h.blk y
   refine .inr ⟨rfl, .inr (.inr ⟨el, e, e, fz, true, rows, rows, hx, upf_same _ _ _, h1, h1, rfl⟩)⟩
  ·exact .inr ⟨rfl, .inl (upf_ne _ _ hyb).symm⟩
 refine ⟨hK, ⟨fun y => ?_, fun y y' q l l' a a' => ?_, fun y q l a => ?_, fun q hq => ?_, h.low, fun q hq => .inl (h.s0 q hq), fun q hq => ?_, h.s2, fun y p hp => ?_⟩⟩
 ·by_cases hyb : y = b
  ·subst hyb
   dsimp only
   rw [show upf m.h y (.arr el e true) y = .arr el e true from upf_same _ _ _]
   have := BlkR.keep (m' := { m with S := fun q => m.S q ∨ m.at_ y = some q, h := upf m.h y (.arr el e true) }) hK rfl rfl (fun _ _ _ => rfl) (fun _ _ => rfl) (fun q hq => .inl hq) (h.blk y)
   rw [hx] at this
   obtain ⟨rows, cks, h1, h2, h3, h4, h5⟩ := this
   refine ⟨rows, cks, h1, h2, h3, h4, ?_⟩
   rcases h5 with h5 | ⟨q, base, c, t, h5, h6, h7, h8, _⟩
   ·exact .inl h5
   ·exact .inr ⟨q, base, c, t, h5, h6, h7, h8, fun _ => .inr (by show (m.ρ y).map _ = _; rw [show m.ρ y = _ from h5]; rfl)⟩
  ·dsimp only
   rw [show upf m.h b (.arr el e true) y = m.h y from upf_ne _ _ hyb]
   exact BlkR.keep hK rfl rfl (fun _ _ _ => rfl) (fun _ _ => rfl) (fun q hq => .inl hq) (h.blk y)
 ·have hlv : ∀ y, (upf m.h b (.arr el e true) y).live = true → (m.h y).live = true := fun y l => by
   by_cases hyb : y = b
   ·subst hyb; exact hl
   ·rw [upf_ne _ _ hyb] at l; exact l
  exact h.inj y y' q (hlv y l) (hlv y' l') a a'
 ·by_cases hyb : y = b
  ·subst hyb
   dsimp only
   rw [show upf m.h y (.arr el e true) y = .arr el e true from upf_same _ _ _]
   exact ⟨(h.new y q hl a).1, fun hh => by cases hh⟩
  ·dsimp only at l ⊢
   rw [show upf m.h b (.arr el e true) y = m.h y from upf_ne _ _ hyb] at l ⊢
   refine ⟨(h.new y q l a).1, fun hh hs => ?_⟩
   rcases hs with hs | hs
   ·exact (h.new y q l a).2 hh hs
   ·exact hyb (h.inj y b q l hl a hs)
 ·rcases hq with hq | hq
  ·exact h.sz q hq
  ·exact (h.blk b).lt hl hq
 ·rcases hq with hq | hq
  ·exact h.s1 q hq
  ·exact .inr (h.new b q hl hq).1
 ·obtain ⟨n1, n2⟩ := h.kept y p hp
  by_cases hyb : y = b
  ·subst hyb
   dsimp only
   rw [show upf m.h y (.arr el e true) y = .arr el e true from upf_same _ _ _]
   exact ⟨by simp, fun _ => n2 hl⟩
  ·dsimp only
   rw [show upf m.h b (.arr el e true) y = m.h y from upf_ne _ _ hyb]
   exact ⟨n1, n2⟩
end
structure Pat where
 t0 : List SV
 h0 : List (Nat × Blk)
 n0 : Nat
 kb : Nat
 t1 : List SV
 h1 : List (Nat × Blk)
 n1 : Nat
structure Sig where
 params : List (Bool × List CK)
 results : List (Bool × List (CK × Bool))
 pat : Option Pat := none
structure Out where
 needs : List E := []
 call : Option (FuncId × List E × Nat) := none
 val : SV := .one .any
 upd : List (Nat × Blk) := []
def cvOf : Value → CV
 | .int k n => if k.min ≤ n ∧ n ≤ k.max then .c (.int k) (.I n) else .any
 | .bool x => .c .bool (.B x)
 | .string s => if s.size ≤ bL then .c .str (.S s.data.toList) else .any
 | .slice none 0 0 => .nl
 | _ => .any
def CV.sure (h : Nat → Blk) : CV → Bool
 | .any => false
 | .own b _ | .sub b _ _ _ | .rp b _ | .ap b _ _ _ _ => h b != .dead
 | _ => true
def SV.cells? (h : Nat → Blk) : SV → Option (List CV)
 | .one c => if c.sure h then some [c] else none
 | .agg l => some l
 | .tup _ => none
def immE (T : Tab) (h : Nat → Blk) : CK → CV → Option (List E × E × List (Nat × Blk))
 | k, .c k' e => if k = k' then some ([], e, []) else none
 | .lst el, .nl => if (T.cks el).isSome then some ([], .N, []) else none
 | .lst el, .own b el' => match h b with
  | .arr el'' e _ => if el = el' ∧ el = el'' then some ([], e, [(b, .arr el e true)]) else none
  | _ => none
 | .lst el, .sub b el' off len => match h b with
  | .arr el'' e _ => if el = el' ∧ el = el'' then some ([.O .le (.O .add off len) (.U .len e)], .O .tk (.O .dr e off) len, [(b, .arr el e true)]) else none
  | _ => none
 | _, _ => none
def immL (T : Tab) : (Nat → Blk) → List CK → List CV → Option (List E × List E × List (Nat × Blk))
 | _, [], [] => some ([], [], [])
 | h, k :: ks, c :: cs => do
  let (n, e, u) ← immE T h k c
  let (ns, es, us) ← immL T (upl h u) ks cs
  some (n ++ ns, e :: es, u ++ us)
 | _, _, _ => none
def rowE (es : List E) : E := es.foldl (fun r e => .O .cns r e) .R
def atE (cks : List CK) (l i : E) : List CV := cks.zipIdx.map fun (k, j) => .c k (.O (.at j) l i)
def isAggT (T : Tab) (t : TypeId) : Option Bool := match T.und t with
 | some (.struct _) => some true
 | some (.array _ _) => some true
 | some _ => some false
 | none => none
def pickT (T : Tab) (t : TypeId) (cs : List CV) : Option SV := do
 let n ← T.size t
 if ← isAggT T t then (if n ≤ cs.length then some (.agg (cs.take n)) else none)
 else if n = 1 then (cs.head?).map .one else none
def setL (cs : List CV) (off : Nat) (xs : List CV) : Option (List CV) :=
 if off + xs.length ≤ cs.length then some (cs.take off ++ xs ++ cs.drop (off + xs.length)) else none
def symLoad (T : Tab) (h : Nat → Blk) (t : TypeId) : SV → Option (List E × SV)
 | .one (.rp b off) => match h b with
  | .box l => (pickT T t (l.drop off)).map fun s => ([], s)
  | _ => none
 | .one (.ap b el row off eb) => match h b with
  | .arr el' e _ => do
   let cks ← T.cks el
   if el = el' then
    let s ← pickT T t ((atE cks e row).drop off)
    some (if e = eb then [] else [.O .lt row (.U .len e)], s)
   else none
  | _ => none
 | .one (.ip el l row off) => do
  let cks ← T.cks el
  let s ← pickT T t ((atE cks l row).drop off)
  some ([], s)
 | _ => none
def symStore (T : Tab) (h : Nat → Blk) (t : TypeId) (v : SV) : SV → Option (List E × List (Nat × Blk))
 | .one (.rp b off) => match h b with
  | .box l => do
   let cs ← v.cells? h
   if T.size t = some cs.length then
    let l' ← setL l off cs
    some ([], [(b, .box l')])
   else none
  | _ => none
 | .one (.ap b el row off eb) => match h b with
  | .arr el' e false => do
   let cks ← T.cks el
   let cs ← v.cells? h
   if el = el' ∧ T.size t = some cs.length ∧ 0 < cs.length then
    let (ns, es, us) ← immL T h ((cks.drop off).take cs.length) cs
    if us.any (fun u => u.1 == b) then none else
    let old := (List.range cks.length).map fun j => E.O (.at j) e row
    some (ns ++ (if e = eb then [] else [.O .lt row (.U .len e)]), us ++ [(b, .arr el (.P e row (rowE (old.take off ++ es ++ old.drop (off + es.length)))) false)])
   else none
  | _ => none
 | _ => none
def placesT (T : Tab) (t : TypeId) : Option (Nat → Option (Nat × Nat)) := match T.und t with
 | some (.struct fs) => (fs.toList.mapM fun f => (T.info f.type).map fun i => (f.offset, i.size)).map fun l i => l[i]?
 | some (.array _ e) => (T.size e).map fun n i => some (i * n, n)
 | _ => none
def zeroL (T : Tab) (t : TypeId) : Option (List CV) := do
 let i ← T.info t
 let z ← i.zero
 if z.cells.toList.all (·.oneCell') then some (z.cells.toList.map cvOf) else none
def symBuild (h : Nat → Blk) (place : Nat → Option (Nat × Nat)) : List (Nat × SV) → List CV → Option (List CV)
 | [], cs => some cs
 | (i, s) :: r, cs => do
  let (off, n) ← place i
  let xs ← s.cells? h
  if xs.length = n then do let cs' ← setL cs off xs; symBuild h place r cs' else none
def buildT (T : Tab) (h : Nat → Blk) (t : TypeId) (parts : List (Nat × SV)) : Option (List CV) := do
 let pl ← placesT T t
 let z ← zeroL T t
 symBuild h pl parts z
def elemOfT (T : Tab) (t : TypeId) : Option TypeId := match T.und t with
 | some (.slice e) => some e
 | _ => none
def appE (rows : List E) : E := rows.foldl (fun l r => .O .app l (.U .one r)) .N
def symField (T : Tab) (t : TypeId) (f : Nat) : SV → Option SV
 | .agg cs => match T.und t with
  | some (.struct fs) => do let g ← fs[f]?; pickT T g.type (cs.drop g.offset)
  | _ => none
 | _ => none
def symFieldAddr (T : Tab) (h : Nat → Blk) (t : TypeId) (f : Nat) : SV → Option SV
 | .one c => match T.und t with
  | some (.struct fs) => do
   let g ← fs[f]?
   let n ← T.size g.type
   if n = 0 || !c.sure h then none else
   match c with
   | .rp b off => some (.one (.rp b (off + g.offset)))
   | .ap b el row off eb => some (.one (.ap b el row (off + g.offset) eb))
   | .ip el l row off => some (.one (.ip el l row (off + g.offset)))
   | _ => none
  | _ => none
 | _ => none
def within (i n : E) : List E := [.O .and (.O .le (.I 0) i) (.O .lt i n)]
def symIndexAddr (T : Tab) (h : Nat → Blk) (t : TypeId) (x i : SV) : Option (List E × SV) := match i with
 | .one (.c (.int _) ie) => match T.und t, x with
  | some (.slice el), .one (.c (.lst el') l) => if el = el' then some (within ie (.U .len l), .one (.ip el l ie 0)) else none
  | some (.slice el), .one (.own b el') => match h b with
   | .arr el'' e _ => if el = el' ∧ el = el'' then some (within ie (.U .len e), .one (.ap b el ie 0 e)) else none
   | _ => none
  | some (.slice el), .one (.sub b el' off len) => match h b with
   | .arr el'' e _ => if el = el' ∧ el = el'' then some (within ie len ++ [.O .lt (.O .add off ie) (.U .len e)], .one (.ap b el (.O .add off ie) 0 e)) else none
   | _ => none
  | some (.array n el), .one (.rp b off) => do
   let sz ← T.size el
   match ie with
   | .I k => if 0 ≤ k ∧ k < n ∧ h b ≠ .dead then some ([], .one (.rp b (off + k.toNat * sz))) else none
   | _ => none
  | _, _ => none
 | _ => none
def symIndex (T : Tab) (t : TypeId) (x i : SV) : Option (List E × SV) := match i with
 | .one (.c (.int _) ie) => match T.und t, x with
  | some .string, .one (.c .str s) => some (within ie (.U .slen s), .one (.c (.int .u8) (.O .sat s ie)))
  | some (.array n el), .agg cs => do
   let sz ← T.size el
   match ie with
   | .I k => if 0 ≤ k ∧ k < n then (pickT T el (cs.drop (k.toNat * sz))).map fun s => ([], s) else none
   | _ => none
  | _, _ => none
 | _ => none
def boundE : Option SV → E → Option E
 | none, d => some d
 | some (.one (.c (.int _) e)), _ => some e
 | _, _ => none
def symSlice (T : Tab) (h : Nat → Blk) (t : TypeId) (x : SV) (lo hi : Option SV) : Option (List E × SV) := match T.und t, x with
 | some (.slice el), .one (.c (.lst el') l) => do
  let a ← boundE lo (.I 0)
  let b ← boundE hi (.U .len l)
  if el = el' then some ([.O .and (.O .le (.I 0) a) (.O .and (.O .le a b) (.O .le b (.U .len l)))], .one (.c (.lst el) (.O .tk (.O .dr l a) (.O .sub b a)))) else none
 | some (.slice el), .one (.own b' el') => match h b' with
  | .arr el'' e _ => do
   let a ← boundE lo (.I 0)
   let b ← boundE hi (.U .len e)
   if el = el' ∧ el = el'' then some ([.O .and (.O .le (.I 0) a) (.O .and (.O .le a b) (.O .le b (.U .len e)))], .one (.sub b' el a (.O .sub b a))) else none
  | _ => none
 | some (.slice el), .one (.sub b' el' off len) => match h b' with
  | .arr el'' _ _ => do
   let a ← boundE lo (.I 0)
   let b ← boundE hi len
   if el = el' ∧ el = el'' then some ([.O .and (.O .le (.I 0) a) (.O .and (.O .le a b) (.O .le b len))], .one (.sub b' el (.O .add off a) (.O .sub b a))) else none
  | _ => none
 | some .string, .one (.c .str s) => do
  let a ← boundE lo (.I 0)
  let b ← boundE hi (.U .slen s)
  some ([.O .and (.O .le (.I 0) a) (.O .and (.O .le a b) (.O .le b (.U .slen s)))], .one (.c .str (.O .sdr (.O .stk s b) a)))
 | _, _ => none
def extE (p : Bool × List CV) : Option SV := if p.1 then some (.agg p.2) else match p.2 with
 | [c] => some (.one c)
 | _ => none
def symExtract (i : Nat) : SV → Option SV
 | .tup l => do let p ← l[i]?; extE p
 | _ => none
def symUn (op : UnOp) : CV → Option (List E × CV)
 | .c .bool e => match op with
  | .not => some ([], .c .bool (.U .not e))
  | _ => none
 | .c (.int k) e => match op with
  | .neg => some (arith k (.O .sub (.I 0) e))
  | .xor => some ([], .c (.int k) (.O (.bxor k) (.I (if k.signed then -1 else k.max)) e))
  | _ => none
 | _ => none
def symConv (T : Tab) (src dst : TypeId) : CV → Option CV
 | .c (.int k') e => match T.und src, T.und dst with
  | some _, some (.int k) => some (.c (.int k) (if k.min ≤ k'.min ∧ k'.max ≤ k.max then e else .U (.wrap k) e))
  | _, _ => none
 | .c .str e => match T.und src, T.und dst with
  | some _, some .string => some (.c .str e)
  | _, _ => none
 | _ => none
def symLen (h : Nat → Blk) (T : Tab) (t : TypeId) : SV → Option E
 | .one (.c .str e) => match T.und t with
  | some .string => some (.U .slen e)
  | _ => none
 | .one (.c (.lst _) e) => match T.und t with
  | some (.slice _) => some (.U .len e)
  | _ => none
 | .one .nl => match T.und t with
  | some (.slice _) => some (.I 0)
  | _ => none
 | .one (.own b _) => match T.und t, h b with
  | some (.slice _), .arr _ e _ => some (.U .len e)
  | _, _ => none
 | .one (.sub b _ _ len) => match T.und t, h b with
  | some (.slice _), .arr _ _ _ => some len
  | _, _ => none
 | .one (.rp _ _) => match T.und t with
  | some (.array n _) => if n ≤ bL then some (.I n) else none
  | _ => none
 | .agg _ => match T.und t with
  | some (.array n _) => if n ≤ bL then some (.I n) else none
  | _ => none
 | _ => none
def mmE (o : Bool) : CV → List CV → Option CV
 | .c (.int k) a, [] => some (.c (.int k) a)
 | .c (.int k) a, .c (.int k') b :: r => if k = k' then mmE o (.c (.int k) (.O (if o then .max else .min) a b)) r else none
 | _, _ => none
def onesOf : List SV → Option (List CV)
 | [] => some []
 | .one c :: r => (onesOf r).map (c :: ·)
 | _ => none
def fitsT (T : Tab) (t : TypeId) : Bool := match T.info t with
 | some i => decide (i.bytes ≤ 100)
 | none => false
def sumFits (a b : E) : List E := [.O .le (.O .add a b) (.I 1099511627776)]
def baseE (h : Nat → Blk) (el : TypeId) : SV → Option (E × Option Nat × List E)
 | .one .nl => some (.N, none, [])
 | .one (.own b el') => match h b with
  | .arr el'' e false => if el = el' ∧ el = el'' then some (e, some b, []) else none
  | _ => none
 | .one (.sub b el' off len) => match h b with
  | .arr el'' e false => if el = el' ∧ el = el'' then some (.O .tk (.O .dr e off) len, some b, [.O .le (.O .add off len) (.U .len e)]) else none
  | _ => none
 | _ => none
def killL : Option Nat → List (Nat × Blk)
 | none => []
 | some b => [(b, .dead)]
def symAppend (T : Tab) (h : Nat → Blk) (nb : Nat) (t : TypeId) (base x : SV) : Option Out := do
 let el ← elemOfT T t
 let cks ← T.cks el
 let z ← zeroL T el
 if !(fitsT T el && z.length == cks.length) then none else
 let (be, kill, nsub) ← baseE h el base
 match x with
 | .one (.c .str s) => if cks = [.int .u8] then some { needs := nsub ++ sumFits (.U .len be) (.U .slen s), val := .one (.own nb el), upd := killL kill ++ [(nb, .arr el (.O .app be (.U (.ofB 0) s)) false)] } else none
 | .one c => do
  let (ns, e, us) ← immE T h (.lst el) c
  if us.any (fun u => kill == some u.1) then none else
  some { needs := nsub ++ (ns ++ sumFits (.U .len be) (.U .len e)), val := .one (.own nb el), upd := us ++ (killL kill ++ [(nb, .arr el (.O .app be e) false)]) }
 | _ => none
def symMake (T : Tab) (h : Nat → Blk) (nb : Nat) (t : TypeId) (l c : SV) : Option Out := match l, c with
 | .one (.c (.int _) le), .one (.c (.int _) ce) => do
  let el ← elemOfT T t
  let cks ← T.cks el
  let z ← zeroL T el
  if !fitsT T el then none else
  let (ns, es, us) ← immL T h cks z
  some { needs := ns ++ [.O .and (.O .le (.I 0) le) (.O .and (.O .le le ce) (.O .le ce (.I 1099511627776)))], val := .one (.own nb el), upd := us ++ [(nb, .arr el (.O .rep le (rowE es)) false)] }
 | _, _ => none
def symLit (T : Tab) (h : Nat → Blk) (nb : Nat) (t : TypeId) (n : Nat) (parts : List (Nat × SV)) : Option Out := do
 let el ← elemOfT T t
 let cks ← T.cks el
 let z ← zeroL T el
 let sz := cks.length
 if !decide (n * sz ≤ 4194304 ∧ z.length = sz) then none else
 let cs ← symBuild h (fun i => some (i * sz, sz)) parts ((List.range (n * sz)).map fun k => z.getD (k % sz) .any)
 let (ns, es, us) ← immL T h ((List.range (n * sz)).map fun k => cks.getD (k % sz) .bool) cs
 some { needs := ns, val := .one (.own nb el), upd := us ++ [(nb, .arr el (appE ((List.range n).map fun i => rowE ((es.drop (i * sz)).take sz))) false)] }
section
variable {P : Program} {T : Tab} {m m' : Mem} {w0 : W0} {S0 : Nat → Prop} {w : World}
theorem Rd.one {S : Nat → Prop} {k : CK} {d : DV} {v : Value} (h : Rd T w S k d v) : v.oneCell' = true := by cases h <;> rfl
theorem SlR.one {b : Nat} {el : TypeId} {off len cap : Nat} {v : Value} (h : SlR T m b el off len cap v) : v.oneCell' = true := by
  unfold SlR at h
  split at h
  · obtain ⟨_, _, rfl⟩ := h; rfl
  · obtain ⟨_, _, _, rfl, _⟩ := h; rfl
theorem CVr.one {c : CV} {v : Value} (h : CVr T m c v) (hs : c.sure m.h = true) : v.oneCell' = true := by
  cases c with
  | any => cases hs
  | c k e => exact Rd.one h
  | nl => rw [show v = _ from h]; rfl
  | fn f => rw [show v = _ from h]; rfl
  | ip el l row off => obtain ⟨_, _, _, _, _, _, _, _, _, _, _, rfl⟩ := h; rfl
  | own b el => rcases h with h | ⟨_, _, _, _, _, _, h⟩; · simp [CV.sure, h] at hs
                · exact h.one
  | sub b el off len => rcases h with h | ⟨_, _, _, _, _, _, _, _, h, _⟩; · simp [CV.sure, h] at hs
                        · exact h.one
  | rp b off => rcases h with h | ⟨_, _, _, _, _, rfl⟩; · simp [CV.sure, h] at hs
                · rfl
  | ap b el row off eb => rcases h with h | ⟨_, _, _, _, _, _, _, _, _, _, _, _, _, _, rfl⟩; · simp [CV.sure, h] at hs
                          · rfl
theorem cells_one {v : Value} (h : v.oneCell' = true) : v.cells = #[v] := by cases v <;> first | rfl | cases h
theorem cvOf_ok (v : Value) : CVr T m (cvOf v) v := by
  cases v with
  | int k n =>
    show CVr T m (if k.min ≤ n ∧ n ≤ k.max then CV.c (CK.int k) (E.I n) else CV.any) _
    split
    · exact Rd.int (by assumption)
    · trivial
  | bool x => exact Rd.bool
  | string s =>
    show CVr T m (if s.size ≤ bL then CV.c CK.str (E.S s.data.toList) else CV.any) _
    split
    · exact Rd.str (by assumption)
    · trivial
  | slice a l c =>
    cases a with
    | some a => trivial
    | none => cases l with
      | succ n => trivial
      | zero => cases c with
        | succ n => trivial
        | zero => rfl
  | _ => trivial
theorem cells_ok {s : SV} {v : Value} {cs : List CV} (h : SVr T m s v) (hc : s.cells? m.h = some cs) : CsR T m cs v.cells.toList := by
  cases s with
  | one c =>
    simp only [SV.cells?] at hc
    split at hc
    · rename_i hs
      cases hc
      have h1 := CVr.one h hs
      rw [cells_one h1]
      refine ⟨rfl, fun j c' hj => ?_⟩
      cases j with
      | zero => cases hj; exact ⟨v, rfl, h1, h⟩
      | succ j => cases hj
    · cases hc
  | agg l =>
    cases hc
    obtain ⟨a, rfl, h2⟩ := h
    exact h2
  | tup l => cases hc
structure Froze (T : Tab) (w0 : W0) (S0 : Nat → Prop) (m : Mem) (us : List (Nat × Blk)) (m' : Mem) : Prop where
  env : m'.env = m.env
  w : m'.w = m.w
  ρ : m'.ρ = m.ρ
  h : m'.h = upl m.h us
  S : ∀ q, m.S q → m'.S q
  keep : Keep T m m'
  ok : MOk T w0 S0 m'
theorem sub_rows {env : List DV} {e off len : E} {rows : List (List DV)} {o l : Nat} (h1 : e.den env = .L rows) (h2 : off.den env = .I o) (h3 : len.den env = .I l) : (E.O .tk (.O .dr e off) len).den env = .L ((rows.drop o).take l) := by
  simp [E.den, O.den, h1, h2, h3, DV.rows, DV.int]
theorem size_cks {el : TypeId} {sz : Nat} {cks : List CK} (h : T.size el = some sz) (hk : T.cks el = some cks) : sz = cks.length := by
  have := (Tab.cks_size hk).1
  rw [h] at this
  exact Option.some.inj this
theorem froze_rd (hm : ∀ b, BlkR T m b (m.h b)) {b : Nat} {el : TypeId} {e : E} {rows : List (List DV)} {o l cap : Nat} {v : Value} (hb : m.h b = .arr el e true) (he : e.den m.env = .L rows) (hol : o + l ≤ rows.length) (hs : SlR T m b el o l cap v) :
    Rd T m.w m.S (.lst el) (.L ((rows.drop o).take l)) v := by
  have hbb := hm b
  rw [hb] at hbb
  obtain ⟨rows', cks, h1, h2, h3, h4, h5⟩ := hbb
  rw [he] at h1
  cases h1
  have hlen : ((rows.drop o).take l).length = l := by simp; omega
  unfold SlR at hs
  rcases h5 with ⟨h5, h6⟩ | ⟨q, base, c, t, h5, h6, h7, h8, h9⟩
  · rw [h5] at hs
    obtain ⟨rfl, rfl, rfl⟩ := hs
    subst h6
    exact Rd.lst (q := 0) (o := 0) (fun _ _ => .bool true) h2 (by simp) (by simp) (fun h => absurd rfl h) (by simp) (fun i j hi => by simp at hi) (fun i j r d k hi => by simp at hi)
  · rw [h5] at hs
    obtain ⟨sz, ad, g1, rfl, g2, g3, g4⟩ := hs
    obtain rfl := size_cks g1 h2
    have hgu : ∀ i j r d k, ((rows.drop o).take l)[i]? = some r → r[j]? = some d → cks[j]? = some k → ∃ u, c[base + o * cks.length + (i * cks.length + j)]? = some u ∧ Rd T m.w m.S k d u := fun i j r d k hi hj hk => by
      rw [List.getElem?_take] at hi
      split at hi
      · rw [List.getElem?_drop] at hi
        obtain ⟨u, hu, hr⟩ := h8 (o + i) j r d k hi hj hk
        exact ⟨u, by rw [← hu]; congr 1; rw [Nat.add_mul]; omega, hr⟩
      · cases hi
    have hru : ∀ i j, i < ((rows.drop o).take l).length → j < cks.length → m.w.cell? ⟨q, base + o * cks.length + (i * cks.length + j), none⟩ = some ((c[base + o * cks.length + (i * cks.length + j)]?).getD (.bool true)) := fun i j hi hj => by
      rw [cell_of_row m.w q _ c t (0, 0) h6]
      obtain ⟨r, hr⟩ : ∃ r, ((rows.drop o).take l)[i]? = some r := ⟨_, List.getElem?_eq_getElem hi⟩
      have hrl : r.length = cks.length := h4 r (List.mem_of_mem_drop (List.mem_of_mem_take (List.mem_of_getElem? hr)))
      obtain ⟨d, hd⟩ : ∃ d, r[j]? = some d := ⟨_, List.getElem?_eq_getElem (by omega)⟩
      obtain ⟨k, hk⟩ : ∃ k, cks[j]? = some k := ⟨_, List.getElem?_eq_getElem hj⟩
      obtain ⟨u, hu, _⟩ := hgu i j r d k hr hd hk
      rw [hu]; rfl
    have := Rd.lst (T := T) (w := m.w) (S := m.S) (e := el) (rows := (rows.drop o).take l) (a := some ad) (cap := cap) (cks := cks) (q := q) (o := base + o * cks.length)
      (fun i j => (c[base + o * cks.length + (i * cks.length + j)]?).getD (.bool true)) h2 (by omega) (by omega) (fun hne => ⟨congrArg some (g2 (fun e => hne (List.eq_nil_of_length_eq_zero (by omega)))), h9 rfl⟩) (fun r hr => h4 r (List.mem_of_mem_drop (List.mem_of_mem_take hr))) hru
      (fun i j r d k hi hj hk => by obtain ⟨u, hu, hr⟩ := hgu i j r d k hi hj hk; rw [hu]; exact hr)
    rw [hlen] at this
    exact this
theorem imm_ok (hm : MOk T w0 S0 m) {k : CK} {c : CV} {v : Value} {ns : List E} {e : E} {us : List (Nat × Blk)} (h : CVr T m c v) (hi : immE T m.h k c = some (ns, e, us)) (hn : needsOk m.env ns) :
    ∃ m', Froze T w0 S0 m us m' ∧ Rd T m'.w m'.S k (e.den m.env) v := by
  unfold immE at hi
  split at hi
  · split at hi
    · rename_i hk
      subst hk
      cases hi
      exact ⟨m, ⟨rfl, rfl, rfl, rfl, fun _ h => h, Keep.refl, hm⟩, h⟩
    · cases hi
  · split at hi
    · rename_i hk
      cases hi
      obtain ⟨cks, hk⟩ := Option.isSome_iff_exists.1 hk
      refine ⟨m, ⟨rfl, rfl, rfl, rfl, fun _ h => h, Keep.refl, hm⟩, ?_⟩
      rw [show v = _ from h]
      exact Rd.lst (q := 0) (o := 0) (fun _ _ => .bool true) hk (by simp) (by simp) (fun h => absurd rfl h) (by simp) (fun i j hi => by simp at hi) (fun i j r d k hi => by simp at hi)
    · cases hi
  · rename_i el b el'
    split at hi
    · rename_i el'' e' fz hb
      split at hi
      · rename_i hk
        obtain ⟨rfl, rfl⟩ := hk
        cases hi
        obtain ⟨S, hS, hS', hK, hM⟩ := mok_freeze hm hb
        refine ⟨{ m with S := S, h := upf m.h b (.arr el e true) }, ⟨rfl, rfl, rfl, rfl, hS, hK, hM⟩, ?_⟩
        rcases hK _ _ h with h | ⟨e2, fz2, rows, cap, g1, g2, g3⟩
        · simp [upf_same] at h
        · have g1' := g1
          simp only [upf_same] at g1'
          cases g1'
          have := froze_rd hM.blk g1 g2 (Nat.le_of_eq (Nat.zero_add _)) g3
          simp only [List.drop_zero, List.take_length] at this
          simp only at g2
          rw [g2]
          exact this
      · cases hi
    · cases hi
  · rename_i el b el' off len
    split at hi
    · rename_i el'' e' fz hb
      split at hi
      · rename_i hk
        obtain ⟨rfl, rfl⟩ := hk
        cases hi
        obtain ⟨S, hS, hS', hK, hM⟩ := mok_freeze hm hb
        refine ⟨{ m with S := S, h := upf m.h b (.arr el e' true) }, ⟨rfl, rfl, rfl, rfl, hS, hK, hM⟩, ?_⟩
        rcases hK _ _ h with h | ⟨e2, fz2, cap, o, l, g1, g2, g3, g4, _⟩
        · simp [upf_same] at h
        · have g1' := g1
          simp only [upf_same] at g1'
          cases g1'
          obtain ⟨rows, cks, r1, _⟩ := hb ▸ hm.blk b
          simp only at g2 g3
          have hnn := hn _ (List.mem_singleton.2 rfl)
          simp only [E.den, O.den, U.den, g2, g3, r1, DV.int, DV.rows, DV.bool, decide_eq_true_eq] at hnn
          rw [sub_rows r1 g2 g3]
          exact froze_rd hM.blk g1 r1 (by omega) g4
      · cases hi
    · cases hi
  · cases hi
end
section
variable {P : Program} {T : Tab} {m m' : Mem} {w0 : W0} {S0 : Nat → Prop} {w : World}
theorem isAgg_ok (hT : T.Ok P) {t : TypeId} {x : Bool} (h : isAggT T t = some x) : (isAgg t).run P w = .ok x w := by
 unfold isAggT at h
 split at h
 ·rename_i hu; cases h; simp [isAgg, run_underlying (hT.und hu)]
 ·rename_i hu; cases h; simp [isAgg, run_underlying (hT.und hu)]
 ·rename_i d n1 n2 hu
  cases h
  simp only [isAgg, Sem.run_bind, run_underlying (hT.und hu), Result.andThen_ok]
  cases d <;> simp_all
 ·cases h
theorem run_size (hT : T.Ok P) {t : TypeId} {n : Nat} (h : T.size t = some n) : (sizeOf t).run P w = .ok n w := by
 have := hT.size h
 cases hi : P.info? t with
 | none => rw [hi] at this; cases this
 | some i =>
  rw [hi] at this
  simp [sizeOf, typeInfo, hi]
  exact Option.some.inj this
theorem CsR.take {cs : List CV} {vs : List Value} (h : CsR T m cs vs) (n : Nat) : CsR T m (cs.take n) (vs.take n) := by
 refine ⟨by simp [h.1], fun j c hj => ?_⟩
 rw [List.getElem?_take] at hj
 split at hj
 ·obtain ⟨u, h1, h2⟩ := h.2 j c hj
  exact ⟨u, by rw [List.getElem?_take, if_pos (by assumption)]; exact h1, h2⟩
 ·cases hj
theorem CsR.drop {cs : List CV} {vs : List Value} (h : CsR T m cs vs) (n : Nat) : CsR T m (cs.drop n) (vs.drop n) := by
 refine ⟨by simp [h.1], fun j c hj => ?_⟩
 rw [List.getElem?_drop] at hj
 obtain ⟨u, h1, h2⟩ := h.2 _ c hj
 exact ⟨u, by rw [List.getElem?_drop]; exact h1, h2⟩
def pickV (isA : Bool) (n : Nat) (vs : List Value) : Value := if isA then .agg (vs.take n).toArray else vs.headD undef
theorem pick_ok {t : TypeId} {cs : List CV} {vs : List Value} {s : SV} (h : pickT T t cs = some s) (hr : CsR T m cs vs) : ∃ n x, T.size t = some n ∧ isAggT T t = some x ∧ n ≤ vs.length ∧ (x = false → n = 1 ∧ vs ≠ []) ∧ SVr T m s (pickV x n vs) := by
 unfold pickT at h
 cases hn : T.size t with
 | none => rw [hn] at h; cases h
 | some n =>
  cases hx : isAggT T t with
  | none => rw [hn, hx] at h; cases h
  | some x =>
   rw [hn, hx] at h
   cases x with
   | true =>
    simp at h
    obtain ⟨hl, rfl⟩ := h
    exact ⟨n, true, rfl, rfl, by rw [hr.1]; exact hl, (fun h => by cases h), _, rfl, by simpa using hr.take n⟩
   | false =>
    simp at h
    obtain ⟨rfl, c, hc, rfl⟩ := h
    have h0 : cs[0]? = some c := by rw [← List.head?_eq_getElem?]; exact hc
    obtain ⟨u, hu, _, hr2⟩ := hr.2 0 c h0
    have hne : vs ≠ [] := fun e => by rw [e] at hu; cases hu
    refine ⟨1, false, rfl, rfl, List.length_pos_iff.2 hne, fun _ => ⟨rfl, hne⟩, ?_⟩
    show CVr T m c (pickV false 1 vs)
    have : pickV false 1 vs = u := by
     cases vs with
     | nil => exact absurd rfl hne
     | cons y r => simp at hu; simp [pickV, hu]
    rw [this]; exact hr2
theorem part_ok (hT : T.Ok P) {t : TypeId} {cs : List CV} {a : Array Value} {s : SV} {off : Nat} (h : pickT T t (cs.drop off) = some s) (hc : CsR T m cs a.toList) : ∃ u, (part t a off).run P w = .ok u w ∧ SVr T m s u := by
 obtain ⟨n, x, h1, h2, h3, h4, h5⟩ := pick_ok h (hc.drop off)
 refine ⟨_, ?_, h5⟩
 unfold part
 simp only [Sem.run_bind, isAgg_ok hT h2, Result.andThen_ok]
 cases x with
 | true =>
  simp [run_size hT h1, pickV]
  apply Array.ext'
  simp [List.drop_take]
 | false =>
  obtain ⟨rfl, hne⟩ := h4 rfl
  cases hd : a[off]? with
  | none =>
   exfalso
   apply hne
   rw [List.drop_eq_nil_iff]
   have := Array.getElem?_eq_none_iff.1 hd
   simpa using this
  | some u =>
   have : (a.toList.drop off).headD undef = u := by
    rw [List.headD_eq_head?_getD, List.head?_drop, Array.getElem?_toList, hd]; rfl
   rw [show pickV false 1 (a.toList.drop off) = u from this]
   rfl
theorem loadVar_ok (hT : T.Ok P) {t : TypeId} {cs : List CV} {vs : List Value} {s : SV} {q o : Nat} (hc : ∀ j v, vs[j]? = some v → w.cell? ⟨q, o + j, none⟩ = some v) (h : pickT T t cs = some s) (hr : CsR T m cs vs) :
  ∃ u, (loadVar t ⟨q, o, none⟩).run P w = .ok u w ∧ SVr T m s u := by
 obtain ⟨n, x, h1, h2, h3, h4, h5⟩ := pick_ok h hr
 refine ⟨_, ?_, h5⟩
 have had : ∀ j, (⟨q, o, none⟩ : Addr).add j = ⟨q, o + j, none⟩ := fun j => by
  unfold Addr.add; split
  ·rename_i h; subst h; rfl
  ·rfl
 unfold loadVar
 simp only [Sem.run_bind, isAgg_ok hT h2, Result.andThen_ok]
 cases x with
 | true =>
  have hl := run_loadCells_list (P := P) (w := w) ⟨q, o, none⟩ (vs.take n) (fun j v hj => by
    rw [had]
    rw [List.getElem?_take] at hj
    split at hj
    · exact hc j v hj
    · cases hj)
  have hlen : (vs.take n).length = n := by simp; omega
  rw [hlen] at hl
  simp [run_size hT h1, hl, pickV]
 | false =>
  obtain ⟨rfl, hne⟩ := h4 rfl
  cases vs with
  | nil => exact absurd rfl hne
  | cons y r =>
   have := hc 0 y rfl
   simp only [Nat.add_zero] at this
   simp [this, pickV]
theorem atE_get {cks : List CK} {l i : E} {j : Nat} {c : CV} (h : (atE cks l i)[j]? = some c) : ∃ k, cks[j]? = some k ∧ c = .c k (.O (.at j) l i) := by
 unfold atE at h
 rw [List.getElem?_map, List.getElem?_zipIdx] at h
 cases hk : cks[j]? with
 | none => rw [hk] at h; cases h
 | some k => rw [hk] at h; simp at h; exact ⟨k, rfl, h.symm⟩
theorem atE_length {cks : List CK} {l i : E} : (atE cks l i).length = cks.length := by simp [atE]
theorem row_cs {l i : E} {rows : List (List DV)} {r : Nat} {cks : List CK} {vs : List Value} (hl : l.den m.env = .L rows) (hi : i.den m.env = .I r) (hr : ∀ x ∈ rows, x.length = cks.length) (hrr : r < rows.length) (hv : vs.length = cks.length)
  (h : ∀ (j : Nat) row d k, rows[r]? = some row → row[j]? = some d → cks[j]? = some k → ∃ u, vs[j]? = some u ∧ Rd T m.w m.S k d u) : CsR T m (atE cks l i) vs := by
 refine ⟨by rw [hv, atE_length], fun j c hj => ?_⟩
 obtain ⟨k, hk, rfl⟩ := atE_get hj
 have hrow : rows[r]? = some rows[r] := List.getElem?_eq_getElem hrr
 have hlen := hr rows[r] (List.getElem_mem hrr)
 have hjl : j < cks.length := (List.getElem?_eq_some_iff.1 hk).1
 have hd : rows[r][j]? = some rows[r][j] := List.getElem?_eq_getElem (by omega)
 obtain ⟨u, hu, hrd⟩ := h j _ _ k hrow hd hk
 refine ⟨u, hu, hrd.one, ?_⟩
 rw [cvr_c]
 have : (E.O (.at j) l i).den m.env = rows[r][j] := by
  simp [E.den, O.den, hl, hi, DV.rows, DV.int, List.getD_eq_getElem?_getD, hrow, hd]
 rw [this]
 exact hrd
theorem load_ok (hT : T.Ok P) (hm : MOk T w0 S0 m) {t : TypeId} {s val : SV} {v : Value} {ns : List E} (h : symLoad T m.h t s = some (ns, val)) (hs : SVr T m s v) (hn : needsOk m.env ns) :
  ∃ u, (Instr.loadAt t v).run P m.w = .ok u m.w ∧ SVr T m val u := by
 unfold symLoad at h
 split at h
 ·rename_i b off
  split at h
  ·rename_i l hb
   cases hp : pickT T t (l.drop off) with
   | none => rw [hp] at h; cases h
   | some s' =>
    rw [hp] at h
    simp at h
    obtain ⟨rfl, rfl⟩ := h
    rcases hs with hs | ⟨l', q, cs, h1, h2, rfl⟩
    ·rw [hb] at hs; cases hs
    ·obtain ⟨q', c, tt, g1, g2, g3⟩ := hb ▸ hm.blk b
     rw [h2] at g1
     cases g1
     have := loadVar_ok (P := P) (w := m.w) (q := q) (o := off) (vs := c.toList.drop off) hT (fun j v hj => by
       rw [cell_of_row m.w q _ c tt (0, 0) g2]
       rw [List.getElem?_drop] at hj
       rw [← hj, Array.getElem?_toList]) hp (g3.drop off)
     obtain ⟨u, hu, hr⟩ := this
     exact ⟨u, by simp [Instr.loadAt, Instr.sureAddr, hu], hr⟩
  ·cases h
 ·rename_i b el row off eb
  split at h
  ·rename_i el' e fz hb
   cases hk : T.cks el with
   | none => rw [hk] at h; cases h
   | some cks =>
    rw [hk] at h
    simp only [Option.bind_eq_bind, Option.bind_some] at h
    split at h
    case isFalse => cases h
    rename_i hel
    subst hel
    cases hp : pickT T t ((atE cks e row).drop off) with
    | none => rw [hp] at h; cases h
    | some s' =>
    rw [hp] at h
    simp only [Option.bind_some, Option.some.injEq, Prod.mk.injEq] at h
    obtain ⟨rfl, rfl⟩ := h
    rcases hs with hs | ⟨e', fz', rows', sz, q, base, cs, r, h1, h2, h3, h4, h5, h6, rfl⟩
    ·rw [hb] at hs; cases hs
    ·rw [hb] at h1
     cases h1
     obtain ⟨rows, cks', r1, r2, r3, r4, r5⟩ := hb ▸ hm.blk b
     rw [hk] at r2
     cases r2
     obtain rfl := size_cks h6 hk
     have hr : r < rows.length := by
      by_cases he : e = eb
      ·subst he; rw [r1] at h4; cases h4; exact h5
      ·rw [if_neg he] at hn
       have := hn _ (List.mem_singleton.2 rfl)
       simp only [E.den, O.den, U.den, h3, r1, DV.int, DV.rows, DV.bool, decide_eq_true_eq] at this
       omega
     rcases r5 with ⟨r5, r6⟩ | ⟨q', base', c, tt, r5, r6, r7, r8, r9⟩
     ·rw [h2] at r5; cases r5
     ·rw [h2] at r5
      cases r5
      have hin : ∀ j, j < cks.length → base + (r * cks.length + j) < c.size := fun j hj => by
       have : (r + 1) * cks.length ≤ rows.length * cks.length := Nat.mul_le_mul_right _ hr
       rw [Nat.add_mul] at this
       omega
      have hvl : ((c.toList.drop (base + r * cks.length)).take cks.length).length = cks.length := by
       have := hin (cks.length - 1) (by have := (Tab.cks_size hk).2; omega)
       have := (Tab.cks_size hk).2
       simp; omega
      have hcs := row_cs (T := T) (m := m) (l := e) (i := row) (vs := (c.toList.drop (base + r * cks.length)).take cks.length) r1 h3 r4 hr hvl (fun j rw_ d k h1 h2 h3 => by
        obtain ⟨u, hu, hrd⟩ := r8 r j rw_ d k h1 h2 h3
        refine ⟨u, ?_, hrd⟩
        have hjl : j < cks.length := (List.getElem?_eq_some_iff.1 h3).1
        rw [List.getElem?_take, if_pos hjl, List.getElem?_drop, Array.getElem?_toList, ← hu]
        congr 1; omega)
      obtain ⟨u, hu, hrr⟩ := loadVar_ok (P := P) (w := m.w) (q := q) (o := base + r * cks.length + off) hT (fun j v hj => by
        rw [cell_of_row m.w q _ c tt (0, 0) r6]
        rw [List.getElem?_drop, List.getElem?_take] at hj
        split at hj
        · rw [List.getElem?_drop, Array.getElem?_toList] at hj
          rw [← hj]; congr 1; omega
        · cases hj) hp (hcs.drop off)
      exact ⟨u, by simp [Instr.loadAt, Instr.sureAddr, hu], hrr⟩
  ·cases h
 ·rename_i el l row off
  cases hk : T.cks el with
  | none => rw [hk] at h; cases h
  | some cks =>
   rw [hk] at h
   simp only [Option.bind_eq_bind, Option.bind_some] at h
   cases hp : pickT T t ((atE cks l row).drop off) with
   | none => rw [hp] at h; cases h
   | some s' =>
   rw [hp] at h
   simp only [Option.bind_some, Option.some.injEq, Prod.mk.injEq] at h
   obtain ⟨rfl, rfl⟩ := h
   obtain ⟨rows, cap, cks', q, o, r, h1, h2, h3, h4, h5, rfl⟩ := hs
   rw [hk] at h5
   cases h5
   generalize hA : (some ⟨q, o, none⟩ : Option Addr) = A at h2
   cases h2 with
   | lst u hk' hn' hc' ha' hr' hm' hd' =>
    rename_i cks' q' o'
    rw [hk] at hk'
    cases hk'
    have hne : rows ≠ [] := fun e => by rw [e] at h4; cases h4
    have hqq := (ha' hne).1
    rw [← hA] at hqq
    cases hqq
    have hcs := row_cs (T := T) (m := m) (l := l) (i := row) (vs := (List.range cks.length).map (u r)) h1 h3 hr' h4 (by simp) (fun j rw_ d k g1 g2 g3 => by
      have hjl : j < cks.length := (List.getElem?_eq_some_iff.1 g3).1
      exact ⟨u r j, by simp [hjl], hd' r j rw_ d k g1 g2 g3⟩)
    obtain ⟨x, hx, hrr⟩ := loadVar_ok (P := P) (w := m.w) (q := q) (o := o + r * cks.length + off) hT (fun j v hj => by
      rw [List.getElem?_drop, List.getElem?_map] at hj
      by_cases hjl : off + j < cks.length
      · rw [List.getElem?_range hjl] at hj
        simp at hj
        subst hj
        rw [← hm' r (off + j) h4 hjl]
        congr 2; omega
      · rw [List.getElem?_eq_none (by simp; omega)] at hj; cases hj) hp (hcs.drop off)
    exact ⟨x, by simp [Instr.loadAt, Instr.sureAddr, hx], hrr⟩
 ·cases h
end
section
variable {P : Program} {T : Tab} {m m' : Mem} {w0 : W0} {S0 : Nat → Prop} {w : World}
theorem add_lit (q o j : Nat) : (⟨q, o, none⟩ : Addr).add j = ⟨q, o + j, none⟩ := by
 unfold Addr.add; split
 ·rename_i h; subst h; rfl
 ·rfl
structure Stored (w w' : World) (q o : Nat) (vs : List Value) (c : Array Value) (t : TypeId) (c' : Array Value) : Prop where
 heap : w'.heap[q]? = some (.cells c' t (0, 0))
 size : c'.size = c.size
 get : ∀ j, c'[j]? = if o ≤ j ∧ j < o + vs.length then vs[j - o]? else c[j]?
 other : ∀ q', q' ≠ q → w'.heap[q']? = w.heap[q']?
 hsize : w'.heap.size = w.heap.size
 os : w'.os = w.os
 tape : w'.tape = w.tape
 output : w'.output = w.output
theorem storeCells_run {q o : Nat} {t : TypeId} : ∀ (vs : List Value) (i : Nat) (c : Array Value) (w : World), w.heap[q]? = some (.cells c t (0, 0)) → (∀ v ∈ vs, v.oneCell' = true) → o + i + vs.length ≤ c.size →
  ∃ w' c', (storeCells ⟨q, o, none⟩ vs i).run P w = .ok () w' ∧ Stored w w' q (o + i) vs c t c'
 | [], i, c, w, hq, _, _ => ⟨w, c, rfl, hq, rfl, fun j => by simp; omega, fun _ _ => rfl, rfl, rfl, rfl, rfl⟩
 | v :: vs, i, c, w, hq, hv, hl => by
  have hlt : o + i < c.size := by simp at hl; omega
  have hc : w.cell? ⟨q, o + i, none⟩ = some c[o + i] := by rw [cell_of_row w q _ c t (0, 0) hq]; exact Array.getElem?_eq_getElem hlt
  have hf : w.frozen? ⟨q, o + i, none⟩ = false := frozen_of_row w q _ c t hq
  have h1 := run_store P w ⟨q, o + i, none⟩ v .plain (hv v (List.mem_cons_self ..))
  rw [hc] at h1
  simp only [hf, Bool.false_eq_true, if_false] at h1
  have hq' := heap_setCell_same w q (o + i) c t v hq
  obtain ⟨w', c', h2, h3, h4, h5, h6, h7, h8, h9, h10⟩ := storeCells_run (o := o) vs (i + 1) _ (w.setCell ⟨q, o + i, none⟩ v) hq' (fun x hx => hv x (List.mem_cons_of_mem _ hx)) (by rw [Array.size_setIfInBounds]; simp at hl; omega)
  refine ⟨w', c', ?_, h3, by rw [h4]; simp, fun j => ?_, fun q' hne => (h6 q' hne).trans (heap_setCell_other w _ q' v hne), h7.trans (by simp [World.setCell]), h8, h9, h10⟩
  ·unfold storeCells
   rw [add_lit]
   simp only [Sem.run_bind, h1, Result.andThen_ok]
   exact h2
  ·rw [h5 j]
   simp only [List.length_cons, Array.getElem?_setIfInBounds]
   by_cases e : j = o + i
   ·subst e
    rw [if_neg (by omega), if_pos rfl, if_pos hlt, if_pos (by omega)]
    simp
   ·by_cases h : o + i ≤ j ∧ j < o + i + (vs.length + 1)
    ·rw [if_pos (by omega), if_pos h]
     have : j - (o + i) = j - (o + (i + 1)) + 1 := by omega
     rw [this, List.getElem?_cons_succ]
    ·rw [if_neg (by omega), if_neg h, if_neg (by omega)]
theorem storeVar_run (hT : T.Ok P) {q o n : Nat} {t tt : TypeId} {c : Array Value} {v : Value} (hq : w.heap[q]? = some (.cells c tt (0, 0))) (hv : ∀ x ∈ v.cells.toList, x.oneCell' = true) (hn : T.size t = some n) (hl : v.cells.size = n) (hin : o + n ≤ c.size) :
  ∃ w' c', (storeVar t ⟨q, o, none⟩ v).run P w = .ok () w' ∧ Stored w w' q o v.cells.toList c tt c' := by
 obtain ⟨w', c', h1, h2⟩ := storeCells_run (P := P) (o := o) v.cells.toList 0 c w hq hv (by simp; omega)
 refine ⟨w', c', ?_, h2⟩
 unfold storeVar
 simp [run_size hT hn, hl, h1]
theorem Stored.below {w w' : World} {q o : Nat} {vs : List Value} {c c' : Array Value} {t : TypeId} (h : Stored w w' q o vs c t c') (hl : Low w0 w) (hq : w0.has q) : Low w0 w' :=
 ⟨h.os.trans hl.os, h.tape.trans hl.tape, h.output.trans hl.output, Nat.le_trans hl.size (Nat.le_of_eq h.hsize.symm), fun k hk hx => (h.other k (fun e => by
   subst e
   rcases hq with hq | hq
   · omega
   · exact hx hq)).trans (hl.block k hk hx)⟩
structure Went (T : Tab) (w0 : W0) (S0 : Nat → Prop) (m : Mem) (upd : List (Nat × Blk)) (m' : Mem) : Prop where
 env : m'.env = m.env
 h : m'.h = upl m.h upd
 keep : Keep T m m'
 ok : MOk T w0 S0 m'
theorem upl_append (h : Nat → Blk) : ∀ (l l' : List (Nat × Blk)), upl h (l ++ l') = upl (upl h l) l'
 | [], _ => rfl
 | (b, x) :: l, l' => upl_append (upf h b x) l l'
theorem Went.refl (hm : MOk T w0 S0 m) : Went T w0 S0 m [] m := ⟨rfl, rfl, Keep.refl, hm⟩
theorem Went.trans {u u' : List (Nat × Blk)} {m2 : Mem} (h : Went T w0 S0 m u m') (h' : Went T w0 S0 m' u' m2) : Went T w0 S0 m (u ++ u') m2 :=
 ⟨h'.env.trans h.env, by rw [h'.h, h.h, upl_append], h.keep.trans h'.keep, h'.ok⟩
theorem Froze.went {us : List (Nat × Blk)} (h : Froze T w0 S0 m us m') : Went T w0 S0 m us m' := ⟨h.env, h.h, h.keep, h.ok⟩
theorem Froze.refl (hm : MOk T w0 S0 m) : Froze T w0 S0 m [] m := ⟨rfl, rfl, rfl, rfl, fun _ h => h, Keep.refl, hm⟩
theorem Froze.trans {u u' : List (Nat × Blk)} {m2 : Mem} (h : Froze T w0 S0 m u m') (h' : Froze T w0 S0 m' u' m2) : Froze T w0 S0 m (u ++ u') m2 :=
 ⟨h'.env.trans h.env, h'.w.trans h.w, h'.ρ.trans h.ρ, by rw [h'.h, h.h, upl_append], fun q hq => h'.S q (h.S q hq), h.keep.trans h'.keep, h'.ok⟩
theorem Froze.rd {us : List (Nat × Blk)} (h : Froze T w0 S0 m us m') {k : CK} {d : DV} {v : Value} (x : Rd T m.w m.S k d v) : Rd T m'.w m'.S k d v := x.keep (fun q _ => by rw [h.w]) h.S
theorem immL_ok : ∀ (ks : List CK) (cs : List CV) (vs : List Value) {m : Mem} {ns : List E} {es : List E} {us : List (Nat × Blk)}, MOk T w0 S0 m → CsR T m cs vs → immL T m.h ks cs = some (ns, es, us) → needsOk m.env ns →
  ∃ m', Froze T w0 S0 m us m' ∧ es.length = cs.length ∧ ks.length = cs.length ∧ ∀ (j : Nat) k e, ks[j]? = some k → es[j]? = some e → ∃ u, vs[j]? = some u ∧ Rd T m'.w m'.S k (e.den m.env) u
 | [], [], vs, m, ns, es, us, hm, hr, h, hn => by
  cases h
  exact ⟨m, Froze.refl hm, rfl, rfl, fun j k e hk => by cases hk⟩
 | [], _ :: _, _, _, _, _, _, _, _, h, _ => by cases h
 | _ :: _, [], _, _, _, _, _, _, _, h, _ => by cases h
 | k :: ks, c :: cs, vs, m, ns, es, us, hm, hr, h, hn => by
  unfold immL at h
  cases h1 : immE T m.h k c with
  | none => rw [h1] at h; cases h
  | some x =>
   obtain ⟨n, e, u⟩ := x
   rw [h1] at h
   simp only [Option.bind_eq_bind, Option.bind_some] at h
   cases h2 : immL T (upl m.h u) ks cs with
   | none => rw [h2] at h; cases h
   | some y =>
    obtain ⟨ns', es', us'⟩ := y
    rw [h2] at h
    simp only [Option.bind_some, Option.some.injEq, Prod.mk.injEq] at h
    obtain ⟨rfl, rfl, rfl⟩ := h
    cases vs with
    | nil => have := hr.1; simp at this
    | cons v vs =>
     obtain ⟨v', hv', _, hc⟩ := hr.2 0 c rfl
     cases hv'
     obtain ⟨m1, f1, r1⟩ := imm_ok hm hc h1 hn.left
     have hr' : CsR T m cs vs := ⟨by have := hr.1; simpa using this, fun j c' hj => hr.2 (j + 1) c' hj⟩
     obtain ⟨m2, f2, l1, l2, r2⟩ := immL_ok ks cs vs f1.ok (f1.keep.cs hr') (by rw [f1.h]; exact h2) (by rw [f1.env]; exact hn.right)
     refine ⟨m2, f1.trans f2, by simp [l1], by simp [l2], fun j k' e' hk he => ?_⟩
     cases j with
     | zero =>
      cases hk; cases he
      exact ⟨v, rfl, f2.rd r1⟩
     | succ j =>
      obtain ⟨u, hu, hr3⟩ := r2 j k' e' hk he
      rw [f1.env] at hr3
      exact ⟨u, hu, hr3⟩
end
section
variable {P : Program} {T : Tab} {m m' : Mem} {w0 : W0} {S0 : Nat → Prop} {w : World}
theorem upl_other {b : Nat} : ∀ (us : List (Nat × Blk)) (h : Nat → Blk), (us.any fun u => u.1 == b) = false → upl h us b = h b
 | [], _, _ => rfl
 | (b', x) :: us, h, hu => by
  simp only [List.any_cons, Bool.or_eq_false_iff] at hu
  rw [upl, upl_other us _ hu.2]
  exact upf_ne _ _ (fun e => by simp [e] at hu)
theorem rowE_aux (env : List DV) : ∀ (es : List E) (r : E) (l : List DV), r.den env = .R l → (es.foldl (fun r e => E.O .cns r e) r).den env = .R (l ++ es.map (·.den env))
 | [], r, l, h => by simpa using h
 | e :: es, r, l, h => by
  simp only [List.foldl_cons, List.map_cons]
  rw [rowE_aux env es _ (l ++ [e.den env]) (by simp [E.den, O.den, h, DV.row])]
  simp
theorem rowE_den (env : List DV) (es : List E) : (rowE es).den env = .R (es.map (·.den env)) := by
 unfold rowE
 rw [rowE_aux env es .R [] rfl]
 simp
theorem old_den {env : List DV} {e row : E} {rows : List (List DV)} {r n : Nat} (he : e.den env = .L rows) (hr : row.den env = .I r) (hrr : r < rows.length) (hn : rows[r].length = n) : ((List.range n).map fun j => E.O (.at j) e row).map (·.den env) = rows[r] := by
 apply List.ext_getElem?
 intro j
 rw [List.getElem?_map, List.getElem?_map]
 by_cases hj : j < n
 ·rw [List.getElem?_range hj]
  simp [E.den, O.den, he, hr, DV.rows, DV.int, List.getD_eq_getElem?_getD, List.getElem?_eq_getElem hrr, List.getElem?_eq_getElem (show j < rows[r].length by omega)]
 ·rw [List.getElem?_eq_none (by simp; omega), List.getElem?_eq_none (by omega)]
  rfl
theorem CsR.all {cs : List CV} {vs : List Value} (h : CsR T m cs vs) : ∀ x ∈ vs, x.oneCell' = true := fun x hx => by
 obtain ⟨j, hj, rfl⟩ := List.mem_iff_getElem.1 hx
 have hjc : j < cs.length := by rw [← h.1]; exact hj
 obtain ⟨u, hu, h1, _⟩ := h.2 j _ (List.getElem?_eq_getElem hjc)
 rw [List.getElem?_eq_getElem hj] at hu
 cases hu
 exact h1
theorem setL_ok {l l' cs : List CV} {off : Nat} {vs : List Value} {c c' : Array Value} (h : setL l off cs = some l') (hl : CsR T m l c.toList) (hc : CsR T m cs vs) (hs : c'.size = c.size)
  (hg : ∀ j, c'[j]? = if off ≤ j ∧ j < off + vs.length then vs[j - off]? else c[j]?) : CsR T m l' c'.toList ∧ l'.length = l.length := by
 unfold setL at h
 split at h
 ·rename_i hle
  cases h
  have hll : (l.take off ++ cs ++ l.drop (off + cs.length)).length = l.length := by simp; omega
  have hcl : c.toList.length = l.length := hl.1
  refine ⟨⟨by rw [hll, ← hl.1]; simp [hs], fun j cv hj => ?_⟩, hll⟩
  have hv := hc.1
  rw [Array.getElem?_toList, hg j]
  by_cases h1 : j < off
  ·rw [if_neg (by omega)]
   rw [List.append_assoc, List.getElem?_append_left (by simp; omega), List.getElem?_take, if_pos h1] at hj
   obtain ⟨u, hu, hr⟩ := hl.2 j cv hj
   exact ⟨u, by rw [← hu, Array.getElem?_toList], hr⟩
  ·by_cases h2 : j < off + cs.length
   ·rw [if_pos (by omega)]
    rw [List.getElem?_append_left (by simp; omega), List.getElem?_append_right (by simp; omega)] at hj
    have e : j - (l.take off).length = j - off := by simp; omega
    rw [e] at hj
    exact hc.2 _ cv hj
   ·rw [if_neg (by omega)]
    rw [List.getElem?_append_right (by simp; omega), List.getElem?_drop] at hj
    have e : off + cs.length + (j - (l.take off ++ cs).length) = j := by simp; omega
    rw [e] at hj
    obtain ⟨u, hu, hr⟩ := hl.2 j cv hj
    exact ⟨u, by rw [← hu, Array.getElem?_toList], hr⟩
 ·cases h
theorem store_ok (hT : T.Ok P) (hm : MOk T w0 S0 m) {t : TypeId} {s val : SV} {va v : Value} {ns : List E} {us : List (Nat × Blk)} (h : symStore T m.h t val s = some (ns, us)) (ha : SVr T m s va) (hv : SVr T m val v) (hn : needsOk m.env ns) :
  ∃ m', (Instr.storeAt t va v).run P m.w = .ok () m'.w ∧ Went T w0 S0 m us m' := by
 unfold symStore at h
 split at h
 ·rename_i b off
  split at h
  ·rename_i l hb
   cases hc : val.cells? m.h with
   | none => rw [hc] at h; cases h
   | some cs =>
   rw [hc] at h
   simp only [Option.bind_eq_bind, Option.bind_some] at h
   split at h
   case isFalse => cases h
   rename_i hsz
   cases hl : setL l off cs with
   | none => rw [hl] at h; cases h
   | some l' =>
   rw [hl] at h
   simp only [Option.bind_some, Option.some.injEq, Prod.mk.injEq] at h
   obtain ⟨rfl, rfl⟩ := h
   have hcs := cells_ok hv hc
   rcases ha with ha | ⟨l2, q, cz, h1, h2, rfl⟩
   ·rw [hb] at ha; cases ha
   obtain ⟨q', c, tt, g1, g2, g3⟩ := hb ▸ hm.blk b
   rw [h2] at g1
   cases g1
   have hle : off + cs.length ≤ l.length := by
    unfold setL at hl; split at hl
    ·assumption
    ·cases hl
   have hcl := g3.1
   have hvl := hcs.1
   have hat : m.at_ b = some q := by simp [Mem.at_, h2]
   have hlive : (m.h b).live = true := by rw [hb]; rfl
   obtain ⟨w', c', h3, h4⟩ := storeVar_run (P := P) (v := v) (o := off) hT g2 hcs.all hsz (by simpa using hvl) (by simp at hcl; omega)
   have hlow := h4.below hm.low (hm.new b q hlive hat).1
   have hp := mok_put (x := .box l') (w' := w') hm hlive (by rw [hb]; rfl) (fun q' hq' => h4.other q' (fun e => hq' (by rw [e]; exact hat))) h4.hsize hlow (.inr (.inl ⟨l, l', hb, rfl⟩)) rfl rfl (fun hK => by
     obtain ⟨k1, k2⟩ := setL_ok hl (hK.cs g3) (hK.cs hcs) h4.size h4.get
     exact ⟨q, c', tt, by rw [k2]; exact h2, h4.heap, k1⟩)
   refine ⟨{ m with w := w', h := upf m.h b (.box l') }, ?_, ⟨rfl, rfl, hp.1, hp.2⟩⟩
   simp [Instr.storeAt, Instr.sureAddr, h3]
  ·cases h
 ·rename_i b el row off eb
  split at h
  ·rename_i el' e hb
   cases hk : T.cks el with
   | none => rw [hk] at h; cases h
   | some cks =>
   rw [hk] at h
   simp only [Option.bind_eq_bind, Option.bind_some] at h
   cases hc : val.cells? m.h with
   | none => rw [hc] at h; cases h
   | some cs =>
   rw [hc] at h
   simp only [Option.bind_some] at h
   split at h
   case isFalse => cases h
   rename_i hcond
   obtain ⟨rfl, hsz, hpos⟩ := hcond
   cases hi : immL T m.h ((cks.drop off).take cs.length) cs with
   | none => rw [hi] at h; cases h
   | some x =>
   obtain ⟨ns1, es, us1⟩ := x
   rw [hi] at h
   simp only [Option.bind_some] at h
   split at h
   case isTrue => cases h
   rename_i hub
   simp only [Option.some.injEq, Prod.mk.injEq] at h
   obtain ⟨rfl, rfl⟩ := h
   have hcs := cells_ok hv hc
   obtain ⟨m1, f1, l1, l2, r1⟩ := immL_ok _ _ _ hm hcs hi hn.left
   have hb1 : m1.h b = .arr el e false := by rw [f1.h, upl_other _ _ (Bool.eq_false_iff.2 hub)]; exact hb
   have ha1 := f1.keep (.ap b el row off eb) va ha
   rcases ha1 with ha1 | ⟨e', fz', rows', sz, q, base, cz, r, h1, h2, h3, h4, h5, h6, rfl⟩
   ·rw [hb1] at ha1; cases ha1
   rw [hb1] at h1
   cases h1
   obtain ⟨rows, cks', k1, k2, k3, k4, k5⟩ := hb1 ▸ f1.ok.blk b
   rw [hk] at k2
   cases k2
   obtain rfl := size_cks h6 hk
   have hr : r < rows.length := by
    have hn2 := hn.right
    by_cases he : e = eb
    ·subst he; rw [k1] at h4; cases h4; exact h5
    ·rw [if_neg he] at hn2
     have := hn2 _ (List.mem_singleton.2 rfl)
     rw [f1.env] at h3 k1
     simp only [E.den, O.den, U.den, h3, k1, DV.int, DV.rows, DV.bool, decide_eq_true_eq] at this
     omega
   rcases k5 with ⟨k5, _⟩ | ⟨q', base', c, tt, k5, k6, k7, k8, _⟩
   ·rw [h2] at k5; cases k5
   rw [h2] at k5
   cases k5
   have hvl := hcs.1
   have hvs : v.cells.size = cs.length := by simpa using hvl
   have hlen : off + cs.length ≤ cks.length := by
    have := l2; simp at this; omega
   have hin : (r + 1) * cks.length ≤ rows.length * cks.length := Nat.mul_le_mul_right _ hr
   rw [Nat.add_mul] at hin
   have hat : m1.at_ b = some q := by simp [Mem.at_, h2]
   have hlive : (m1.h b).live = true := by rw [hb1]; rfl
   obtain ⟨w', c', h7, h8⟩ := storeVar_run (P := P) (v := v) (o := base + r * cks.length + off) hT k6 hcs.all hsz (by simpa using hvl) (by omega)
   have hlow := h8.below f1.ok.low (f1.ok.new b q hlive hat).1
   have hrl : rows[r].length = cks.length := k4 _ (List.getElem_mem hr)
   have hold := old_den (env := m1.env) (n := cks.length) k1 h3 hr hrl
   -- the new row
   have hden : (E.P e row (rowE (((List.range cks.length).map fun j => E.O (.at j) e row).take off ++ es ++ ((List.range cks.length).map fun j => E.O (.at j) e row).drop (off + es.length)))).den m1.env
     = .L (rows.set r (rows[r].take off ++ es.map (·.den m1.env) ++ rows[r].drop (off + es.length))) := by
    have hrow : (rowE (((List.range cks.length).map fun j => E.O (.at j) e row).take off ++ es ++ ((List.range cks.length).map fun j => E.O (.at j) e row).drop (off + es.length))).den m1.env = .R (rows[r].take off ++ es.map (·.den m1.env) ++ rows[r].drop (off + es.length)) := by
     rw [rowE_den, List.map_append, List.map_append, List.map_take, List.map_drop, hold]
    show DV.L ((e.den m1.env).rows.set (row.den m1.env).int.toNat (DV.row _)) = _
    rw [k1, h3, hrow]
    simp [DV.rows, DV.int, DV.row]
   have hp := mok_put (x := .arr el (E.P e row (rowE (((List.range cks.length).map fun j => E.O (.at j) e row).take off ++ es ++ ((List.range cks.length).map fun j => E.O (.at j) e row).drop (off + es.length)))) false) (w' := w')
    f1.ok hlive (by rw [hb1]; rfl) (fun q' hq' => h8.other q' (fun e => hq' (by rw [e]; exact hat))) h8.hsize hlow
    (.inr (.inr ⟨el, e, _, false, false, rows, _, hb1, rfl, k1, hden, by simp⟩)) rfl rfl (fun hK => by
    refine ⟨_, cks, hden, hk, by simpa using k3, fun x hx => ?_, .inr ⟨q, base, c', tt, by rw [h8.size]; exact h2, h8.heap, by simp [h8.size]; exact k7, fun i j x d k hx hd hkk => ?_, fun h => by cases h⟩⟩
    · rcases List.mem_or_eq_of_mem_set hx with hx | hx
      · exact k4 x hx
      · subst hx; simp [hrl]; omega
    · have hjl : j < cks.length := (List.getElem?_eq_some_iff.1 hkk).1
      have hkeep : ∀ {k d u}, Rd T m1.w m1.S k d u → Rd T w' m1.S k d u := fun h => h.keep (fun q' hq' => h8.other q' (fun e => (f1.ok.new b q hlive hat).2 (by rw [hb1]; rfl) (e ▸ hq'))) (fun _ h => h)
      rw [List.getElem?_set] at hx
      split at hx
      · rename_i hri
        subst hri
        cases hx
        have hg := h8.get (base + (r * cks.length + j))
        by_cases c1 : j < off
        · rw [if_neg (by omega)] at hg
          rw [List.append_assoc, List.getElem?_append_left (by simp; omega), List.getElem?_take, if_pos c1] at hd
          obtain ⟨u, hu, hrd⟩ := k8 r j _ d k (List.getElem?_eq_getElem hr) hd hkk
          exact ⟨u, hg.trans hu, hkeep hrd⟩
        · by_cases c2 : j < off + es.length
          · rw [if_pos (by simp; omega)] at hg
            rw [List.getElem?_append_left (by simp; omega), List.getElem?_append_right (by simp; omega)] at hd
            have e1 : j - (rows[r].take off).length = j - off := by simp; omega
            rw [e1, List.getElem?_map] at hd
            cases he : es[j - off]? with
            | none => rw [he] at hd; cases hd
            | some ee =>
            rw [he] at hd
            cases hd
            obtain ⟨u, hu, hrd⟩ := r1 (j - off) k ee (by rw [List.getElem?_take, if_pos (by omega), List.getElem?_drop, ← hkk]; congr 1; omega) he
            refine ⟨u, hg.trans ?_, hkeep ?_⟩
            · rw [← hu]; congr 1; omega
            · rw [f1.env]; exact hrd
          · rw [if_neg (by simp; omega)] at hg
            rw [List.getElem?_append_right (by simp; omega), List.getElem?_drop] at hd
            have e1 : off + es.length + (j - (rows[r].take off ++ es.map (·.den m1.env)).length) = j := by simp; omega
            rw [e1] at hd
            obtain ⟨u, hu, hrd⟩ := k8 r j _ d k (List.getElem?_eq_getElem hr) hd hkk
            exact ⟨u, hg.trans hu, hkeep hrd⟩
      · rename_i hri
        obtain ⟨u, hu, hrd⟩ := k8 i j x d k hx hd hkk
        refine ⟨u, ?_, hkeep hrd⟩
        rw [h8.get, if_neg ?_]
        · exact hu
        · rcases Nat.lt_or_ge i r with c1 | c1
          · have : (i + 1) * cks.length ≤ r * cks.length := Nat.mul_le_mul_right _ c1
            rw [Nat.add_mul] at this
            omega
          · have : (r + 1) * cks.length ≤ i * cks.length := Nat.mul_le_mul_right _ (by omega)
            rw [Nat.add_mul] at this
            simp; omega)
   refine ⟨_, ?_, (⟨?_, ?_, f1.keep.trans hp.1, hp.2⟩ : Went T w0 S0 m _ { m1 with w := w', h := upf m1.h b _ })⟩
   ·rw [f1.w] at h7
    simp [Instr.storeAt, Instr.sureAddr, h7]
   ·exact f1.env
   ·simp only [f1.h, upl_append]; rfl
  ·cases h
 ·cases h
end
end Go.Proofs.YtbegccgpmhbnfaaGreat
