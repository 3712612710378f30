/- What is proved here: parts of the proofs of the laws of layer 10. -/
import Derived.Test.YthncoigjfhmldaaGreatS12
import Derived.Test.YthncoigjfhmldaaGreatS11
import Derived.Deep.CutRange
import Derived.Deep.RegionWith
namespace Go.Proofs.YthncoigjfhmldaaGreat
open Go.RowKit
set_option linter.unusedVariables false
set_option linter.unusedSimpArgs false
set_option maxHeartbeats 400000
set_option maxRecDepth 100000
theorem readL_ex6 (l : List UInt8) : ∃ (x : Int) (k er : Nat), readL l = (x.toNat, k, er) ∧ 0 ≤ x ∧ x < 18446744073709551616 ∧ k ≤ l.length ∧ (er = 0 ∨ er = 21 ∨ er = 22) := by
 have h := readL_bd l
 exact ⟨((readL l).1 : Int), (readL l).2.1, (readL l).2.2, by rw [Int.toNat_natCast], by omega, by omega, h.2.1, h.2.2⟩
def ReadCPost (b : List UInt8) (n : Int) (w : World) (e : Ending) (w' : World) : Prop :=
 ∃ u, e = .returned (.tuple #[u, .int .i64 ((readCL b n).2.1 : Int), .int .i64 ((readCL b n).2.2 : Int)]) ∧ OC w' w.heap.size u (readCL b n).1 ∧ Below w.heap.size w w'
theorem cell3 {w : World} {g : Nat} {xs : Array Value} {t : TypeId} (h : w.heap[g]? = some (.cells xs t)) (i : Nat) {v : Value} (hv : xs[i]? = some v) : w.cell? ⟨g, i, none⟩ = some v ∧ w.frozen? ⟨g, i, none⟩ = false :=
 ⟨by rw [cell_of_row w g i _ t _ h]; exact hv, by simp [World.frozen?, h]⟩
theorem lt3 {w : World} {b : Nat} {o : Obj} (h : w.heap[b]? = some o) : b < w.heap.size := by
 rcases Nat.lt_or_ge b w.heap.size with c | c
 ·exact c
 ·rw [Array.getElem?_eq_none c] at h; cases h
def Num3 (b : List UInt8) (at_ i a : Nat) (y1 y2 y3 : Int) : Prop :=
 (i = 0 ∧ a = at_ ∧ y1 = 0 ∧ y2 = 0 ∧ y3 = 0) ∨
 (i = 1 ∧ y2 = 0 ∧ y3 = 0 ∧ ∃ k1, readL (b.drop at_) = (y1.toNat, k1, 0) ∧ a = at_ + k1) ∨
 (i = 2 ∧ y3 = 0 ∧ ∃ k1 k2, readL (b.drop at_) = (y1.toNat, k1, 0) ∧ readL ((b.drop at_).drop k1) = (y2.toNat, k2, 0) ∧ a = at_ + k1 + k2) ∨
 (i = 3 ∧ ∃ k1 k2 k3, readL (b.drop at_) = (y1.toNat, k1, 0) ∧ readL ((b.drop at_).drop k1) = (y2.toNat, k2, 0) ∧ readL ((b.drop at_).drop (k1 + k2)) = (y3.toNat, k3, 0) ∧ a = at_ + k1 + k2 + k3)
def NumRel (b : List UInt8) (at_ : Nat) (w5 : World) (av iv : Value) (wr : World) : Prop :=
 ∃ (i a : Nat) (y1 y2 y3 : Int), i ≤ 3 ∧ iv = .int .i64 (i : Int) ∧ av = .int .i64 (a : Int) ∧ a ≤ b.length ∧ 0 ≤ y1 ∧ y1 < 18446744073709551616 ∧ 0 ≤ y2 ∧ y2 < 18446744073709551616 ∧ 0 ≤ y3 ∧ y3 < 18446744073709551616 ∧ Num3 b at_ i a y1 y2 y3 ∧ wr.heap[w5.heap.size]? = some (.cells #[.int .u64 y1, .int .u64 y2, .int .u64 y3] 133) ∧ Below w5.heap.size w5 wr
theorem num_err {b : List UInt8} {at_ i a : Nat} {y1 y2 y3 : Int} {v k e : Nat} (h : Num3 b at_ i a y1 y2 y3) (hi : i < 3) (hr : readL (b.drop a) = (v, k, e)) (he : e ≠ 0) : run3 (b.drop at_) = ((0, 0, 0), 0, e) := by
 rcases h with ⟨rfl, rfl, -⟩ | ⟨rfl, -, -, k1, h1, rfl⟩ | ⟨rfl, -, k1, k2, h1, h2, rfl⟩ | ⟨rfl, -⟩
 ·exact run3_e1 hr he
 ·rw [← List.drop_drop] at hr
  exact run3_e2 h1 hr he
 ·rw [Nat.add_assoc, ← List.drop_drop] at hr
  exact run3_e3 h1 h2 hr he
 ·omega
theorem num_next {b : List UInt8} {at_ i a : Nat} {y1 y2 y3 x : Int} {k : Nat} (h : Num3 b at_ i a y1 y2 y3) (hi : i < 3) (hr : readL (b.drop a) = (x.toNat, k, 0)) : Num3 b at_ (i + 1) (a + k) (if i = 0 then x else y1) (if i = 1 then x else y2) (if i = 2 then x else y3) := by
 rcases h with ⟨rfl, rfl, r1, r2, r3⟩ | ⟨rfl, r2, r3, k1, h1, rfl⟩ | ⟨rfl, r3, k1, k2, h1, h2, rfl⟩ | ⟨rfl, -⟩
 ·exact .inr (.inl ⟨rfl, by simpa using r2, by simpa using r3, k, by simpa using hr, rfl⟩)
 ·rw [← List.drop_drop] at hr
  exact .inr (.inr (.inl ⟨rfl, by simpa using r3, k1, k, by simpa using h1, by simpa using hr, rfl⟩))
 ·rw [Nat.add_assoc, ← List.drop_drop] at hr
  exact .inr (.inr (.inr ⟨rfl, k1, k2, k, by simpa using h1, by simpa using h2, by simpa using hr, rfl⟩))
 ·omega
theorem num_done {b : List UInt8} {at_ a : Nat} {y1 y2 y3 : Int} (h : Num3 b at_ 3 a y1 y2 y3) : ∃ k, run3 (b.drop at_) = ((y1.toNat, y2.toNat, y3.toNat), k, 0) ∧ a = at_ + k := by
 rcases h with ⟨h, -⟩ | ⟨h, -⟩ | ⟨h, -⟩ | ⟨-, k1, k2, k3, h1, h2, h3, h4⟩
 ·omega
 ·omega
 ·omega
 ·exact ⟨k1 + k2 + k3, run3_ok h1 h2 h3, by omega⟩
theorem oneC (w : World) (c : Cl) : CS (w.alloc (.cells #[.int .i32 c.r, .int .u16 (c.a : Int), .int .u8 (c.h : Int)] 65)) (w.heap.size + 1) (.slice (some ⟨w.heap.size, 0, none⟩) 1 1) [c] := by
 have hk : (w.alloc (.cells #[.int .i32 c.r, .int .u16 (c.a : Int), .int .u8 (c.h : Int)] 65)).heap[w.heap.size]? = some (.cells #[.int .i32 c.r, .int .u16 (c.a : Int), .int .u8 (c.h : Int)] 65) := by
  show (w.heap.push _)[w.heap.size]? = _
  simp
 refine ⟨_, 1, rfl, by simp, by simp [maxLen], fun _ => ⟨_, rfl, by simp, fun j x hj => ?_⟩⟩
 match j, hj with
 | 0, hj =>
  simp at hj
  subst hj
  exact ⟨(cell3 hk 0 rfl).1, (cell3 hk 1 rfl).1, (cell3 hk 2 rfl).1⟩
end Go.Proofs.YthncoigjfhmldaaGreat
