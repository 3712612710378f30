/- What is proved here: words for a row of bytes of the call's own that is made by make or written at a place: what it reads as behind it; no function of the program is named. -/
import Derived.Test.YtmggknoaiaeojaaLebWords
import Derived.Laws.OwnMore
import Derived.Laws.MakeOwn
import Derived.Deep.OwnRows
namespace Go.Proofs.Ytmggknoaiaeojaa
open Go.RowKit

theorem BS.cellC {w : World} {B n c : Nat} {A : Option Addr} {l : List UInt8} (h : BS w B (.slice A n c) l) (k : Nat) (hk : k < l.length) : ∃ ad, A = some ad ∧ w.cell? (ad.add k) = some (vB l[k]) := by
  obtain ⟨A', c', hv, _, _, h3⟩ := h.at_
  simp only [Value.slice.injEq] at hv
  obtain ⟨rfl, _, _⟩ := hv
  exact h3 k hk
theorem BS.blockC {w : World} {B n c : Nat} {ad : Addr} {l : List UInt8} (h : BS w B (.slice (some ad) n c) l) (hl : 0 < l.length) : ad.block < B := by
  obtain ⟨A', c', hv, _, _, h3⟩ := h
  simp only [Value.slice.injEq] at hv
  obtain ⟨hA, _, _⟩ := hv
  obtain ⟨ad', hA', hb, _⟩ := h3 hl
  rw [hA'] at hA
  injection hA with hA
  rw [hA]
  exact hb
section
variable {w : World} {base g n cap : Nat} {l : List UInt8}
theorem OB.len (h : OB w base (.slice (some ⟨g, 0, none⟩) n cap) l) : n = l.length := by
  unfold OB at h
  rcases h.2 with ⟨hv, _⟩ | ⟨g', cap', cur, hv, _⟩
  · cases hv
  · simp only [Value.slice.injEq] at hv
    exact hv.2.1
theorem OB.cellAt (h : OB w base (.slice (some ⟨g, 0, none⟩) l.length cap) l) (j : Nat) (hj : j < l.length) : w.cell? ⟨g, j, none⟩ = some (vB l[j]) := by
  unfold OB at h
  rw [World.ownsRow.cellAt h j (by omega)]
  simp [vBs, hj]
theorem OB.frozenAt (h : OB w base (.slice (some ⟨g, 0, none⟩) l.length cap) l) (j : Nat) : w.frozen? ⟨g, j, none⟩ = false := World.ownsRow.frozenAt h j
theorem OB.stored (h : OB w base (.slice (some ⟨g, 0, none⟩) l.length cap) l) (j : Nat) (x : UInt8) : OB (w.setCell ⟨g, j, none⟩ (vB x)) base (.slice (some ⟨g, 0, none⟩) l.length cap) (l.set j x) := by
  have := (World.ownsRow.stored h j (vB x)).1
  unfold OB
  rw [List.length_set]
  have e : vBs (l.set j x) = (vBs l).set j (vB x) := by simp [vBs, List.map_set]
  rw [e]
  exact this
theorem OB.block (h : OB w base (.slice (some ⟨g, 0, none⟩) n cap) l) : base ≤ g ∧ g < w.heap.size := World.ownsRow.lt h g rfl
end

theorem madeZ (n : Nat) : madeCells #[.int .u8 0] n = (vBs (List.replicate n 0)).toArray := by
  apply Array.ext_getElem?
  intro i
  simp only [madeCells, vBs, List.map_replicate, List.getElem?_toArray, Array.getElem?_map]
  by_cases h : i < n
  · simp [h, vB, Nat.mod_one]
  · simp [h]
theorem OB.made (w : World) (n : Nat) (hm : n ≤ 1048576) : OB (w.alloc (.cells (madeCells #[.int .u8 0] n) 5)) w.heap.size (.slice (some ⟨w.heap.size, 0, none⟩) n n) (List.replicate n 0) := by
  have := World.ownsRow_lit (base := w.heap.size) (e := 5) (size := 1) w (madeCells #[.int .u8 0] n) n (Nat.le_refl _) (by simp [maxLen]; omega) (by rw [size_madeCells]; omega)
  unfold OB
  rw [List.length_replicate]
  rw [madeZ] at this ⊢
  exact this
theorem run_makeB (n : Nat) (hn : n ≤ 1048576) (w : World) :
    (Instr.makeSlice 22 (.int .i64 (n : Int)) (.int .i64 (n : Int))).run Try.prog w = .ok (.slice (some ⟨w.heap.size, 0, none⟩) n n) (w.alloc (.cells (madeCells #[.int .u8 0] n) 5)) :=
  run_make_row' 22 5 (.int .u8 0) 1 Try.underlying22 byteInfo rfl .i64 .i64 n (by omega) (by omega) w
end Go.Proofs.Ytmggknoaiaeojaa
