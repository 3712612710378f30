/- What is proved here: a contract of the laws' helper 'known' of layer 3: it answers true. -/
import Derived.Test.YtjbjfhbldodjfaaUtfProg
namespace Go.Proofs.Ytjbjfhbldodjfaa
open Go.RowKit
set_option linter.unusedVariables false

theorem RS.lits {w : World} {B : Nat} {v : Value} {x : Int} {l : List Int} (h : RS w B v (x :: l)) : ∃ ad c, v = .slice (some ad) (x :: l).length c ∧ w.cell? ad = some (.int .i32 x) ∧ ∀ j y, l[j]? = some y → w.cell? ⟨ad.block, ad.off + (j + 1), none⟩ = some (.int .i32 y) := by
  obtain ⟨A, c, rfl, h1, h2, h3⟩ := h
  obtain ⟨ad, rfl, _, hc⟩ := h3 (by simp)
  refine ⟨ad, c, rfl, ?_, fun j b hj => ?_⟩
  · have := hc 0 x rfl
    rw [show ad.add 0 = ad from by simp [Addr.add]] at this
    exact this
  · have := hc (j + 1) b (by simpa using hj)
    rw [show ad.add (j + 1) = ⟨ad.block, ad.off + (j + 1), none⟩ from by simp [Addr.add]] at this
    exact this
theorem BS.form {w : World} {B : Nat} {v : Value} {l : List UInt8} (h : BS w B v l) : ∃ A c, v = .slice A l.length c := by
  obtain ⟨A, c, hv, _⟩ := h
  exact ⟨A, c, hv⟩
theorem RS.form {w : World} {B : Nat} {v : Value} {l : List Int} (h : RS w B v l) : ∃ A c, v = .slice A l.length c := by
  obtain ⟨A, c, hv, _⟩ := h
  exact ⟨A, c, hv⟩

theorem ku1 : stepL [] 195 = ([195], []) := by decide +kernel
theorem ku2 : stepL [195] 169 = ([], [233]) := by decide +kernel
theorem ku3 : allL [97, 255, 195, 169, 230] = ([230], [97, 65533, 233]) := by decide +kernel
theorem ku4 : formL 28450 = [230, 188, 162] := by decide +kernel

theorem knownU1 (w : World) : Calls Try.prog 12 #[.slice none 0 0, .int .u8 195] w fun e w' => ∃ v1 v2, e = .returned (.tuple #[v1, v2]) ∧ BS w' w'.heap.size v1 [195] ∧ RS w' w'.heap.size v2 [] ∧ Below w.heap.size w w' := by
  refine (ustep_any (.slice none 0 0) [] 195 w (BS.nil _ _) (by simp)).mono ?_
  rintro e w' ⟨v1, v2, rfl, h1, h2, h3⟩
  rw [ku1] at h1 h2
  exact ⟨v1, v2, rfl, h1.1, h2, h3⟩
theorem knownU2 (v : Value) (w : World) (hv : BS w w.heap.size v [195]) : Calls Try.prog 12 #[v, .int .u8 169] w fun e w' => ∃ v1 v2, e = .returned (.tuple #[v1, v2]) ∧ BS w' w'.heap.size v1 [] ∧ RS w' w'.heap.size v2 [233] ∧ Below w.heap.size w w' := by
  refine (ustep_any v [195] 169 w hv (by simp)).mono ?_
  rintro e w' ⟨v1, v2, rfl, h1, h2, h3⟩
  rw [ku2] at h1 h2
  exact ⟨v1, v2, rfl, h1.1, h2, h3⟩
theorem knownU3 (W : World) (fr : Nat × Nat) : Calls Try.prog 9 #[.slice (some ⟨W.heap.size, 0, none⟩) 5 5] (W.alloc (.cells #[.int .u8 97, .int .u8 255, .int .u8 195, .int .u8 169, .int .u8 230] 5 fr))
    fun e w' => ∃ v1 v2, e = .returned (.tuple #[v1, v2]) ∧ RS w' w'.heap.size v1 [97, 65533, 233] ∧ BS w' w'.heap.size v2 [230] ∧ Below W.heap.size W w' := by
  have hb := BS.litM W [97, 255, 195, 169, 230] 5 #[.int .u8 97, .int .u8 255, .int .u8 195, .int .u8 169, .int .u8 230] 5 fr rfl (by simp [vBs, vB]) (by simp)
  refine (uall_any _ _ _ (hb.more (by simp)) (by simp)).mono ?_
  rintro e w' ⟨v1, v2, rfl, h1, h2, h3⟩
  have h1' := h1.bs
  rw [ku3] at h1' h2
  exact ⟨v1, v2, rfl, h1', h2, ((Below.refl _ _).alloc (Nat.le_refl _) _).trans (h3.mono (by simp))⟩
theorem knownU4 (w : World) : Calls Try.prog 16 #[.int .i32 28450] w fun e w' => ∃ v, e = .returned v ∧ BS w' w'.heap.size v [230, 188, 162] ∧ Below w.heap.size w w' := by
  refine (uput_any 28450 (by omega) (by omega) w).mono ?_
  rintro e w' ⟨v, rfl, h1, h2⟩
  rw [ku4] at h1
  exact ⟨v, rfl, h1.1, h2⟩
theorem knownU5 (w : World) (b : UInt8) (r : Bool) (hr : beginsL [b] = r) : Calls Try.prog 14 #[.slice (some ⟨w.heap.size, 0, none⟩) 1 1] (w.alloc (.cells #[.int .u8 (b.toNat : Int)] 5)) fun e w' => e = .returned (.bool r) ∧ Below w.heap.size w w' := by
  refine (ubegins_any _ [b] _ ((BS.one w b _).more (by simp)) (by simp)).mono ?_
  rintro e w' ⟨rfl, h⟩
  rw [hr]
  exact ⟨rfl, ((Below.refl _ _).alloc (Nat.le_refl _) _).trans (h.mono (by simp))⟩

set_option maxHeartbeats 2000000 in
set_option maxRecDepth 100000 in
theorem knownU_any (w : World) : Calls Try.prog 7 #[] w fun e w' => e = .returned (.bool true) ∧ Below w.heap.size w w' := by
  go_enter Try.func7, Try.ntmps7
  go_wp2_with fail
  refine (knownU1 _).mono ?_
  rintro e w1 ⟨p, r, rfl, hp, hr, hb1⟩
  go_wp2_with fail
  refine (knownU2 _ _ hp).mono ?_
  rintro e w2 ⟨q, s, rfl, hq, hs, hb⟩
  have hp2 := (hp.below hb).more hb.size
  have hr2 := (hr.below hb).more hb.size
  have hb2 := hb1.trans (hb.mono hb1.size)
  clear hp hr hb hb1
  have hk := Lib.run_convert_bytes_const (P := Try.prog) w2 22 5 #[.int .u8 97, .int .u8 255, .int .u8 195, .int .u8 169, .int .u8 230] 5 5 Try.underlying22 Try.underlying5
  go_wp2_with fail
  refine (knownU3 _ _).mono ?_
  rintro e w3 ⟨l, t, rfl, hl, ht, hb⟩
  obtain ⟨P1, pc, rfl⟩ := hp2.form
  obtain ⟨R1, rc, rfl⟩ := hr2.form
  obtain ⟨Q1, qc, rfl⟩ := hq.form
  obtain ⟨T1, tc, rfl⟩ := ht.form
  have hs3 := (hs.below hb).more hb.size
  obtain ⟨S1, sc, rfl, hs0, _⟩ := hs3.lits
  obtain ⟨L1, lc, rfl, _, hl1⟩ := hl.lits
  have hl2 := hl1 0 65533 rfl
  rw [show L1.off + (0 + 1) = L1.off + 1 from rfl] at hl2
  have hb3 := hb2.trans (hb.mono hb2.size)
  clear hk hp2 hr2 hq ht hs hs3 hl hl1 hb hb2
  go_wp2_with fail
  refine (knownU4 _).mono ?_
  rintro e w4 ⟨v, rfl, hv, hb⟩
  have hb4 := hb3.trans (hb.mono hb3.size)
  have hstr := run_str hv
  have hstr' : (convert 22 9 v).run Try.prog w4 = .ok (.string ⟨#[230, 188, 162]⟩) w4 := hstr
  clear hv hb hb3 hs0 hl2 hstr
  go_wp2_with fail
  refine (knownU5 _ 230 true (by decide)).mono ?_
  rintro e w5 ⟨rfl, hb⟩
  have hb5 := hb4.trans (hb.mono hb4.size)
  clear hb hb4 hstr'
  go_wp2_with fail
  refine (knownU5 _ 192 false (by decide)).mono ?_
  rintro e w6 ⟨rfl, hb⟩
  have hb6 := hb5.trans (hb.mono hb5.size)
  go_wp2
  go_ret
  exact ⟨rfl, hb6⟩
end Go.Proofs.Ytjbjfhbldodjfaa
