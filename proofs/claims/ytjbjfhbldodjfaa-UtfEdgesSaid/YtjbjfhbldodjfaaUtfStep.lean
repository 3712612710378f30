/- What is proved here: contracts of the document's functions that take a byte behind others, all bytes, and that put a rune: in new memory. -/
import Derived.Test.YtjbjfhbldodjfaaUtfWhole
namespace Go.Proofs.Ytjbjfhbldodjfaa
open Go.RowKit
set_option linter.unusedVariables false

def ints (l : List Nat) : List Int := List.map (fun n : Nat => Int.ofNat n) l
/-- A slice that reads as bytes and lies, if it has any, from block 'lo' on. -/
def BN (w : World) (lo : Nat) (v : Value) (l : List UInt8) : Prop := BS w w.heap.size v l ∧ ∀ ad n c, v = .slice (some ad) n c → 0 < l.length → lo ≤ ad.block
theorem BN.nil (w : World) (lo : Nat) : BN w lo (.slice none 0 0) [] := ⟨BS.nil _ _, fun _ _ _ h => by cases h⟩
theorem OB.bn {w : World} {base : Nat} {v : Value} {l : List UInt8} (h : OB w base v l) : BN w base v l := by
  refine ⟨h.bs, fun ad n c hv _ => ?_⟩
  subst hv
  exact (World.ownsRow.lt h ad.block rfl).1
/-- What was there and is not the row that is written is as it was. -/
theorem BN.grown {w w' : World} {lo : Nat} {v : Value} {l : List UInt8} {row : Option Nat} (h : BN w lo v l) (hg : w.grownBy w' row) (hrow : ∀ k, row = some k → k < lo) : BN w' lo v l := by
  obtain ⟨⟨A, c, hv, h1, h2, h3⟩, h4⟩ := h
  refine ⟨⟨A, c, hv, h1, h2, fun hl => ?_⟩, h4⟩
  obtain ⟨ad, hA, hb, hc⟩ := h3 hl
  subst hA
  have hlo := h4 ad _ _ hv hl
  refine ⟨ad, rfl, Nat.lt_of_lt_of_le hb hg.size, fun j b hj => ?_⟩
  have e : w'.cell? (ad.add j) = w.cell? (ad.add j) := World.cell?_of_block (w := w) (by
    rw [block_add]
    exact hg.block ad.block hb (fun e => by have := hrow _ e.symm; omega))
  rw [e]
  exact hc j b hj
def StepPost (p : List UInt8) (b : UInt8) (w : World) (e : Ending) (w' : World) : Prop :=
  ∃ v1 v2, e = .returned (.tuple #[v1, v2]) ∧ BN w' w.heap.size v1 (stepL p b).1 ∧ RS w' w'.heap.size v2 (ints (stepL p b).2) ∧ Below w.heap.size w w'
theorem stepPost_of {p : List UInt8} {b : UInt8} {w w' : World} {v1 v2 : Value} {q : List UInt8} {o : List Nat} (h : stepL p b = (q, o)) (h1 : BN w' w.heap.size v1 q) (h2 : RS w' w'.heap.size v2 (ints o)) (h3 : Below w.heap.size w w') :
    StepPost p b w (.returned (.tuple #[v1, v2])) w' := ⟨v1, v2, rfl, by rw [h]; exact h1, by rw [h]; exact h2, h3⟩

theorem stepL_no (p : List UInt8) (b : UInt8) (h : beginsL p = false) : stepL p b = firstL b [] := by simp [stepL, h]
theorem stepL_some (p : List UInt8) (b : UInt8) (r : Nat) (h : beginsL p = true) (hw : wholeL (p ++ [b]) = some r) : stepL p b = ([], [r]) := by simp [stepL, h, hw]
theorem stepL_pends (p : List UInt8) (b : UInt8) (h : beginsL p = true) (hw : wholeL (p ++ [b]) = none) (hq : beginsL (p ++ [b]) = true) : stepL p b = (p ++ [b], []) := by simp [stepL, h, hw, hq]
theorem stepL_breaks (p : List UInt8) (b : UInt8) (h : beginsL p = true) (hw : wholeL (p ++ [b]) = none) (hq : beginsL (p ++ [b]) = false) : stepL p b = firstL b [65533] := by simp [stepL, h, hw, hq]
theorem firstL_ascii (b : UInt8) (o : List Nat) (h : b.toNat < 128) : firstL b o = ([], o ++ [b.toNat]) := by simp [firstL, h]
theorem firstL_lead (b : UInt8) (o : List Nat) (h : ¬ b.toNat < 128) (hb : beginsL [b] = true) : firstL b o = ([b], o) := by simp [firstL, h, hb]
theorem firstL_bad (b : UInt8) (o : List Nat) (h : ¬ b.toNat < 128) (hb : beginsL [b] = false) : firstL b o = ([], o ++ [65533]) := by simp [firstL, h, hb]

theorem BS.lead (w : World) (b : UInt8) (t : TypeId) : BS (w.alloc (.cells #[.int .u8 (b.toNat : Int)] t)) (w.alloc (.cells #[.int .u8 (b.toNat : Int)] t)).heap.size (.slice (some ⟨w.heap.size, 0, none⟩) 1 1) [b] := (BS.one w b t).more (by simp)
theorem BS.leadAt (w : World) (b : UInt8) (t : TypeId) (g : Nat) (hg : g = w.heap.size) : BS (w.alloc (.cells #[.int .u8 (b.toNat : Int)] t)) (w.alloc (.cells #[.int .u8 (b.toNat : Int)] t)).heap.size (.slice (some ⟨g, 0, none⟩) 1 1) [b] := by
  subst hg
  exact BS.lead w b t
theorem BN.leadAt (w : World) (lo : Nat) (b : UInt8) (t : TypeId) (g : Nat) (hg : g = w.heap.size) (hlo : lo ≤ w.heap.size) : BN (w.alloc (.cells #[.int .u8 (b.toNat : Int)] t)) lo (.slice (some ⟨g, 0, none⟩) 1 1) [b] := by
  refine ⟨BS.leadAt w b t g hg, fun ad n c h _ => ?_⟩
  simp only [Value.slice.injEq, Option.some.injEq] at h
  rw [← h.1]
  show lo ≤ g
  omega
theorem RS.oneAt (w : World) (b : Int) (t : TypeId) (g : Nat) (hg : g = w.heap.size) : RS (w.alloc (.cells #[.int .i32 b] t)) (w.heap.size + 1) (.slice (some ⟨g, 0, none⟩) 1 1) [b] := by
  subst hg
  exact RS.one w b t

set_option maxHeartbeats 1000000 in
set_option maxRecDepth 100000 in
/-- Nothing that counts is pending: a byte below 0x80. -/
theorem stepr_no1 (v : Value) (p : List UInt8) (b : UInt8) (w : World) (hv : BS w w.heap.size v p) (hp : beginsL p = false) (h0 : b.toNat < 128) :
    Calls Try.prog 13 #[v, .int .u8 (b.toNat : Int)] w (StepPost p b w) := by
  have hs := stepL_no p b hp
  rw [firstL_ascii b _ h0] at hs
  obtain ⟨A, c, rfl, g1, g2, _⟩ := hv.at_
  unfold maxLen at g2
  have HV := Lib.hid hv
  have HP := Lib.hid hp
  have HS := Lib.hid hs
  clear hv hp hs
  have h0' : (b.toNat : Int) < 128 := by omega
  by_cases hl : 0 < p.length
  · go_enter Try.func13, Try.ntmps13
    go_wp2_with (first
      | (go_at_call 15; (with_reducible refine (beginsr_any _ p _ _ HV.out).mono ?_); rintro e w' ⟨rfl, rfl⟩; rw [HP.out])
      | (at_builtin; refine wpl_appR _ rfl (.tmp 39) (.tmp 42) rfl w.heap.size _ _ _ [] [(b.toNat : Int)] rfl rfl (OR.nil _ _) (RS.one w _ _) (by simp) (by simp) ?_; intro v1 w1 hown1 hg1 hbel1 _))
    go_ret2
    exact stepPost_of HS.out (BN.nil _ _) hown1.bs (((Below.refl _ _).alloc (Nat.le_refl _) _).trans hbel1)
  · have hl' : decide (0 < p.length) = false := decide_eq_false (by omega)
    go_enter Try.func13, Try.ntmps13
    go_wp2_with (first
      | (at_builtin; refine wpl_appR _ rfl (.tmp 39) (.tmp 42) rfl w.heap.size _ _ _ [] [(b.toNat : Int)] rfl rfl (OR.nil _ _) (RS.one w _ _) (by simp) (by simp) ?_; intro v1 w1 hown1 hg1 hbel1 _))
    go_ret2
    exact stepPost_of HS.out (BN.nil _ _) hown1.bs (((Below.refl _ _).alloc (Nat.le_refl _) _).trans hbel1)
set_option maxHeartbeats 1000000 in
set_option maxRecDepth 100000 in
/-- .. a byte that begins a rune. -/
theorem stepr_no2 (v : Value) (p : List UInt8) (b : UInt8) (w : World) (hv : BS w w.heap.size v p) (hp : beginsL p = false) (h0 : ¬ b.toNat < 128) (hb : beginsL [b] = true) :
    Calls Try.prog 13 #[v, .int .u8 (b.toNat : Int)] w (StepPost p b w) := by
  have hs := stepL_no p b hp
  rw [firstL_lead b _ h0 hb] at hs
  obtain ⟨A, c, rfl, g1, g2, _⟩ := hv.at_
  unfold maxLen at g2
  have HV := Lib.hid hv
  have HP := Lib.hid hp
  have HS := Lib.hid hs
  have HB := Lib.hid hb
  clear hv hp hs hb
  have h0' : decide ((b.toNat : Int) < 128) = false := by simp; omega
  by_cases hl : 0 < p.length
  · go_enter Try.func13, Try.ntmps13
    go_wp2_with (first
      | (go_at_call 15; (with_reducible refine (beginsr_any _ p _ _ HV.out).mono ?_); rintro e w' ⟨rfl, rfl⟩; rw [HP.out])
      | (go_at_call 15; (with_reducible refine (beginsr_any _ [b] _ _ (BS.lead w b _)).mono ?_); rintro e w' ⟨rfl, rfl⟩; rw [HB.out]))
    go_ret2
    exact stepPost_of HS.out (BN.leadAt _ _ b _ _ (by simp) (by simp; try omega)) (RS.nil _ _) (((Below.refl _ _).alloc (Nat.le_refl _) _).alloc (by simp) _)
  · have hl' : decide (0 < p.length) = false := decide_eq_false (by omega)
    go_enter Try.func13, Try.ntmps13
    go_wp2_with (first
      | (go_at_call 15; (with_reducible refine (beginsr_any _ [b] _ _ (BS.lead w b _)).mono ?_); rintro e w' ⟨rfl, rfl⟩; rw [HB.out]))
    go_ret2
    exact stepPost_of HS.out (BN.leadAt _ _ b _ _ (by simp) (by simp; try omega)) (RS.nil _ _) (((Below.refl _ _).alloc (Nat.le_refl _) _).alloc (by simp) _)
set_option maxHeartbeats 1000000 in
set_option maxRecDepth 100000 in
/-- .. a byte that can do neither. -/
theorem stepr_no3 (v : Value) (p : List UInt8) (b : UInt8) (w : World) (hv : BS w w.heap.size v p) (hp : beginsL p = false) (h0 : ¬ b.toNat < 128) (hb : beginsL [b] = false) :
    Calls Try.prog 13 #[v, .int .u8 (b.toNat : Int)] w (StepPost p b w) := by
  have hs := stepL_no p b hp
  rw [firstL_bad b _ h0 hb] at hs
  obtain ⟨A, c, rfl, g1, g2, _⟩ := hv.at_
  unfold maxLen at g2
  have HV := Lib.hid hv
  have HP := Lib.hid hp
  have HS := Lib.hid hs
  have HB := Lib.hid hb
  clear hv hp hs hb
  have h0' : decide ((b.toNat : Int) < 128) = false := by simp; omega
  by_cases hl : 0 < p.length
  · go_enter Try.func13, Try.ntmps13
    go_wp2_with (first
      | (go_at_call 15; (with_reducible refine (beginsr_any _ p _ _ HV.out).mono ?_); rintro e w' ⟨rfl, rfl⟩; rw [HP.out])
      | (go_at_call 15; (with_reducible refine (beginsr_any _ [b] _ _ (BS.lead w b _)).mono ?_); rintro e w' ⟨rfl, rfl⟩; rw [HB.out])
      | (at_builtin; refine wpl_appR _ rfl (.tmp 51) (.tmp 52) rfl w.heap.size _ _ _ [] [(65533 : Int)] rfl rfl (OR.nil _ _) (RS.oneAt _ _ _ _ (by simp)) (by simp) (by simp; omega) ?_; intro v1 w1 hown1 hg1 hbel1 _))
    go_ret2
    exact stepPost_of HS.out (BN.nil _ _) hown1.bs ((((Below.refl _ _).alloc (Nat.le_refl _) _).alloc (by simp) _).trans hbel1)
  · have hl' : decide (0 < p.length) = false := decide_eq_false (by omega)
    go_enter Try.func13, Try.ntmps13
    go_wp2_with (first
      | (go_at_call 15; (with_reducible refine (beginsr_any _ [b] _ _ (BS.lead w b _)).mono ?_); rintro e w' ⟨rfl, rfl⟩; rw [HB.out])
      | (at_builtin; refine wpl_appR _ rfl (.tmp 51) (.tmp 52) rfl w.heap.size _ _ _ [] [(65533 : Int)] rfl rfl (OR.nil _ _) (RS.oneAt _ _ _ _ (by simp)) (by simp) (by simp; omega) ?_; intro v1 w1 hown1 hg1 hbel1 _))
    go_ret2
    exact stepPost_of HS.out (BN.nil _ _) hown1.bs ((((Below.refl _ _).alloc (Nat.le_refl _) _).alloc (by simp) _).trans hbel1)
set_option maxHeartbeats 1000000 in
set_option maxRecDepth 100000 in
/-- What was pending and the byte are a rune. -/
theorem stepr_some (v : Value) (p : List UInt8) (b : UInt8) (w : World) (hv : BS w w.heap.size v p) (hp : beginsL p = true) (r : Nat) (hw : wholeL (p ++ [b]) = some r) :
    Calls Try.prog 13 #[v, .int .u8 (b.toNat : Int)] w (StepPost p b w) := by
  have hs := stepL_some p b r hp hw
  obtain ⟨A, c, rfl, g1, g2, _⟩ := hv.at_
  unfold maxLen at g2
  have hpl := beginsL_len p hp
  have hl : 0 < p.length := by omega
  have hl3 : p.length ≤ 3 := by omega
  have HV := Lib.hid hv
  have HP := Lib.hid hp
  have HS := Lib.hid hs
  clear hv hs hpl
  have HW := Lib.hid hw
  clear hw hp
  go_enter Try.func13, Try.ntmps13
  go_wp2_with (first
      | (go_at_call 15; (with_reducible refine (beginsr_any _ p _ _ HV.out).mono ?_); rintro e w' ⟨rfl, rfl⟩; rw [HP.out])
      | (at_builtin; refine wpl_app _ rfl (.const (.slice none 0 0)) (.tmp 17) rfl w.heap.size _ (.slice none 0 0) _ [] p rfl rfl (OB.nil _ _) HV.out (by simp; omega) (Nat.le_refl _) ?_; intro v1 w1 hown0 hg1 hbel1 _; have hown1 : OB w1 w.heap.size v1 p := hown0; clear hown0 hg1; have hz1 := hbel1.size)
      | (at_builtin; refine wpl_app _ rfl (.tmp 18) (.tmp 20) rfl w.heap.size _ _ _ p [b] rfl rfl (hown1.alloc _) (BS.one w1 b _) (by simp; omega) (by simp; omega) ?_; intro v2 w2 hown2 hg2 hbel2 _; have hbq := (hbel1.alloc hz1 _).trans hbel2; have hz2 := hbq.size)
      | (go_at_call 21; (with_reducible refine (wholer_any _ p b _ _ hown2.bs HP.out).mono ?_); rintro e w' ⟨rfl, he⟩; rw [HW.out] at he; obtain ⟨r', hr', rfl⟩ : ∃ r', some r = some r' ∧ e = .returned (.tuple #[.int .i32 (r' : Int), .bool true]) := (by rcases he with he | ⟨he, _⟩; exact he; cases he); injection hr' with hr'; subst hr'))
  go_ret2
  exact stepPost_of HS.out (BN.nil _ _) ((RS.one w2 _ _).more (by simp)) (hbq.alloc hz2 _)
set_option maxHeartbeats 1000000 in
set_option maxRecDepth 100000 in
/-- They are a beginning. -/
theorem stepr_pends (v : Value) (p : List UInt8) (b : UInt8) (w : World) (hv : BS w w.heap.size v p) (hp : beginsL p = true) (hw : wholeL (p ++ [b]) = none) (hq : beginsL (p ++ [b]) = true) :
    Calls Try.prog 13 #[v, .int .u8 (b.toNat : Int)] w (StepPost p b w) := by
  have hs := stepL_pends p b hp hw hq
  obtain ⟨A, c, rfl, g1, g2, _⟩ := hv.at_
  unfold maxLen at g2
  have hpl := beginsL_len p hp
  have hl : 0 < p.length := by omega
  have hl3 : p.length ≤ 3 := by omega
  have HV := Lib.hid hv
  have HP := Lib.hid hp
  have HS := Lib.hid hs
  clear hv hs hpl
  have HW := Lib.hid hw
  have HQ := Lib.hid hq
  clear hw hp hq
  go_enter Try.func13, Try.ntmps13
  go_wp2_with (first
      | (go_at_call 15; (with_reducible refine (beginsr_any _ p _ _ HV.out).mono ?_); rintro e w' ⟨rfl, rfl⟩; rw [HP.out])
      | (at_builtin; refine wpl_app _ rfl (.const (.slice none 0 0)) (.tmp 17) rfl w.heap.size _ (.slice none 0 0) _ [] p rfl rfl (OB.nil _ _) HV.out (by simp; omega) (Nat.le_refl _) ?_; intro v1 w1 hown0 hg1 hbel1 _; have hown1 : OB w1 w.heap.size v1 p := hown0; clear hown0 hg1; have hz1 := hbel1.size)
      | (at_builtin; refine wpl_app _ rfl (.tmp 18) (.tmp 20) rfl w.heap.size _ _ _ p [b] rfl rfl (hown1.alloc _) (BS.one w1 b _) (by simp; omega) (by simp; omega) ?_; intro v2 w2 hown2 hg2 hbel2 _; have hbq := (hbel1.alloc hz1 _).trans hbel2; have hz2 := hbq.size)
      | (go_at_call 21; (with_reducible refine (wholer_any _ p b _ _ hown2.bs HP.out).mono ?_); rintro e w' ⟨rfl, he⟩; rw [HW.out] at he; obtain ⟨r', rfl⟩ : ∃ r' : Int, e = .returned (.tuple #[.int .i32 r', .bool false]) := (by rcases he with ⟨_, he, _⟩ | ⟨_, he⟩; cases he; exact he))
      | (go_at_call 15; (with_reducible refine (beginsr_any _ (p ++ [b]) _ _ hown2.bs).mono ?_); rintro e w' ⟨rfl, rfl⟩; rw [HQ.out]))
  go_ret2
  exact stepPost_of HS.out hown2.bn (RS.nil _ _) hbq
set_option maxHeartbeats 1000000 in
set_option maxRecDepth 100000 in
/-- They are neither; a byte below 0x80. -/
theorem stepr_b1 (v : Value) (p : List UInt8) (b : UInt8) (w : World) (hv : BS w w.heap.size v p) (hp : beginsL p = true) (hw : wholeL (p ++ [b]) = none) (hq : beginsL (p ++ [b]) = false) (h0 : b.toNat < 128) :
    Calls Try.prog 13 #[v, .int .u8 (b.toNat : Int)] w (StepPost p b w) := by
  have hs := stepL_breaks p b hp hw hq
  rw [firstL_ascii b _ h0] at hs
  obtain ⟨A, c, rfl, g1, g2, _⟩ := hv.at_
  unfold maxLen at g2
  have hpl := beginsL_len p hp
  have hl : 0 < p.length := by omega
  have hl3 : p.length ≤ 3 := by omega
  have HV := Lib.hid hv
  have HP := Lib.hid hp
  have HS := Lib.hid hs
  clear hv hs hpl
  have HW := Lib.hid hw
  have HQ := Lib.hid hq
  clear hw hp hq
  have h0' : (b.toNat : Int) < 128 := by omega
  go_enter Try.func13, Try.ntmps13
  go_wp2_with (first
      | (go_at_call 15; (with_reducible refine (beginsr_any _ p _ _ HV.out).mono ?_); rintro e w' ⟨rfl, rfl⟩; rw [HP.out])
      | (at_builtin; refine wpl_app _ rfl (.const (.slice none 0 0)) (.tmp 17) rfl w.heap.size _ (.slice none 0 0) _ [] p rfl rfl (OB.nil _ _) HV.out (by simp; omega) (Nat.le_refl _) ?_; intro v1 w1 hown0 hg1 hbel1 _; have hown1 : OB w1 w.heap.size v1 p := hown0; clear hown0 hg1; have hz1 := hbel1.size)
      | (at_builtin; refine wpl_app _ rfl (.tmp 18) (.tmp 20) rfl w.heap.size _ _ _ p [b] rfl rfl (hown1.alloc _) (BS.one w1 b _) (by simp; omega) (by simp; omega) ?_; intro v2 w2 hown2 hg2 hbel2 _; have hbq := (hbel1.alloc hz1 _).trans hbel2; have hz2 := hbq.size)
      | (go_at_call 21; (with_reducible refine (wholer_any _ p b _ _ hown2.bs HP.out).mono ?_); rintro e w' ⟨rfl, he⟩; rw [HW.out] at he; obtain ⟨r', rfl⟩ : ∃ r' : Int, e = .returned (.tuple #[.int .i32 r', .bool false]) := (by rcases he with ⟨_, he, _⟩ | ⟨_, he⟩; cases he; exact he))
      | (go_at_call 15; (with_reducible refine (beginsr_any _ (p ++ [b]) _ _ hown2.bs).mono ?_); rintro e w' ⟨rfl, rfl⟩; rw [HQ.out])
      | (at_builtin; refine wpl_appR _ rfl (.tmp 33) (.tmp 34) rfl w.heap.size _ _ _ [] [(65533 : Int)] rfl rfl (OR.nil _ _) (RS.oneAt _ _ _ _ (by simp)) (by simp) (by simp; omega) ?_; intro v3 w3 hown3 hg3 hbel3 _; have hb3 := (hbq.alloc hz2 _).trans hbel3; have hz3 := hb3.size)
      | (at_builtin; refine wpl_appR _ rfl (.tmp 39) (.tmp 42) rfl w.heap.size _ _ _ [65533] [(b.toNat : Int)] rfl rfl (hown3.alloc _) (RS.oneAt _ _ _ _ (by simp)) (by simp) (by simp; omega) ?_; intro v4 w4 hown4 hg4 hbel4 _; have hb4 := (hb3.alloc hz3 _).trans hbel4))
  go_ret2
  exact stepPost_of HS.out (BN.nil _ _) hown4.bs hb4
set_option maxHeartbeats 1000000 in
set_option maxRecDepth 100000 in
/-- .. a byte that begins another one. -/
theorem stepr_b2 (v : Value) (p : List UInt8) (b : UInt8) (w : World) (hv : BS w w.heap.size v p) (hp : beginsL p = true) (hw : wholeL (p ++ [b]) = none) (hq : beginsL (p ++ [b]) = false) (h0 : ¬ b.toNat < 128) (hb : beginsL [b] = true) :
    Calls Try.prog 13 #[v, .int .u8 (b.toNat : Int)] w (StepPost p b w) := by
  have hs := stepL_breaks p b hp hw hq
  rw [firstL_lead b _ h0 hb] at hs
  obtain ⟨A, c, rfl, g1, g2, _⟩ := hv.at_
  unfold maxLen at g2
  have hpl := beginsL_len p hp
  have hl : 0 < p.length := by omega
  have hl3 : p.length ≤ 3 := by omega
  have HV := Lib.hid hv
  have HP := Lib.hid hp
  have HS := Lib.hid hs
  clear hv hs hpl
  have HW := Lib.hid hw
  have HQ := Lib.hid hq
  have HB := Lib.hid hb
  clear hw hp hq hb
  have h0' : decide ((b.toNat : Int) < 128) = false := by simp; omega
  go_enter Try.func13, Try.ntmps13
  go_wp2_with (first
      | (go_at_call 15; (with_reducible refine (beginsr_any _ p _ _ HV.out).mono ?_); rintro e w' ⟨rfl, rfl⟩; rw [HP.out])
      | (at_builtin; refine wpl_app _ rfl (.const (.slice none 0 0)) (.tmp 17) rfl w.heap.size _ (.slice none 0 0) _ [] p rfl rfl (OB.nil _ _) HV.out (by simp; omega) (Nat.le_refl _) ?_; intro v1 w1 hown0 hg1 hbel1 _; have hown1 : OB w1 w.heap.size v1 p := hown0; clear hown0 hg1; have hz1 := hbel1.size)
      | (at_builtin; refine wpl_app _ rfl (.tmp 18) (.tmp 20) rfl w.heap.size _ _ _ p [b] rfl rfl (hown1.alloc _) (BS.one w1 b _) (by simp; omega) (by simp; omega) ?_; intro v2 w2 hown2 hg2 hbel2 _; have hbq := (hbel1.alloc hz1 _).trans hbel2; have hz2 := hbq.size)
      | (go_at_call 21; (with_reducible refine (wholer_any _ p b _ _ hown2.bs HP.out).mono ?_); rintro e w' ⟨rfl, he⟩; rw [HW.out] at he; obtain ⟨r', rfl⟩ : ∃ r' : Int, e = .returned (.tuple #[.int .i32 r', .bool false]) := (by rcases he with ⟨_, he, _⟩ | ⟨_, he⟩; cases he; exact he))
      | (go_at_call 15; (with_reducible refine (beginsr_any _ (p ++ [b]) _ _ hown2.bs).mono ?_); rintro e w' ⟨rfl, rfl⟩; rw [HQ.out])
      | (at_builtin; refine wpl_appR _ rfl (.tmp 33) (.tmp 34) rfl w.heap.size _ _ _ [] [(65533 : Int)] rfl rfl (OR.nil _ _) (RS.oneAt _ _ _ _ (by simp)) (by simp) (by simp; omega) ?_; intro v3 w3 hown3 hg3 hbel3 _; have hb3 := (hbq.alloc hz2 _).trans hbel3; have hz3 := hb3.size)
      | (go_at_call 15; (with_reducible refine (beginsr_any _ [b] _ _ (BS.lead w3 b _)).mono ?_); rintro e w' ⟨rfl, rfl⟩; rw [HB.out]))
  go_ret2
  exact stepPost_of HS.out (BN.leadAt _ _ b _ _ (by simp) (by simp; try omega)) (((hown3.alloc _).alloc _).bs) ((hb3.alloc hz3 _).alloc (by simp; omega) _)
set_option maxHeartbeats 1000000 in
set_option maxRecDepth 100000 in
/-- .. a byte that can do neither. -/
theorem stepr_b3 (v : Value) (p : List UInt8) (b : UInt8) (w : World) (hv : BS w w.heap.size v p) (hp : beginsL p = true) (hw : wholeL (p ++ [b]) = none) (hq : beginsL (p ++ [b]) = false) (h0 : ¬ b.toNat < 128) (hb : beginsL [b] = false) :
    Calls Try.prog 13 #[v, .int .u8 (b.toNat : Int)] w (StepPost p b w) := by
  have hs := stepL_breaks p b hp hw hq
  rw [firstL_bad b _ h0 hb] at hs
  obtain ⟨A, c, rfl, g1, g2, _⟩ := hv.at_
  unfold maxLen at g2
  have hpl := beginsL_len p hp
  have hl : 0 < p.length := by omega
  have hl3 : p.length ≤ 3 := by omega
  have HV := Lib.hid hv
  have HP := Lib.hid hp
  have HS := Lib.hid hs
  clear hv hs hpl
  have HW := Lib.hid hw
  have HQ := Lib.hid hq
  have HB := Lib.hid hb
  clear hw hp hq hb
  have h0' : decide ((b.toNat : Int) < 128) = false := by simp; omega
  go_enter Try.func13, Try.ntmps13
  go_wp2_with (first
      | (go_at_call 15; (with_reducible refine (beginsr_any _ p _ _ HV.out).mono ?_); rintro e w' ⟨rfl, rfl⟩; rw [HP.out])
      | (at_builtin; refine wpl_app _ rfl (.const (.slice none 0 0)) (.tmp 17) rfl w.heap.size _ (.slice none 0 0) _ [] p rfl rfl (OB.nil _ _) HV.out (by simp; omega) (Nat.le_refl _) ?_; intro v1 w1 hown0 hg1 hbel1 _; have hown1 : OB w1 w.heap.size v1 p := hown0; clear hown0 hg1; have hz1 := hbel1.size)
      | (at_builtin; refine wpl_app _ rfl (.tmp 18) (.tmp 20) rfl w.heap.size _ _ _ p [b] rfl rfl (hown1.alloc _) (BS.one w1 b _) (by simp; omega) (by simp; omega) ?_; intro v2 w2 hown2 hg2 hbel2 _; have hbq := (hbel1.alloc hz1 _).trans hbel2; have hz2 := hbq.size)
      | (go_at_call 21; (with_reducible refine (wholer_any _ p b _ _ hown2.bs HP.out).mono ?_); rintro e w' ⟨rfl, he⟩; rw [HW.out] at he; obtain ⟨r', rfl⟩ : ∃ r' : Int, e = .returned (.tuple #[.int .i32 r', .bool false]) := (by rcases he with ⟨_, he, _⟩ | ⟨_, he⟩; cases he; exact he))
      | (go_at_call 15; (with_reducible refine (beginsr_any _ (p ++ [b]) _ _ hown2.bs).mono ?_); rintro e w' ⟨rfl, rfl⟩; rw [HQ.out])
      | (at_builtin; refine wpl_appR _ rfl (.tmp 33) (.tmp 34) rfl w.heap.size _ _ _ [] [(65533 : Int)] rfl rfl (OR.nil _ _) (RS.oneAt _ _ _ _ (by simp)) (by simp) (by simp; omega) ?_; intro v3 w3 hown3 hg3 hbel3 _; have hb3 := (hbq.alloc hz2 _).trans hbel3; have hz3 := hb3.size)
      | (go_at_call 15; (with_reducible refine (beginsr_any _ [b] _ _ (BS.lead w3 b _)).mono ?_); rintro e w' ⟨rfl, rfl⟩; rw [HB.out])
      | (at_builtin; refine wpl_appR _ rfl (.tmp 51) (.tmp 52) rfl w.heap.size _ _ _ [65533] [(65533 : Int)] rfl rfl ((hown3.alloc _).alloc _) (RS.oneAt _ _ _ _ (by simp)) (by simp) (by simp; omega) ?_; intro v4 w4 hown4 hg4 hbel4 _; have hb4 := ((hb3.alloc hz3 _).alloc (by simp; omega) _).trans hbel4))
  go_ret2
  exact stepPost_of HS.out (BN.nil _ _) hown4.bs hb4

/-- The document's Step. -/
theorem stepr_any (v : Value) (p : List UInt8) (b : UInt8) (w : World) (hv : BS w w.heap.size v p) : Calls Try.prog 13 #[v, .int .u8 (b.toNat : Int)] w (StepPost p b w) := by
  cases hp : beginsL p
  · by_cases h0 : b.toNat < 128
    · exact stepr_no1 v p b w hv hp h0
    cases hb : beginsL [b]
    · exact stepr_no3 v p b w hv hp h0 hb
    · exact stepr_no2 v p b w hv hp h0 hb
  · cases hw : wholeL (p ++ [b]) with
    | some r => exact stepr_some v p b w hv hp r hw
    | none =>
      cases hq : beginsL (p ++ [b])
      · by_cases h0 : b.toNat < 128
        · exact stepr_b1 v p b w hv hp hw hq h0
        cases hb : beginsL [b]
        · exact stepr_b3 v p b w hv hp hw hq h0 hb
        · exact stepr_b2 v p b w hv hp hw hq h0 hb
      · exact stepr_pends v p b w hv hp hw hq
end Go.Proofs.Ytjbjfhbldodjfaa
