/- What is proved here: contracts of the document's functions that take a byte behind others, all bytes, and that put a rune: in new memory; plain facts on the document's parser of a terminal: what a byte comes to, in each mode; no program is named; words for parsers and rows of acts in memory over this translation: a slice that reads as a list and lies in certain blocks; a parser's value; cells that read as acts; a slice of acts, and one of the call's own; what append makes of it; contracts of the document's small functions on a terminal's parser: which bytes are between, one byte more, runes as acts, U+FFFD's own bytes; a contract of the document's function that takes a byte within a control sequence: in new memory, or in its argument's; the same contract, where a byte is kept (one between, a number's digit, one number more). -/
import Derived.Test.YtbimhhcmfhooaaaM1
import Derived.RegionTactic
import Derived.BigRegion
namespace Go.Proofs.Ytbimhhcmfhooaaa
open Go.RowKit
set_option linter.unusedVariables false

def ints (l : List Nat) : List Int := List.map (fun n : Nat => Int.ofNat n) l
/-- A slice that reads as bytes and lies, if it has any, from block 'lo' on. -/
def BN (w : World) (lo : Nat) (v : Value) (l : List UInt8) : Prop := BS w w.heap.size v l ∧ ∀ ad n c, v = .slice (some ad) n c → 0 < l.length → lo ≤ ad.block
theorem BN.nil (w : World) (lo : Nat) : BN w lo (.slice none 0 0) [] := ⟨BS.nil _ _, fun _ _ _ h => by cases h⟩
theorem OB.bn {w : World} {base : Nat} {v : Value} {l : List UInt8} (h : OB w base v l) : BN w base v l := by
  refine ⟨h.bs, fun ad n c hv _ => ?_⟩
  subst hv
  exact (World.ownsRow.lt h ad.block rfl).1
/-- What was there and is not the row that is written is as it was. -/
theorem BN.grown {w w' : World} {lo : Nat} {v : Value} {l : List UInt8} {row : Option Nat} (h : BN w lo v l) (hg : w.grownBy w' row) (hrow : ∀ k, row = some k → k < lo) : BN w' lo v l := by
  obtain ⟨⟨A, c, hv, h1, h2, h3⟩, h4⟩ := h
  refine ⟨⟨A, c, hv, h1, h2, fun hl => ?_⟩, h4⟩
  obtain ⟨ad, hA, hb, hc⟩ := h3 hl
  subst hA
  have hlo := h4 ad _ _ hv hl
  refine ⟨ad, rfl, Nat.lt_of_lt_of_le hb hg.size, fun j b hj => ?_⟩
  have e : w'.cell? (ad.add j) = w.cell? (ad.add j) := World.cell?_of_block (w := w) (by
    rw [block_add]
    exact hg.block ad.block hb (fun e => by have := hrow _ e.symm; omega))
  rw [e]
  exact hc j b hj
def StepPost (p : List UInt8) (b : UInt8) (w : World) (e : Ending) (w' : World) : Prop :=
  ∃ v1 v2, e = .returned (.tuple #[v1, v2]) ∧ BN w' w.heap.size v1 (stepL p b).1 ∧ RS w' w'.heap.size v2 (ints (stepL p b).2) ∧ Below w.heap.size w w'
theorem stepPost_of {p : List UInt8} {b : UInt8} {w w' : World} {v1 v2 : Value} {q : List UInt8} {o : List Nat} (h : stepL p b = (q, o)) (h1 : BN w' w.heap.size v1 q) (h2 : RS w' w'.heap.size v2 (ints o)) (h3 : Below w.heap.size w w') :
    StepPost p b w (.returned (.tuple #[v1, v2])) w' := ⟨v1, v2, rfl, by rw [h]; exact h1, by rw [h]; exact h2, h3⟩

theorem stepL_no (p : List UInt8) (b : UInt8) (h : beginsL p = false) : stepL p b = firstL b [] := by simp [stepL, h]
theorem stepL_some (p : List UInt8) (b : UInt8) (r : Nat) (h : beginsL p = true) (hw : wholeL (p ++ [b]) = some r) : stepL p b = ([], [r]) := by simp [stepL, h, hw]
theorem stepL_pends (p : List UInt8) (b : UInt8) (h : beginsL p = true) (hw : wholeL (p ++ [b]) = none) (hq : beginsL (p ++ [b]) = true) : stepL p b = (p ++ [b], []) := by simp [stepL, h, hw, hq]
theorem stepL_breaks (p : List UInt8) (b : UInt8) (h : beginsL p = true) (hw : wholeL (p ++ [b]) = none) (hq : beginsL (p ++ [b]) = false) : stepL p b = firstL b [65533] := by simp [stepL, h, hw, hq]
theorem firstL_ascii (b : UInt8) (o : List Nat) (h : b.toNat < 128) : firstL b o = ([], o ++ [b.toNat]) := by simp [firstL, h]
theorem firstL_lead (b : UInt8) (o : List Nat) (h : ¬ b.toNat < 128) (hb : beginsL [b] = true) : firstL b o = ([b], o) := by simp [firstL, h, hb]
theorem firstL_bad (b : UInt8) (o : List Nat) (h : ¬ b.toNat < 128) (hb : beginsL [b] = false) : firstL b o = ([], o ++ [65533]) := by simp [firstL, h, hb]

theorem BS.lead (w : World) (b : UInt8) (t : TypeId) : BS (w.alloc (.cells #[.int .u8 (b.toNat : Int)] t)) (w.alloc (.cells #[.int .u8 (b.toNat : Int)] t)).heap.size (.slice (some ⟨w.heap.size, 0, none⟩) 1 1) [b] := (BS.one w b t).more (by simp)
theorem BS.leadAt (w : World) (b : UInt8) (t : TypeId) (g : Nat) (hg : g = w.heap.size) : BS (w.alloc (.cells #[.int .u8 (b.toNat : Int)] t)) (w.alloc (.cells #[.int .u8 (b.toNat : Int)] t)).heap.size (.slice (some ⟨g, 0, none⟩) 1 1) [b] := by
  subst hg
  exact BS.lead w b t
theorem BN.leadAt (w : World) (lo : Nat) (b : UInt8) (t : TypeId) (g : Nat) (hg : g = w.heap.size) (hlo : lo ≤ w.heap.size) : BN (w.alloc (.cells #[.int .u8 (b.toNat : Int)] t)) lo (.slice (some ⟨g, 0, none⟩) 1 1) [b] := by
  refine ⟨BS.leadAt w b t g hg, fun ad n c h _ => ?_⟩
  simp only [Value.slice.injEq, Option.some.injEq] at h
  rw [← h.1]
  show lo ≤ g
  omega
theorem RS.oneAt (w : World) (b : Int) (t : TypeId) (g : Nat) (hg : g = w.heap.size) : RS (w.alloc (.cells #[.int .i32 b] t)) (w.heap.size + 1) (.slice (some ⟨g, 0, none⟩) 1 1) [b] := by
  subst hg
  exact RS.one w b t

set_option maxHeartbeats 1000000 in
set_option maxRecDepth 100000 in
/-- Nothing that counts is pending: a byte below 0x80. -/
theorem stepr_no1 (v : Value) (p : List UInt8) (b : UInt8) (w : World) (hv : BS w w.heap.size v p) (hp : beginsL p = false) (h0 : b.toNat < 128) :
    Calls Try.prog 26 #[v, .int .u8 (b.toNat : Int)] w (StepPost p b w) := by
  have hs := stepL_no p b hp
  rw [firstL_ascii b _ h0] at hs
  obtain ⟨A, c, rfl, g1, g2, _⟩ := hv.at_
  unfold maxLen at g2
  have HV := Lib.hid hv
  have HP := Lib.hid hp
  have HS := Lib.hid hs
  clear hv hp hs
  have h0' : (b.toNat : Int) < 128 := by omega
  by_cases hl : 0 < p.length
  · go_enter Try.func26, Try.ntmps26
    go_wp2_with (first
      | (go_at_call 21; (with_reducible refine (beginsr_any _ p _ _ HV.out).mono ?_); rintro e w' ⟨rfl, rfl⟩; rw [HP.out])
      | (at_builtin; refine wpl_appR _ rfl (.tmp 39) (.tmp 42) rfl w.heap.size _ _ _ [] [(b.toNat : Int)] rfl rfl (OR.nil _ _) (RS.one w _ _) (by simp) (by simp) ?_; intro v1 w1 hown1 hg1 hbel1 _))
    go_ret2
    exact stepPost_of HS.out (BN.nil _ _) hown1.bs (((Below.refl _ _).alloc (Nat.le_refl _) _).trans hbel1)
  · have hl' : decide (0 < p.length) = false := decide_eq_false (by omega)
    go_enter Try.func26, Try.ntmps26
    go_wp2_with (first
      | (at_builtin; refine wpl_appR _ rfl (.tmp 39) (.tmp 42) rfl w.heap.size _ _ _ [] [(b.toNat : Int)] rfl rfl (OR.nil _ _) (RS.one w _ _) (by simp) (by simp) ?_; intro v1 w1 hown1 hg1 hbel1 _))
    go_ret2
    exact stepPost_of HS.out (BN.nil _ _) hown1.bs (((Below.refl _ _).alloc (Nat.le_refl _) _).trans hbel1)
set_option maxHeartbeats 1000000 in
set_option maxRecDepth 100000 in
/-- .. a byte that begins a rune. -/
theorem stepr_no2 (v : Value) (p : List UInt8) (b : UInt8) (w : World) (hv : BS w w.heap.size v p) (hp : beginsL p = false) (h0 : ¬ b.toNat < 128) (hb : beginsL [b] = true) :
    Calls Try.prog 26 #[v, .int .u8 (b.toNat : Int)] w (StepPost p b w) := by
  have hs := stepL_no p b hp
  rw [firstL_lead b _ h0 hb] at hs
  obtain ⟨A, c, rfl, g1, g2, _⟩ := hv.at_
  unfold maxLen at g2
  have HV := Lib.hid hv
  have HP := Lib.hid hp
  have HS := Lib.hid hs
  have HB := Lib.hid hb
  clear hv hp hs hb
  have h0' : decide ((b.toNat : Int) < 128) = false := by simp; omega
  by_cases hl : 0 < p.length
  · go_enter Try.func26, Try.ntmps26
    go_wp2_with (first
      | (go_at_call 21; (with_reducible refine (beginsr_any _ p _ _ HV.out).mono ?_); rintro e w' ⟨rfl, rfl⟩; rw [HP.out])
      | (go_at_call 21; (with_reducible refine (beginsr_any _ [b] _ _ (BS.lead w b _)).mono ?_); rintro e w' ⟨rfl, rfl⟩; rw [HB.out]))
    go_ret2
    exact stepPost_of HS.out (BN.leadAt _ _ b _ _ (by simp) (by simp; try omega)) (RS.nil _ _) (((Below.refl _ _).alloc (Nat.le_refl _) _).alloc (by simp) _)
  · have hl' : decide (0 < p.length) = false := decide_eq_false (by omega)
    go_enter Try.func26, Try.ntmps26
    go_wp2_with (first
      | (go_at_call 21; (with_reducible refine (beginsr_any _ [b] _ _ (BS.lead w b _)).mono ?_); rintro e w' ⟨rfl, rfl⟩; rw [HB.out]))
    go_ret2
    exact stepPost_of HS.out (BN.leadAt _ _ b _ _ (by simp) (by simp; try omega)) (RS.nil _ _) (((Below.refl _ _).alloc (Nat.le_refl _) _).alloc (by simp) _)
set_option maxHeartbeats 1000000 in
set_option maxRecDepth 100000 in
/-- .. a byte that can do neither. -/
theorem stepr_no3 (v : Value) (p : List UInt8) (b : UInt8) (w : World) (hv : BS w w.heap.size v p) (hp : beginsL p = false) (h0 : ¬ b.toNat < 128) (hb : beginsL [b] = false) :
    Calls Try.prog 26 #[v, .int .u8 (b.toNat : Int)] w (StepPost p b w) := by
  have hs := stepL_no p b hp
  rw [firstL_bad b _ h0 hb] at hs
  obtain ⟨A, c, rfl, g1, g2, _⟩ := hv.at_
  unfold maxLen at g2
  have HV := Lib.hid hv
  have HP := Lib.hid hp
  have HS := Lib.hid hs
  have HB := Lib.hid hb
  clear hv hp hs hb
  have h0' : decide ((b.toNat : Int) < 128) = false := by simp; omega
  by_cases hl : 0 < p.length
  · go_enter Try.func26, Try.ntmps26
    go_wp2_with (first
      | (go_at_call 21; (with_reducible refine (beginsr_any _ p _ _ HV.out).mono ?_); rintro e w' ⟨rfl, rfl⟩; rw [HP.out])
      | (go_at_call 21; (with_reducible refine (beginsr_any _ [b] _ _ (BS.lead w b _)).mono ?_); rintro e w' ⟨rfl, rfl⟩; rw [HB.out])
      | (at_builtin; refine wpl_appR _ rfl (.tmp 51) (.tmp 52) rfl w.heap.size _ _ _ [] [(65533 : Int)] rfl rfl (OR.nil _ _) (RS.oneAt _ _ _ _ (by simp)) (by simp) (by simp; omega) ?_; intro v1 w1 hown1 hg1 hbel1 _))
    go_ret2
    exact stepPost_of HS.out (BN.nil _ _) hown1.bs ((((Below.refl _ _).alloc (Nat.le_refl _) _).alloc (by simp) _).trans hbel1)
  · have hl' : decide (0 < p.length) = false := decide_eq_false (by omega)
    go_enter Try.func26, Try.ntmps26
    go_wp2_with (first
      | (go_at_call 21; (with_reducible refine (beginsr_any _ [b] _ _ (BS.lead w b _)).mono ?_); rintro e w' ⟨rfl, rfl⟩; rw [HB.out])
      | (at_builtin; refine wpl_appR _ rfl (.tmp 51) (.tmp 52) rfl w.heap.size _ _ _ [] [(65533 : Int)] rfl rfl (OR.nil _ _) (RS.oneAt _ _ _ _ (by simp)) (by simp) (by simp; omega) ?_; intro v1 w1 hown1 hg1 hbel1 _))
    go_ret2
    exact stepPost_of HS.out (BN.nil _ _) hown1.bs ((((Below.refl _ _).alloc (Nat.le_refl _) _).alloc (by simp) _).trans hbel1)
set_option maxHeartbeats 1000000 in
set_option maxRecDepth 100000 in
/-- What was pending and the byte are a rune. -/
theorem stepr_some (v : Value) (p : List UInt8) (b : UInt8) (w : World) (hv : BS w w.heap.size v p) (hp : beginsL p = true) (r : Nat) (hw : wholeL (p ++ [b]) = some r) :
    Calls Try.prog 26 #[v, .int .u8 (b.toNat : Int)] w (StepPost p b w) := by
  have hs := stepL_some p b r hp hw
  obtain ⟨A, c, rfl, g1, g2, _⟩ := hv.at_
  unfold maxLen at g2
  have hpl := beginsL_len p hp
  have hl : 0 < p.length := by omega
  have hl3 : p.length ≤ 3 := by omega
  have HV := Lib.hid hv
  have HP := Lib.hid hp
  have HS := Lib.hid hs
  clear hv hs hpl
  have HW := Lib.hid hw
  clear hw hp
  go_enter Try.func26, Try.ntmps26
  go_wp2_with (first
      | (go_at_call 21; (with_reducible refine (beginsr_any _ p _ _ HV.out).mono ?_); rintro e w' ⟨rfl, rfl⟩; rw [HP.out])
      | (at_builtin; refine wpl_app _ rfl (.const (.slice none 0 0)) (.tmp 17) rfl w.heap.size _ (.slice none 0 0) _ [] p rfl rfl (OB.nil _ _) HV.out (by simp; omega) (Nat.le_refl _) ?_; intro v1 w1 hown0 hg1 hbel1 _; have hown1 : OB w1 w.heap.size v1 p := hown0; clear hown0 hg1; have hz1 := hbel1.size)
      | (at_builtin; refine wpl_app _ rfl (.tmp 18) (.tmp 20) rfl w.heap.size _ _ _ p [b] rfl rfl (hown1.alloc _) (BS.one w1 b _) (by simp; omega) (by simp; omega) ?_; intro v2 w2 hown2 hg2 hbel2 _; have hbq := (hbel1.alloc hz1 _).trans hbel2; have hz2 := hbq.size)
      | (go_at_call 41; (with_reducible refine (wholer_any _ p b _ _ hown2.bs HP.out).mono ?_); rintro e w' ⟨rfl, he⟩; rw [HW.out] at he; obtain ⟨r', hr', rfl⟩ : ∃ r', some r = some r' ∧ e = .returned (.tuple #[.int .i32 (r' : Int), .bool true]) := (by rcases he with he | ⟨he, _⟩; exact he; cases he); injection hr' with hr'; subst hr'))
  go_ret2
  exact stepPost_of HS.out (BN.nil _ _) ((RS.one w2 _ _).more (by simp)) (hbq.alloc hz2 _)
set_option maxHeartbeats 1000000 in
set_option maxRecDepth 100000 in
/-- They are a beginning. -/
theorem stepr_pends (v : Value) (p : List UInt8) (b : UInt8) (w : World) (hv : BS w w.heap.size v p) (hp : beginsL p = true) (hw : wholeL (p ++ [b]) = none) (hq : beginsL (p ++ [b]) = true) :
    Calls Try.prog 26 #[v, .int .u8 (b.toNat : Int)] w (StepPost p b w) := by
  have hs := stepL_pends p b hp hw hq
  obtain ⟨A, c, rfl, g1, g2, _⟩ := hv.at_
  unfold maxLen at g2
  have hpl := beginsL_len p hp
  have hl : 0 < p.length := by omega
  have hl3 : p.length ≤ 3 := by omega
  have HV := Lib.hid hv
  have HP := Lib.hid hp
  have HS := Lib.hid hs
  clear hv hs hpl
  have HW := Lib.hid hw
  have HQ := Lib.hid hq
  clear hw hp hq
  go_enter Try.func26, Try.ntmps26
  go_wp2_with (first
      | (go_at_call 21; (with_reducible refine (beginsr_any _ p _ _ HV.out).mono ?_); rintro e w' ⟨rfl, rfl⟩; rw [HP.out])
      | (at_builtin; refine wpl_app _ rfl (.const (.slice none 0 0)) (.tmp 17) rfl w.heap.size _ (.slice none 0 0) _ [] p rfl rfl (OB.nil _ _) HV.out (by simp; omega) (Nat.le_refl _) ?_; intro v1 w1 hown0 hg1 hbel1 _; have hown1 : OB w1 w.heap.size v1 p := hown0; clear hown0 hg1; have hz1 := hbel1.size)
      | (at_builtin; refine wpl_app _ rfl (.tmp 18) (.tmp 20) rfl w.heap.size _ _ _ p [b] rfl rfl (hown1.alloc _) (BS.one w1 b _) (by simp; omega) (by simp; omega) ?_; intro v2 w2 hown2 hg2 hbel2 _; have hbq := (hbel1.alloc hz1 _).trans hbel2; have hz2 := hbq.size)
      | (go_at_call 41; (with_reducible refine (wholer_any _ p b _ _ hown2.bs HP.out).mono ?_); rintro e w' ⟨rfl, he⟩; rw [HW.out] at he; obtain ⟨r', rfl⟩ : ∃ r' : Int, e = .returned (.tuple #[.int .i32 r', .bool false]) := (by rcases he with ⟨_, he, _⟩ | ⟨_, he⟩; cases he; exact he))
      | (go_at_call 21; (with_reducible refine (beginsr_any _ (p ++ [b]) _ _ hown2.bs).mono ?_); rintro e w' ⟨rfl, rfl⟩; rw [HQ.out]))
  go_ret2
  exact stepPost_of HS.out hown2.bn (RS.nil _ _) hbq
set_option maxHeartbeats 1000000 in
set_option maxRecDepth 100000 in
/-- They are neither; a byte below 0x80. -/
theorem stepr_b1 (v : Value) (p : List UInt8) (b : UInt8) (w : World) (hv : BS w w.heap.size v p) (hp : beginsL p = true) (hw : wholeL (p ++ [b]) = none) (hq : beginsL (p ++ [b]) = false) (h0 : b.toNat < 128) :
    Calls Try.prog 26 #[v, .int .u8 (b.toNat : Int)] w (StepPost p b w) := by
  have hs := stepL_breaks p b hp hw hq
  rw [firstL_ascii b _ h0] at hs
  obtain ⟨A, c, rfl, g1, g2, _⟩ := hv.at_
  unfold maxLen at g2
  have hpl := beginsL_len p hp
  have hl : 0 < p.length := by omega
  have hl3 : p.length ≤ 3 := by omega
  have HV := Lib.hid hv
  have HP := Lib.hid hp
  have HS := Lib.hid hs
  clear hv hs hpl
  have HW := Lib.hid hw
  have HQ := Lib.hid hq
  clear hw hp hq
  have h0' : (b.toNat : Int) < 128 := by omega
  go_enter Try.func26, Try.ntmps26
  go_wp2_with (first
      | (go_at_call 21; (with_reducible refine (beginsr_any _ p _ _ HV.out).mono ?_); rintro e w' ⟨rfl, rfl⟩; rw [HP.out])
      | (at_builtin; refine wpl_app _ rfl (.const (.slice none 0 0)) (.tmp 17) rfl w.heap.size _ (.slice none 0 0) _ [] p rfl rfl (OB.nil _ _) HV.out (by simp; omega) (Nat.le_refl _) ?_; intro v1 w1 hown0 hg1 hbel1 _; have hown1 : OB w1 w.heap.size v1 p := hown0; clear hown0 hg1; have hz1 := hbel1.size)
      | (at_builtin; refine wpl_app _ rfl (.tmp 18) (.tmp 20) rfl w.heap.size _ _ _ p [b] rfl rfl (hown1.alloc _) (BS.one w1 b _) (by simp; omega) (by simp; omega) ?_; intro v2 w2 hown2 hg2 hbel2 _; have hbq := (hbel1.alloc hz1 _).trans hbel2; have hz2 := hbq.size)
      | (go_at_call 41; (with_reducible refine (wholer_any _ p b _ _ hown2.bs HP.out).mono ?_); rintro e w' ⟨rfl, he⟩; rw [HW.out] at he; obtain ⟨r', rfl⟩ : ∃ r' : Int, e = .returned (.tuple #[.int .i32 r', .bool false]) := (by rcases he with ⟨_, he, _⟩ | ⟨_, he⟩; cases he; exact he))
      | (go_at_call 21; (with_reducible refine (beginsr_any _ (p ++ [b]) _ _ hown2.bs).mono ?_); rintro e w' ⟨rfl, rfl⟩; rw [HQ.out])
      | (at_builtin; refine wpl_appR _ rfl (.tmp 33) (.tmp 34) rfl w.heap.size _ _ _ [] [(65533 : Int)] rfl rfl (OR.nil _ _) (RS.oneAt _ _ _ _ (by simp)) (by simp) (by simp; omega) ?_; intro v3 w3 hown3 hg3 hbel3 _; have hb3 := (hbq.alloc hz2 _).trans hbel3; have hz3 := hb3.size)
      | (at_builtin; refine wpl_appR _ rfl (.tmp 39) (.tmp 42) rfl w.heap.size _ _ _ [65533] [(b.toNat : Int)] rfl rfl (hown3.alloc _) (RS.oneAt _ _ _ _ (by simp)) (by simp) (by simp; omega) ?_; intro v4 w4 hown4 hg4 hbel4 _; have hb4 := (hb3.alloc hz3 _).trans hbel4))
  go_ret2
  exact stepPost_of HS.out (BN.nil _ _) hown4.bs hb4
set_option maxHeartbeats 1000000 in
set_option maxRecDepth 100000 in
/-- .. a byte that begins another one. -/
theorem stepr_b2 (v : Value) (p : List UInt8) (b : UInt8) (w : World) (hv : BS w w.heap.size v p) (hp : beginsL p = true) (hw : wholeL (p ++ [b]) = none) (hq : beginsL (p ++ [b]) = false) (h0 : ¬ b.toNat < 128) (hb : beginsL [b] = true) :
    Calls Try.prog 26 #[v, .int .u8 (b.toNat : Int)] w (StepPost p b w) := by
  have hs := stepL_breaks p b hp hw hq
  rw [firstL_lead b _ h0 hb] at hs
  obtain ⟨A, c, rfl, g1, g2, _⟩ := hv.at_
  unfold maxLen at g2
  have hpl := beginsL_len p hp
  have hl : 0 < p.length := by omega
  have hl3 : p.length ≤ 3 := by omega
  have HV := Lib.hid hv
  have HP := Lib.hid hp
  have HS := Lib.hid hs
  clear hv hs hpl
  have HW := Lib.hid hw
  have HQ := Lib.hid hq
  have HB := Lib.hid hb
  clear hw hp hq hb
  have h0' : decide ((b.toNat : Int) < 128) = false := by simp; omega
  go_enter Try.func26, Try.ntmps26
  go_wp2_with (first
      | (go_at_call 21; (with_reducible refine (beginsr_any _ p _ _ HV.out).mono ?_); rintro e w' ⟨rfl, rfl⟩; rw [HP.out])
      | (at_builtin; refine wpl_app _ rfl (.const (.slice none 0 0)) (.tmp 17) rfl w.heap.size _ (.slice none 0 0) _ [] p rfl rfl (OB.nil _ _) HV.out (by simp; omega) (Nat.le_refl _) ?_; intro v1 w1 hown0 hg1 hbel1 _; have hown1 : OB w1 w.heap.size v1 p := hown0; clear hown0 hg1; have hz1 := hbel1.size)
      | (at_builtin; refine wpl_app _ rfl (.tmp 18) (.tmp 20) rfl w.heap.size _ _ _ p [b] rfl rfl (hown1.alloc _) (BS.one w1 b _) (by simp; omega) (by simp; omega) ?_; intro v2 w2 hown2 hg2 hbel2 _; have hbq := (hbel1.alloc hz1 _).trans hbel2; have hz2 := hbq.size)
      | (go_at_call 41; (with_reducible refine (wholer_any _ p b _ _ hown2.bs HP.out).mono ?_); rintro e w' ⟨rfl, he⟩; rw [HW.out] at he; obtain ⟨r', rfl⟩ : ∃ r' : Int, e = .returned (.tuple #[.int .i32 r', .bool false]) := (by rcases he with ⟨_, he, _⟩ | ⟨_, he⟩; cases he; exact he))
      | (go_at_call 21; (with_reducible refine (beginsr_any _ (p ++ [b]) _ _ hown2.bs).mono ?_); rintro e w' ⟨rfl, rfl⟩; rw [HQ.out])
      | (at_builtin; refine wpl_appR _ rfl (.tmp 33) (.tmp 34) rfl w.heap.size _ _ _ [] [(65533 : Int)] rfl rfl (OR.nil _ _) (RS.oneAt _ _ _ _ (by simp)) (by simp) (by simp; omega) ?_; intro v3 w3 hown3 hg3 hbel3 _; have hb3 := (hbq.alloc hz2 _).trans hbel3; have hz3 := hb3.size)
      | (go_at_call 21; (with_reducible refine (beginsr_any _ [b] _ _ (BS.lead w3 b _)).mono ?_); rintro e w' ⟨rfl, rfl⟩; rw [HB.out]))
  go_ret2
  exact stepPost_of HS.out (BN.leadAt _ _ b _ _ (by simp) (by simp; try omega)) (((hown3.alloc _).alloc _).bs) ((hb3.alloc hz3 _).alloc (by simp; omega) _)
set_option maxHeartbeats 1000000 in
set_option maxRecDepth 100000 in
/-- .. a byte that can do neither. -/
theorem stepr_b3 (v : Value) (p : List UInt8) (b : UInt8) (w : World) (hv : BS w w.heap.size v p) (hp : beginsL p = true) (hw : wholeL (p ++ [b]) = none) (hq : beginsL (p ++ [b]) = false) (h0 : ¬ b.toNat < 128) (hb : beginsL [b] = false) :
    Calls Try.prog 26 #[v, .int .u8 (b.toNat : Int)] w (StepPost p b w) := by
  have hs := stepL_breaks p b hp hw hq
  rw [firstL_bad b _ h0 hb] at hs
  obtain ⟨A, c, rfl, g1, g2, _⟩ := hv.at_
  unfold maxLen at g2
  have hpl := beginsL_len p hp
  have hl : 0 < p.length := by omega
  have hl3 : p.length ≤ 3 := by omega
  have HV := Lib.hid hv
  have HP := Lib.hid hp
  have HS := Lib.hid hs
  clear hv hs hpl
  have HW := Lib.hid hw
  have HQ := Lib.hid hq
  have HB := Lib.hid hb
  clear hw hp hq hb
  have h0' : decide ((b.toNat : Int) < 128) = false := by simp; omega
  go_enter Try.func26, Try.ntmps26
  go_wp2_with (first
      | (go_at_call 21; (with_reducible refine (beginsr_any _ p _ _ HV.out).mono ?_); rintro e w' ⟨rfl, rfl⟩; rw [HP.out])
      | (at_builtin; refine wpl_app _ rfl (.const (.slice none 0 0)) (.tmp 17) rfl w.heap.size _ (.slice none 0 0) _ [] p rfl rfl (OB.nil _ _) HV.out (by simp; omega) (Nat.le_refl _) ?_; intro v1 w1 hown0 hg1 hbel1 _; have hown1 : OB w1 w.heap.size v1 p := hown0; clear hown0 hg1; have hz1 := hbel1.size)
      | (at_builtin; refine wpl_app _ rfl (.tmp 18) (.tmp 20) rfl w.heap.size _ _ _ p [b] rfl rfl (hown1.alloc _) (BS.one w1 b _) (by simp; omega) (by simp; omega) ?_; intro v2 w2 hown2 hg2 hbel2 _; have hbq := (hbel1.alloc hz1 _).trans hbel2; have hz2 := hbq.size)
      | (go_at_call 41; (with_reducible refine (wholer_any _ p b _ _ hown2.bs HP.out).mono ?_); rintro e w' ⟨rfl, he⟩; rw [HW.out] at he; obtain ⟨r', rfl⟩ : ∃ r' : Int, e = .returned (.tuple #[.int .i32 r', .bool false]) := (by rcases he with ⟨_, he, _⟩ | ⟨_, he⟩; cases he; exact he))
      | (go_at_call 21; (with_reducible refine (beginsr_any _ (p ++ [b]) _ _ hown2.bs).mono ?_); rintro e w' ⟨rfl, rfl⟩; rw [HQ.out])
      | (at_builtin; refine wpl_appR _ rfl (.tmp 33) (.tmp 34) rfl w.heap.size _ _ _ [] [(65533 : Int)] rfl rfl (OR.nil _ _) (RS.oneAt _ _ _ _ (by simp)) (by simp) (by simp; omega) ?_; intro v3 w3 hown3 hg3 hbel3 _; have hb3 := (hbq.alloc hz2 _).trans hbel3; have hz3 := hb3.size)
      | (go_at_call 21; (with_reducible refine (beginsr_any _ [b] _ _ (BS.lead w3 b _)).mono ?_); rintro e w' ⟨rfl, rfl⟩; rw [HB.out])
      | (at_builtin; refine wpl_appR _ rfl (.tmp 51) (.tmp 52) rfl w.heap.size _ _ _ [65533] [(65533 : Int)] rfl rfl ((hown3.alloc _).alloc _) (RS.oneAt _ _ _ _ (by simp)) (by simp) (by simp; omega) ?_; intro v4 w4 hown4 hg4 hbel4 _; have hb4 := ((hb3.alloc hz3 _).alloc (by simp; omega) _).trans hbel4))
  go_ret2
  exact stepPost_of HS.out (BN.nil _ _) hown4.bs hb4

/-- The document's Step. -/
theorem stepr_any (v : Value) (p : List UInt8) (b : UInt8) (w : World) (hv : BS w w.heap.size v p) : Calls Try.prog 26 #[v, .int .u8 (b.toNat : Int)] w (StepPost p b w) := by
  cases hp : beginsL p
  · by_cases h0 : b.toNat < 128
    · exact stepr_no1 v p b w hv hp h0
    cases hb : beginsL [b]
    · exact stepr_no3 v p b w hv hp h0 hb
    · exact stepr_no2 v p b w hv hp h0 hb
  · cases hw : wholeL (p ++ [b]) with
    | some r => exact stepr_some v p b w hv hp r hw
    | none =>
      cases hq : beginsL (p ++ [b])
      · by_cases h0 : b.toNat < 128
        · exact stepr_b1 v p b w hv hp hw hq h0
        cases hb : beginsL [b]
        · exact stepr_b3 v p b w hv hp hw hq h0 hb
        · exact stepr_b2 v p b w hv hp hw hq h0 hb
      · exact stepr_pends v p b w hv hp hw hq
end Go.Proofs.Ytbimhhcmfhooaaa

namespace Go.Proofs.Ytbimhhcmfhooaaa

/-- A parser's state. -/
structure Pr where
  mode : Nat
  priv : Nat
  params : List Int
  inter : List UInt8
  utf : List UInt8
/-- What a byte comes to. -/
structure Ac where
  kind : Nat
  r : Int
  b : Nat
  priv : Nat
  params : List Int
  inter : List UInt8
def prM (m : Nat) : Pr := ⟨m, 0, [], [], []⟩
def acP (r : Int) : Ac := ⟨0, r, 0, 0, [], []⟩
def acC (b : Nat) : Ac := ⟨1, 0, b, 0, [], []⟩
def acE (b : Nat) (i : List UInt8) : Ac := ⟨2, 0, b, 0, [], i⟩
def acS (p : Pr) (b : Nat) : Ac := ⟨3, 0, b, p.priv, p.params, p.inter⟩
def interB (b : UInt8) : Bool := decide (32 ≤ b.toNat) && decide (b.toNat ≤ 47)
def printsL (l : List Nat) : List Ac := l.map fun (r : Nat) => acP (Int.ofNat r)
/-- The numbers, one of 0 at least. -/
def oneP (l : List Int) : List Int := if l.length = 0 then [0] else l
/-- The last number, and a digit more. -/
def digP (l : List Int) (b : Nat) : List Int := l.set (l.length - 1) (min (10 * l.getD (l.length - 1) 0 + ((b : Int) - 48)) 65535)
def csiL (p : Pr) (b : UInt8) : Pr × List Ac :=
  if 64 ≤ b.toNat then (prM 0, [acS p b.toNat])
  else if interB b = true then (if 2 ≤ p.inter.length then (prM 6, []) else ({ p with mode := 5, inter := p.inter ++ [b] }, []))
  else if p.mode = 5 ∨ b.toNat = 58 then (prM 6, [])
  else if 60 ≤ b.toNat then (if 0 < p.params.length ∨ p.priv ≠ 0 then (prM 6, []) else ({ p with priv := b.toNat }, []))
  else if b.toNat = 59 then (if 16 ≤ (oneP p.params).length then (prM 6, []) else ({ p with params := oneP p.params ++ [0] }, []))
  else ({ p with params := digP (oneP p.params) b.toNat }, [])
/-- Within a sequence, from 0x20 to 0x7e. -/
def vtM (p : Pr) (b : UInt8) : Pr × List Ac :=
  if p.mode = 1 then
    (if interB b = true then ({ prM 2 with inter := [b] }, [])
     else if b.toNat = 91 then (prM 4, [])
     else if b.toNat = 93 ∨ b.toNat = 80 ∨ b.toNat = 88 ∨ b.toNat = 94 ∨ b.toNat = 95 then (prM 7, [])
     else (prM 0, [acE b.toNat []]))
  else if p.mode = 2 then
    (if interB b = false then (prM 0, [acE b.toNat p.inter])
     else if 2 ≤ p.inter.length then (prM 3, [])
     else ({ prM 2 with inter := p.inter ++ [b] }, []))
  else if p.mode = 3 then (if 48 ≤ b.toNat then (prM 0, []) else (p, []))
  else if p.mode = 6 then (if 64 ≤ b.toNat then (prM 0, []) else (p, []))
  else csiL p b
/-- With nothing pending. -/
def vtN (p : Pr) (b : UInt8) : Pr × List Ac :=
  if b.toNat = 24 ∨ b.toNat = 26 then (prM 0, [])
  else if b.toNat = 27 then (prM 1, [])
  else if p.mode = 0 then
    (if b.toNat < 32 then (prM 0, [acC b.toNat])
     else if b.toNat = 127 then (prM 0, [])
     else ({ prM 0 with utf := (stepL [] b).1 }, printsL (stepL [] b).2))
  else if p.mode = 7 then (if b.toNat = 7 then (prM 0, []) else (p, []))
  else if b.toNat < 32 then (p, [acC b.toNat])
  else if b.toNat = 127 then (p, [])
  else if 128 ≤ b.toNat then (prM 0, [])
  else vtM p b
/-- Are the bytes U+FFFD's own? -/
def formedB (p : List UInt8) (b : UInt8) : Bool := p == [239, 191] && b == 189
/-- Does b go on with what is pending? -/
def goesB (u : List UInt8) (b : UInt8) : Bool :=
  decide (128 ≤ b.toNat) && (decide ((stepL u b).2.length = 0) || decide ((stepL u b).2.getD 0 0 ≠ 65533) || (decide ((stepL u b).2.length = 1) && decide ((stepL u b).1.length = 0) && formedB u b))
def vtL (p : Pr) (b : UInt8) : Pr × List Ac :=
  if p.mode = 0 ∧ 0 < p.utf.length then
    (if goesB p.utf b = true then ({ prM 0 with utf := (stepL p.utf b).1 }, printsL (stepL p.utf b).2)
     else ((vtN { p with utf := [] } b).1, acP 65533 :: (vtN { p with utf := [] } b).2))
  else vtN p b
def vtAll (p : Pr) (l : List UInt8) : Pr × List Ac := l.foldl (fun s b => ((vtL s.1 b).1, s.2 ++ (vtL s.1 b).2)) (p, [])

/-- Which states may be. -/
structure PrOk (p : Pr) : Prop where
  mode : p.mode ≤ 7
  priv : p.priv = 0 ∨ (60 ≤ p.priv ∧ p.priv ≤ 63)
  params : p.params.length ≤ 16
  each : ∀ x ∈ p.params, 0 ≤ x ∧ x ≤ 65535
  inter : p.inter.length ≤ 2
  eachI : ∀ b ∈ p.inter, interB b = true
  utf : p.utf = [] ∨ (p.mode = 0 ∧ beginsL p.utf = true)
  csi : p.mode = 4 ∨ p.mode = 5 ∨ (p.priv = 0 ∧ p.params = [])
  with_ : (p.mode = 2 ∨ p.mode = 5) ↔ 0 < p.inter.length
theorem prM_ok (m : Nat) (h : m ≤ 7) (h2 : m ≠ 2) (h5 : m ≠ 5) : PrOk (prM m) := ⟨h, .inl rfl, by simp [prM], by simp [prM], by simp [prM], by simp [prM], .inl rfl, .inr (.inr ⟨rfl, rfl⟩), by simp [prM]; omega⟩
theorem oneP_len (l : List Int) : 1 ≤ (oneP l).length ∧ ((oneP l).length = l.length ∨ (l.length = 0 ∧ (oneP l).length = 1)) := by
  unfold oneP
  split
  · rename_i h; simp [h]
  · rename_i h; exact ⟨by omega, .inl rfl⟩
theorem oneP_each (l : List Int) (h : ∀ x ∈ l, 0 ≤ x ∧ x ≤ 65535) : ∀ x ∈ oneP l, 0 ≤ x ∧ x ≤ 65535 := by
  unfold oneP
  split
  · simp
  · exact h
theorem digP_len (l : List Int) (b : Nat) : (digP l b).length = l.length := by simp [digP]
theorem digP_each (l : List Int) (b : Nat) (hb : 48 ≤ b) (hl : 1 ≤ l.length) (h : ∀ x ∈ l, 0 ≤ x ∧ x ≤ 65535) : ∀ x ∈ digP l b, 0 ≤ x ∧ x ≤ 65535 := by
  intro x hx
  unfold digP at hx
  rcases List.mem_or_eq_of_mem_set hx with h1 | h1
  · exact h x h1
  · have hlt : l.length - 1 < l.length := by omega
    have hm : 0 ≤ l.getD (l.length - 1) 0 ∧ l.getD (l.length - 1) 0 ≤ 65535 := by
      have := h (l[l.length - 1]) (List.getElem_mem hlt)
      simpa [List.getD, List.getElem?_eq_getElem hlt] using this
    rw [h1]
    omega
theorem csiL_ok (p : Pr) (b : UInt8) (h : PrOk p) (hm : p.mode = 4 ∨ p.mode = 5) (hb : 32 ≤ b.toNat) : PrOk (csiL p b).1 := by
  have hi := h.with_
  unfold csiL
  split
  · exact prM_ok 0 (by omega) (by omega) (by omega)
  split
  · rename_i hB
    split
    · exact prM_ok 6 (by omega) (by omega) (by omega)
    · rename_i hl
      refine ⟨by show 5 ≤ 7; omega, h.priv, h.params, h.each, by show (p.inter ++ [b]).length ≤ 2; simp; omega, ?_, ?_, .inr (.inl rfl), ?_⟩
      · intro c hc
        rcases List.mem_append.1 hc with h1 | h1
        · exact h.eachI c h1
        · rw [List.mem_singleton.1 h1]; exact hB
      · rcases h.utf with hu | ⟨hu, _⟩
        · exact .inl hu
        · omega
      · show ((5 : Nat) = 2 ∨ (5 : Nat) = 5) ↔ 0 < (p.inter ++ [b]).length
        simp
  rename_i hnb hB
  split
  · exact prM_ok 6 (by omega) (by omega) (by omega)
  rename_i hm5
  have hm4 : p.mode = 4 := by omega
  have hu : p.utf = [] := by
    rcases h.utf with hu | ⟨hu, _⟩
    · exact hu
    · omega
  split
  · split
    · exact prM_ok 6 (by omega) (by omega) (by omega)
    · rename_i h60 hp
      exact ⟨h.mode, .inr ⟨h60, by show b.toNat ≤ 63; omega⟩, h.params, h.each, h.inter, h.eachI, .inl hu, .inl hm4, h.with_⟩
  rename_i h60
  have hlen := oneP_len p.params
  have hpl := h.params
  split
  · split
    · exact prM_ok 6 (by omega) (by omega) (by omega)
    · rename_i h59 h16
      refine ⟨h.mode, h.priv, by show (oneP p.params ++ [0]).length ≤ 16; simp; omega, ?_, h.inter, h.eachI, .inl hu, .inl hm4, h.with_⟩
      intro x hx
      rcases List.mem_append.1 hx with h1 | h1
      · exact oneP_each _ h.each x h1
      · rw [List.mem_singleton.1 h1]; omega
  · rename_i h59
    have hn : 48 ≤ b.toNat := by
      rcases Nat.lt_or_ge b.toNat 48 with h1 | h1
      · exact absurd (show interB b = true by simp [interB]; omega) hB
      · exact h1
    exact ⟨h.mode, h.priv, by show (digP (oneP p.params) b.toNat).length ≤ 16; rw [digP_len]; omega, digP_each _ _ hn hlen.1 (oneP_each _ h.each), h.inter, h.eachI, .inl hu, .inl hm4, h.with_⟩
theorem utf_ok (u : List UInt8) (h : u = [] ∨ beginsL u = true) : PrOk { prM 0 with utf := u } :=
  ⟨by show (0 : Nat) ≤ 7; omega, .inl rfl, by simp [prM], by simp [prM], by simp [prM], by simp [prM], h.elim .inl (fun h => .inr ⟨rfl, h⟩), .inr (.inr ⟨rfl, rfl⟩), by simp [prM]⟩
theorem vtM_ok (p : Pr) (b : UInt8) (h : PrOk p) (h0 : p.mode ≠ 0) (h7 : p.mode ≠ 7) (hb : 32 ≤ b.toNat) : PrOk (vtM p b).1 := by
  have hi := h.with_
  have hmode := h.mode
  unfold vtM
  split
  · split
    · rename_i hB
      exact ⟨by show (2 : Nat) ≤ 7; omega, .inl rfl, by simp [prM], by simp [prM], by show [b].length ≤ 2; simp, by intro c hc; rw [List.mem_singleton.1 hc]; exact hB, .inl rfl, .inr (.inr ⟨rfl, rfl⟩), by show ((2 : Nat) = 2 ∨ (2 : Nat) = 5) ↔ 0 < [b].length; simp⟩
    split
    · exact prM_ok 4 (by omega) (by omega) (by omega)
    split
    · exact prM_ok 7 (by omega) (by omega) (by omega)
    · exact prM_ok 0 (by omega) (by omega) (by omega)
  split
  · split
    · exact prM_ok 0 (by omega) (by omega) (by omega)
    split
    · exact prM_ok 3 (by omega) (by omega) (by omega)
    · rename_i hB hl
      have hB' : interB b = true := by cases hh : interB b <;> simp_all
      refine ⟨by show (2 : Nat) ≤ 7; omega, .inl rfl, by simp [prM], by simp [prM], by show (p.inter ++ [b]).length ≤ 2; simp; omega, ?_, .inl rfl, .inr (.inr ⟨rfl, rfl⟩), by show ((2 : Nat) = 2 ∨ (2 : Nat) = 5) ↔ 0 < (p.inter ++ [b]).length; simp⟩
      intro c hc
      rcases List.mem_append.1 hc with h1 | h1
      · exact h.eachI c h1
      · rw [List.mem_singleton.1 h1]; exact hB'
  split
  · split
    · exact prM_ok 0 (by omega) (by omega) (by omega)
    · exact h
  split
  · split
    · exact prM_ok 0 (by omega) (by omega) (by omega)
    · exact h
  · exact csiL_ok p b h (by omega) (by omega)
theorem vtN_ok (p : Pr) (b : UInt8) (h : PrOk p) : PrOk (vtN p b).1 := by
  have hi := h.with_
  have hmode := h.mode
  unfold vtN
  split
  · exact prM_ok 0 (by omega) (by omega) (by omega)
  split
  · exact prM_ok 1 (by omega) (by omega) (by omega)
  split
  · split
    · exact prM_ok 0 (by omega) (by omega) (by omega)
    split
    · exact prM_ok 0 (by omega) (by omega) (by omega)
    · exact utf_ok _ (stepL_pend [] b)
  split
  · split
    · exact prM_ok 0 (by omega) (by omega) (by omega)
    · exact h
  split
  · exact h
  split
  · exact h
  split
  · exact prM_ok 0 (by omega) (by omega) (by omega)
  · exact vtM_ok p b h (by omega) (by omega) (by omega)
theorem drop_ok (p : Pr) (h : PrOk p) : PrOk { p with utf := [] } := ⟨h.mode, h.priv, h.params, h.each, h.inter, h.eachI, .inl rfl, h.csi, h.with_⟩
theorem vtL_ok (p : Pr) (b : UInt8) (h : PrOk p) : PrOk (vtL p b).1 := by
  unfold vtL
  split
  · split
    · exact utf_ok _ (stepL_pend p.utf b)
    · exact vtN_ok _ b (drop_ok p h)
  · exact vtN_ok p b h
end Go.Proofs.Ytbimhhcmfhooaaa

namespace Go.Proofs.Ytbimhhcmfhooaaa
open Go.RowKit
set_option linter.unusedVariables false

/-- A slice that reads as the list l; if it has any element its block is one of S. -/
def SL {α : Type} (f : α → Value) (w : World) (S : Nat → Prop) (v : Value) (l : List α) : Prop :=
  ∃ A c, v = .slice A l.length c ∧ l.length ≤ c ∧ c ≤ maxLen ∧ (0 < l.length → ∃ ad, A = some ad ∧ S ad.block ∧ ∀ j b, l[j]? = some b → w.cell? (ad.add j) = some (f b))
section
variable {α : Type} {f : α → Value} {w w' : World} {S S' : Nat → Prop} {v : Value} {l : List α}
theorem SL.keep (h : SL f w S v l) (hk : ∀ p : Addr, S p.block → w'.cell? p = w.cell? p) : SL f w' S v l := by
  obtain ⟨A, c, hv, h1, h2, h3⟩ := h
  refine ⟨A, c, hv, h1, h2, fun hl => ?_⟩
  obtain ⟨ad, hA, hb, hc⟩ := h3 hl
  exact ⟨ad, hA, hb, fun j b hj => (hk _ (by rw [block_add]; exact hb)).trans (hc j b hj)⟩
theorem SL.mono (h : SL f w S v l) (hS : ∀ x, S x → S' x) : SL f w S' v l := by
  obtain ⟨A, c, hv, h1, h2, h3⟩ := h
  refine ⟨A, c, hv, h1, h2, fun hl => ?_⟩
  obtain ⟨ad, hA, hb, hc⟩ := h3 hl
  exact ⟨ad, hA, hS _ hb, hc⟩
theorem SL.nil (f : α → Value) (w : World) (S : Nat → Prop) : SL f w S (.slice none 0 0) [] := ⟨none, 0, rfl, by simp, by simp [maxLen], fun h => absurd h (by simp)⟩
theorem SL.form (h : SL f w S v l) : ∃ A c, v = .slice A l.length c ∧ l.length ≤ c ∧ c ≤ 9223372036854775807 := by
  obtain ⟨A, c, hv, h1, h2, _⟩ := h
  unfold maxLen at h2
  exact ⟨A, c, hv, h1, by omega⟩
end
theorem SL.bs {w : World} {S : Nat → Prop} {B : Nat} {v : Value} {l : List UInt8} (h : SL vB w S v l) (hS : ∀ x, S x → x < B) : BS w B v l := h.mono hS
theorem SL.is {w : World} {S : Nat → Prop} {B : Nat} {v : Value} {l : List Int} (h : SL vI w S v l) (hS : ∀ x, S x → x < B) : IS w B v l := h.mono hS
/-- New blocks, from lo on. -/
def NewB (w : World) (lo : Nat) (x : Nat) : Prop := lo ≤ x ∧ x < w.heap.size
theorem BN.sl {w : World} {lo : Nat} {v : Value} {l : List UInt8} (h : BN w lo v l) : SL vB w (NewB w lo) v l := by
  obtain ⟨⟨A, c, hv, h1, h2, h3⟩, h4⟩ := h
  refine ⟨A, c, hv, h1, h2, fun hl => ?_⟩
  obtain ⟨ad, hA, hb, hc⟩ := h3 hl
  exact ⟨ad, hA, ⟨h4 ad _ _ (by rw [hv, hA]) hl, hb⟩, hc⟩
theorem OB.sl {w : World} {base : Nat} {v : Value} {l : List UInt8} (h : OB w base v l) : SL vB w (NewB w base) v l := h.bn.sl
theorem OI.sl {w : World} {base : Nat} {v : Value} {l : List Int} (h : OI w base v l) : SL vI w (NewB w base) v l := by
  obtain ⟨A, c, hv, h1, h2, h3⟩ := h.bs
  refine ⟨A, c, hv, h1, h2, fun hl => ?_⟩
  obtain ⟨ad, hA, hb, hc⟩ := h3 hl
  subst hA
  exact ⟨ad, rfl, ⟨(World.ownsRow.lt h ad.block (by rw [hv]; rfl)).1, hb⟩, hc⟩

/-- A parser's value; its slices lie in blocks of S. -/
def PV (w : World) (S : Nat → Prop) (v : Value) (p : Pr) : Prop :=
  ∃ vp vi vu, v = .agg #[.int .i64 (p.mode : Int), .int .u8 (p.priv : Int), vp, vi, vu] ∧ SL vI w S vp p.params ∧ SL vB w S vi p.inter ∧ SL vB w S vu p.utf
theorem PV.keep {w w' : World} {S : Nat → Prop} {v : Value} {p : Pr} (h : PV w S v p) (hk : ∀ q : Addr, S q.block → w'.cell? q = w.cell? q) : PV w' S v p := by
  obtain ⟨vp, vi, vu, hv, h1, h2, h3⟩ := h
  exact ⟨vp, vi, vu, hv, h1.keep hk, h2.keep hk, h3.keep hk⟩
theorem PV.mono {w : World} {S S' : Nat → Prop} {v : Value} {p : Pr} (h : PV w S v p) (hS : ∀ x, S x → S' x) : PV w S' v p := by
  obtain ⟨vp, vi, vu, hv, h1, h2, h3⟩ := h
  exact ⟨vp, vi, vu, hv, h1.mono hS, h2.mono hS, h3.mono hS⟩

/-- Cells that read as acts; their slices lie in blocks of S. -/
def AcsV (w : World) (S : Nat → Prop) : List Value → List Ac → Prop
  | xs, [] => xs = []
  | xs, a :: l => ∃ vp vi ys, xs = [.int .i64 (a.kind : Int), .int .i32 a.r, .int .u8 (a.b : Int), .int .u8 (a.priv : Int), vp, vi] ++ ys ∧ SL vI w S vp a.params ∧ SL vB w S vi a.inter ∧ AcsV w S ys l
section
variable {w w' : World} {S S' : Nat → Prop}
theorem AcsV.keep {xs : List Value} {l : List Ac} (h : AcsV w S xs l) (hk : ∀ q : Addr, S q.block → w'.cell? q = w.cell? q) : AcsV w' S xs l := by
  induction l generalizing xs with
  | nil => exact h
  | cons a l ih =>
    obtain ⟨vp, vi, ys, hx, h1, h2, h3⟩ := h
    exact ⟨vp, vi, ys, hx, h1.keep hk, h2.keep hk, ih h3⟩
theorem AcsV.mono {xs : List Value} {l : List Ac} (h : AcsV w S xs l) (hS : ∀ x, S x → S' x) : AcsV w S' xs l := by
  induction l generalizing xs with
  | nil => exact h
  | cons a l ih =>
    obtain ⟨vp, vi, ys, hx, h1, h2, h3⟩ := h
    exact ⟨vp, vi, ys, hx, h1.mono hS, h2.mono hS, ih h3⟩
theorem AcsV.len {xs : List Value} {l : List Ac} (h : AcsV w S xs l) : xs.length = l.length * 6 := by
  induction l generalizing xs with
  | nil => rw [show xs = [] from h]; simp
  | cons a l ih =>
    obtain ⟨vp, vi, ys, hx, h1, h2, h3⟩ := h
    have := ih h3
    rw [hx]
    simp
    omega
theorem AcsV.append {xs ys : List Value} {l m : List Ac} (h : AcsV w S xs l) (h2 : AcsV w S ys m) : AcsV w S (xs ++ ys) (l ++ m) := by
  induction l generalizing xs with
  | nil => rw [show xs = [] from h]; exact h2
  | cons a l ih =>
    obtain ⟨vp, vi, zs, hx, g1, g2, g3⟩ := h
    exact ⟨vp, vi, zs ++ ys, by rw [hx, List.append_assoc], g1, g2, ih g3⟩
theorem SL.one {α : Type} {f : α → Value} {v : Value} {l : List α} (h : SL f w S v l) : v.oneCell' = true := by
  obtain ⟨A, c, rfl, _⟩ := h
  rfl
theorem AcsV.ones {xs : List Value} {l : List Ac} (h : AcsV w S xs l) : ∀ u ∈ xs, u.oneCell' = true := by
  induction l generalizing xs with
  | nil => rw [show xs = [] from h]; simp
  | cons a l ih =>
    obtain ⟨vp, vi, ys, hx, h1, h2, h3⟩ := h
    intro u hu
    rw [hx] at hu
    simp only [List.cons_append, List.nil_append, List.mem_cons] at hu
    rcases hu with rfl | rfl | rfl | rfl | rfl | rfl | hu
    · rfl
    · rfl
    · rfl
    · rfl
    · exact h1.one
    · exact h2.one
    · exact ih h3 u hu
end

/-- A slice of acts: it lies in a block of T, their slices in blocks of S. -/
def AS (w : World) (T S : Nat → Prop) (v : Value) (l : List Ac) : Prop :=
  ∃ A c xs, v = .slice A l.length c ∧ l.length ≤ c ∧ c ≤ maxLen ∧ AcsV w S xs l ∧ (0 < l.length → ∃ ad, A = some ad ∧ T ad.block ∧ ∀ j u, xs[j]? = some u → w.cell? (ad.add j) = some u)
/-- A row of acts of the call's own; their slices lie in blocks of S, and none in the row's own block. -/
def OA (w : World) (base : Nat) (S : Nat → Prop) (v : Value) (l : List Ac) : Prop :=
  ∃ xs, w.ownsRow base 42 6 v l.length xs ∧ AcsV w S xs l ∧ (∀ g, v.ownBlock = some g → ¬ S g)
section
variable {w w' : World} {T T' S S' : Nat → Prop} {v : Value} {l : List Ac} {base : Nat}
theorem AS.keep (h : AS w T S v l) (hT : ∀ q : Addr, T q.block → w'.cell? q = w.cell? q) (hk : ∀ q : Addr, S q.block → w'.cell? q = w.cell? q) : AS w' T S v l := by
  obtain ⟨A, c, xs, hv, h1, h2, h3, h4⟩ := h
  refine ⟨A, c, xs, hv, h1, h2, h3.keep hk, fun hl => ?_⟩
  obtain ⟨ad, hA, hb, hc⟩ := h4 hl
  exact ⟨ad, hA, hb, fun j u hj => (hT _ (by rw [block_add]; exact hb)).trans (hc j u hj)⟩
theorem AS.mono (h : AS w T S v l) (hT : ∀ x, T x → T' x) (hS : ∀ x, S x → S' x) : AS w T' S' v l := by
  obtain ⟨A, c, xs, hv, h1, h2, h3, h4⟩ := h
  refine ⟨A, c, xs, hv, h1, h2, h3.mono hS, fun hl => ?_⟩
  obtain ⟨ad, hA, hb, hc⟩ := h4 hl
  exact ⟨ad, hA, hT _ hb, hc⟩
theorem AS.nil (w : World) (T S : Nat → Prop) : AS w T S (.slice none 0 0) [] := ⟨none, 0, [], rfl, by simp, by simp [maxLen], rfl, fun h => absurd h (by simp)⟩
theorem AS.form (h : AS w T S v l) : ∃ A c, v = .slice A l.length c ∧ l.length ≤ c ∧ c ≤ 9223372036854775807 := by
  obtain ⟨A, c, xs, hv, h1, h2, _⟩ := h
  unfold maxLen at h2
  exact ⟨A, c, hv, h1, by omega⟩
theorem OA.nil (w : World) (base : Nat) (S : Nat → Prop) : OA w base S (.slice none 0 0) [] := ⟨[], World.ownsRow_nil w base _ _, rfl, fun g h => by cases h⟩
theorem OA.as (h : OA w base S v l) : AS w (NewB w base) S v l := by
  obtain ⟨xs, h1, h2, h3⟩ := h
  rcases h1.2 with ⟨rfl, hn⟩ | ⟨g, cap, cur, rfl, hbg, hg, hnc, hcm, hcs, htake⟩
  · have : l = [] := List.eq_nil_of_length_eq_zero hn
    subst this
    exact AS.nil _ _ _
  · exact ⟨_, cap, xs, rfl, hnc, hcm, h2, fun hl => ⟨_, rfl, World.ownsRow.lt h1 g rfl, fun j u hj => h1.cells (g := g) rfl j u hj⟩⟩
theorem OA.lt (h : OA w base S v l) (g : Nat) (hg : v.ownBlock = some g) : base ≤ g ∧ g < w.heap.size := by
  obtain ⟨xs, h1, _⟩ := h
  exact World.ownsRow.lt h1 g hg
theorem OA.weak (h : OA w base S v l) (h1 : ∀ x, S x → S' x) (h2 : ∀ g, v.ownBlock = some g → ¬ S' g) : OA w base S' v l := by
  obtain ⟨xs, a, b, c⟩ := h
  exact ⟨xs, a, b.mono h1, h2⟩
theorem OA.lower {b2 : Nat} (h : OA w base S v l) (hb : b2 ≤ base) : OA w b2 S v l := by
  obtain ⟨xs, ⟨a1, a2⟩, b, c⟩ := h
  refine ⟨xs, ⟨a1, ?_⟩, b, c⟩
  rcases a2 with a2 | ⟨g, cap, cur, hv, hg, hr⟩
  · exact .inl a2
  · exact .inr ⟨g, cap, cur, hv, Nat.le_trans hb hg, hr⟩
theorem OA.below (h : OA w base S v l) (hS : ∀ x, S x → x < w.heap.size) (hb : Below w.heap.size w w') : OA w' base S v l := by
  obtain ⟨xs, a, b, c⟩ := h
  have hg : w.grownBy w' none := ⟨hb.os, hb.tape, hb.output, hb.size, fun i hi _ => hb.block i hi⟩
  refine ⟨xs, ?_, b.keep (fun q hq => hb.cell (hS _ hq)), c⟩
  refine World.ownsRow.kept a hg ?_
  cases hv : v.ownBlock with
  | none => exact Or.inl rfl
  | some k => exact Or.inr (by simp)
end
/-- One act that has just been laid. -/
theorem AS.one (w : World) (S : Nat → Prop) (a : Ac) (vp vi : Value) (t : TypeId) (hp : SL vI w S vp a.params) (hi : SL vB w S vi a.inter) (hS : ∀ x, S x → x < w.heap.size) :
    AS (w.alloc (.cells #[.int .i64 (a.kind : Int), .int .i32 a.r, .int .u8 (a.b : Int), .int .u8 (a.priv : Int), vp, vi] t)) (fun x => x = w.heap.size) S (.slice (some ⟨w.heap.size, 0, none⟩) 1 1) [a] := by
  have hk : ∀ q : Addr, S q.block → (w.alloc (.cells #[.int .i64 (a.kind : Int), .int .i32 a.r, .int .u8 (a.b : Int), .int .u8 (a.priv : Int), vp, vi] t)).cell? q = w.cell? q := fun q hq => World.cell?_alloc_lt w _ q (hS _ hq)
  refine ⟨_, 1, [.int .i64 (a.kind : Int), .int .i32 a.r, .int .u8 (a.b : Int), .int .u8 (a.priv : Int), vp, vi], rfl, by simp, by simp [maxLen], ⟨vp, vi, [], rfl, hp.keep hk, hi.keep hk, rfl⟩, fun _ => ⟨_, rfl, rfl, fun j u hj => ?_⟩⟩
  exact World.news_of_block (heap_alloc_new w (.cells #[.int .i64 (a.kind : Int), .int .i32 a.r, .int .u8 (a.b : Int), .int .u8 (a.priv : Int), vp, vi] t)) j u (by simpa using hj)

theorem actInfo : (Try.prog.info? 42).map (fun i => (i.zero, i.size, i.bytes)) = some (some (.agg #[.int .i64 0, .int .i32 0, .int .u8 0, .int .u8 0, .slice none 0 0, .slice none 0 0]), 6, 64) := by kernel_rfl
theorem grown_keep {w w' : World} {row : Option Nat} {S : Nat → Prop} (hg : w.grownBy w' row) (hS : ∀ x, S x → x < w.heap.size) (hrow : ∀ g, row = some g → ¬ S g) : ∀ q : Addr, S q.block → w'.cell? q = w.cell? q := fun q hq =>
  World.cell?_of_block (hg.block q.block (hS _ hq) (fun e => hrow _ e.symm hq))
/-- append of acts onto a row of the call's own. -/
theorem run_appA (w : World) (ty : TypeId) {base : Nat} {S T R : Nat → Prop} {v u : Value} {l m : List Ac} (hown : OA w base S v l) (hr : AS w R T u m) (hS : ∀ x, S x → x < w.heap.size) (hT : ∀ x, T x → x < w.heap.size) (hTg : ∀ g, v.ownBlock = some g → ¬ T g)
    (hlen : l.length + m.length ≤ 1099511627776) (hbase : base ≤ w.heap.size) :
    ∃ v' w', (Builtin.append_ #[32, 32] ty #[v, u]).run Try.prog w = .ok v' w' ∧ OA w' base (fun x => S x ∨ T x) v' (l ++ m) ∧ w.grownBy w' v.ownBlock ∧ Below base w w' ∧ (v'.ownBlock = v.ownBlock ∨ v'.ownBlock = some w.heap.size) := by
  obtain ⟨i0, hi0, hz0, hz1, hz2⟩ := info_parts actInfo
  obtain ⟨xs, hx, hax, hng⟩ := hown
  have hlt := World.ownsRow.lt hx
  obtain ⟨A, c, ys, rfl, h1, h2, h3, h4⟩ := hr
  have hlen6 : ys.length = m.length * 6 := h3.len
  rcases Nat.eq_zero_or_pos m.length with h0 | h0
  · have hm : m = [] := List.eq_nil_of_length_eq_zero h0
    subst hm
    refine ⟨v, w, ?_, ⟨xs, by simpa using hx, by rw [List.append_nil]; exact hax.mono (fun _ h => .inl h), fun g hg h => h.elim (hng g hg) (hTg g hg)⟩, World.grownBy.refl w _, Below.refl _ _, .inl rfl⟩
    rcases hx.2 with ⟨rfl, hn⟩ | ⟨g, cap, cur, rfl, _, _, hnc, _⟩
    · cases A <;> simp [Builtin.append_, run_underlying Try.underlying32, sizeOf, typeInfo, hi0, Builtin.lenOf, Builtin.firstCells, loadCells, loadCellsFrom]
    · cases A <;> simp [Builtin.append_, run_underlying Try.underlying32, sizeOf, typeInfo, hi0, Builtin.lenOf, Builtin.firstCells, hnc, storeCells, loadCells, loadCellsFrom]
  · obtain ⟨ad, rfl, hb, hc⟩ := h4 h0
    obtain ⟨v', w', hrun, h5, h6, _, h7⟩ := run_append_own_at (P := Try.prog) w base 32 ty 42 i0 _ 6 64 Try.underlying32 hi0 hz0 hz1 hz2 rfl (by omega) v l.length xs hx ad m.length c ys hlen6 hc h3.ones (by simp only [maxLen]; omega) (by omega) hbase
    have k1 := grown_keep h6 hS (fun g hg => hng g hg)
    have k2 := grown_keep h6 hT hTg
    refine ⟨v', w', hrun, ⟨xs ++ ys, by rw [List.length_append]; exact h5, ((hax.keep k1).mono (fun _ h => .inl h)).append ((h3.keep k2).mono (fun _ h => .inr h)), fun g hg h => ?_⟩, h6, (Below.refl _ _).grown h6 hbase (fun k hk => (hlt k hk).1), h7⟩
    rcases h7 with e | e
    · rw [e] at hg
      exact h.elim (hng g hg) (hTg g hg)
    · rw [e] at hg
      injection hg with hg
      subst hg
      rcases h with h | h
      · exact absurd (hS _ h) (by omega)
      · exact absurd (hT _ h) (by omega)
/-- The same at the operation, for the walk. -/
theorem wpl_appA (w : World) {ops : Array Oper} {rest : List Oper} {o : Oper} {a : Act} {Q : Exit → Act → World → Prop} (hgd : o.guard = none) (s x : Operand)
    (ho : o.op = .call { callee := .builtin .append, args := #[s, x], argTypes := #[32, 32] })
    (base : Nat) (S R T : Nat → Prop) (v u : Value) (l m : List Ac) (hs : a.eval s = v) (hx : a.eval x = u) (hown : OA w base S v l) (hr : AS w R T u m) (hS : ∀ x, S x → x < w.heap.size) (hT : ∀ x, T x → x < w.heap.size) (hTg : ∀ g, v.ownBlock = some g → ¬ T g) (hlen : l.length + m.length ≤ 1099511627776) (hbase : base ≤ w.heap.size)
    (h : ∀ v' w', OA w' base (fun x => S x ∨ T x) v' (l ++ m) → w.grownBy w' v.ownBlock → Below base w w' → (v'.ownBlock = v.ownBlock ∨ v'.ownBlock = some w.heap.size) → wpList Try.prog ops Q rest (a.put o.dst v') w') :
    wpList Try.prog ops Q (o :: rest) a w := by
  refine wpList_plain hgd fun K hK => ?_
  obtain ⟨v', w', hrun, h2, h3, h4, h5⟩ := run_appA w o.type hown hr hS hT hTg hlen hbase
  unfold Oper.wp execOp
  simp only [ho, resolve, invoke, builtin, Sem.run_bind, Sem.run_pure, Result.andThen_ok, List.map_toArray, List.map_cons, List.map_nil, hs, hx, hrun]
  exact hK _ _ (h v' w' h2 h3 h4 h5)
end Go.Proofs.Ytbimhhcmfhooaaa

namespace Go.Proofs.Ytbimhhcmfhooaaa
open Go.RowKit
set_option linter.unusedVariables false

theorem inter_yes (b : UInt8) (h0 : 32 ≤ b.toNat) (h1 : b.toNat ≤ 47) : interB b = true := by simp [interB, h0, h1]
theorem inter_no (b : UInt8) (h : b.toNat < 32 ∨ 47 < b.toNat) : interB b = false := by
  rw [← Bool.not_eq_true]
  simp [interB]
  omega
theorem interr_any (b : UInt8) (w : World) : Calls Try.prog 22 #[.int .u8 (b.toNat : Int)] w fun e w' => e = .returned (.bool (interB b)) ∧ w = w' := by
  by_cases h0 : 32 ≤ b.toNat
  · have d0 : (32 : Int) ≤ (b.toNat : Int) := by omega
    by_cases h1 : b.toNat ≤ 47
    · have d1 : (b.toNat : Int) ≤ 47 := by omega
      rw [inter_yes b h0 h1]
      go_enter Try.func22, Try.ntmps22
      go_wp2
      go_ret
      exact ⟨rfl, rfl⟩
    · have d1 : decide ((b.toNat : Int) ≤ 47) = false := by simp; omega
      rw [inter_no b (.inr (by omega))]
      go_enter Try.func22, Try.ntmps22
      go_wp2
      go_ret
      exact ⟨rfl, rfl⟩
  · have d0 : decide ((32 : Int) ≤ (b.toNat : Int)) = false := by simp; omega
    rw [inter_no b (.inl (by omega))]
    go_enter Try.func22, Try.ntmps22
    go_wp2
    go_ret
    exact ⟨rfl, rfl⟩

theorem withr_any (v : Value) (l : List UInt8) (b : UInt8) (w : World) (hv : BS w w.heap.size v l) (hl : l.length ≤ 1048576) : Calls Try.prog 42 #[v, .int .u8 (b.toNat : Int)] w fun e w' => ∃ u, e = .returned u ∧ OB w' w.heap.size u (l ++ [b]) ∧ Below w.heap.size w w' := by
  have HV := Lib.hid hv
  obtain ⟨A, c, rfl, g1, g2, -⟩ := hv.at_
  clear hv
  go_enter Try.func42, Try.ntmps42
  go_wp2_with (first
    | (at_builtin; refine wpl_app _ rfl (.const (.slice none 0 0)) (.tmp 5) rfl w.heap.size _ (.slice none 0 0) _ [] l rfl rfl (OB.nil _ _) HV.out (by simp; omega) (Nat.le_refl _) ?_; intro v1 w1 ho1 hg1 hb1 _; have hz1 := hb1.size)
    | (at_builtin; refine wpl_app _ rfl (.tmp 6) (.tmp 8) rfl w.heap.size _ _ _ ([] ++ l) [b] rfl rfl (ho1.alloc _) (BS.one _ b _) (by simp; omega) (by simp; omega) ?_; intro v2 w2 ho2 hg2 hb2 _))
  go_ret
  exact ⟨v2, rfl, by rw [← List.nil_append l]; exact ho2, (hb1.alloc hz1 _).trans hb2⟩

def PrintsRel (l : List Nat) (w0 : World) (o i : Value) (wr : World) : Prop := ∃ k : Nat, k ≤ l.length ∧ i = .int .i64 (k : Int) ∧ OA wr w0.heap.size (fun _ => False) o (printsL (l.take k)) ∧ Below w0.heap.size w0 wr
/-- A new act's row. -/
theorem AS.print (w : World) (r : Int) (t : TypeId) : AS (w.alloc (.cells #[.int .i64 0, .int .i32 r, .int .u8 0, .int .u8 0, .slice none 0 0, .slice none 0 0] t)) (fun x => x = w.heap.size) (fun _ => False) (.slice (some ⟨w.heap.size, 0, none⟩) 1 1) [acP r] :=
  AS.one w (fun _ => False) (acP r) (.slice none 0 0) (.slice none 0 0) t (SL.nil _ _ _) (SL.nil _ _ _) (fun _ h => h.elim)
theorem printsL_succ (l : List Nat) (k : Nat) (h : k < l.length) : printsL (l.take (k + 1)) = printsL (l.take k) ++ [acP (Int.ofNat l[k])] := by
  unfold printsL
  rw [List.take_succ_eq_append_getElem h, List.map_append]
  rfl

set_option maxHeartbeats 400000 in
theorem printsr_any (v : Value) (l : List Nat) (w : World) (hv : RS w w.heap.size v (ints l)) (hl : l.length ≤ 1048576) : Calls Try.prog 28 #[v] w fun e w' => ∃ u, e = .returned u ∧ OA w' w.heap.size (fun _ => False) u (printsL l) ∧ Below w.heap.size w w' := by
  have hil : (ints l).length = l.length := by simp [ints]
  obtain ⟨A, c, rfl, g1, g2, -⟩ := hv.at_
  have HV := Lib.hid hv
  rw [hil] at g1 HV ⊢
  have HIL := Lib.hid hil
  unfold maxLen at g2
  clear hv hil
  go_enter Try.func28, Try.ntmps28
  go_wp2
  go_loopw [3, 4] (fun o i wr => PrintsRel l w o i wr) (fun _ i _ => l.length - (intOf i).toNat)
  case atStart => exact ⟨0, Nat.zero_le _, rfl, OA.nil _ _ _, Below.refl _ _⟩
  case round =>
    obtain ⟨k, hk, rfl, ho, hbel⟩ := hrel
    have hz := hbel.size
    by_cases hlt : k < l.length
    · obtain ⟨ad, hA, hc⟩ : ∃ ad, A = some ad ∧ wr.cell? (ad.add k) = some (vR (Int.ofNat l[k])) := by
        obtain ⟨A', c', hv', _, _, h3⟩ := (HV.out.below hbel).at_
        obtain ⟨ad, hA, hc⟩ := h3 k (by rw [HIL.out]; exact hlt)
        simp only [Value.slice.injEq] at hv'
        refine ⟨ad, hv'.1.trans hA, hc.trans ?_⟩
        simp [ints]
      subst hA
      unfold vR at hc
      have hsucc := printsL_succ l k hlt
      have hpl : (printsL (l.take k)).length ≤ k := by simp [printsL]; omega
      generalize Int.ofNat l[k] = r at *
      have HS := Lib.hid hsucc
      have HO := Lib.hid ho
      have HG : Hid (∀ g, u3.ownBlock = some g → g < wr.heap.size) := fun g hg => (ho.lt g hg).2
      clear hsucc ho
      go_wp2_with (at_builtin; refine wpl_appA _ rfl (.tmp 11) (.tmp 17) rfl w.heap.size (fun _ => False) _ (fun _ => False) _ _ _ [acP r] rfl rfl (HO.out.below (fun _ h => h.elim) ((Below.refl _ _).alloc (Nat.le_refl _) _)) (AS.print _ r _) (fun _ h => h.elim) (fun _ h => h.elim) (fun _ _ h => h) (by simp; omega) (by simp; omega) ?_; intro v3 w3 ho3 hg3 hb3 _)
      go_roundw
      case rel => exact ⟨k + 1, hlt, by go_num, by rw [HS.out]; exact ho3.weak (fun _ h => h.elim id id) (fun _ _ h => h), (hbel.alloc hz _).trans hb3⟩
      case measure => simp [intOf]; omega
    · obtain rfl : k = l.length := by omega
      rw [List.take_length] at ho
      go_wp2
      go_ret
      exact ⟨_, rfl, ho, hbel⟩

theorem formed_two (a c b : UInt8) : formedB [a, c] b = (decide (a.toNat = 239) && decide (c.toNat = 191) && decide (b.toNat = 189)) := by
  rw [Bool.eq_iff_iff]
  simp only [formedB, Bool.and_eq_true, beq_iff_eq, List.cons.injEq, and_true, decide_eq_true_eq, ← UInt8.toNat_inj]
  exact Iff.rfl
theorem formed_not (p : List UInt8) (b : UInt8) (h : p.length ≠ 2) : formedB p b = false := by
  rw [← Bool.not_eq_true]
  intro hh
  simp only [formedB, Bool.and_eq_true, beq_iff_eq] at hh
  rw [hh.1] at h
  exact h rfl
set_option maxHeartbeats 400000 in
theorem formedr_any (v : Value) (p : List UInt8) (b : UInt8) (B : Nat) (w : World) (hv : BS w B v p) : Calls Try.prog 27 #[v, .int .u8 (b.toNat : Int)] w fun e w' => e = .returned (.bool (formedB p b)) ∧ w = w' := by
  by_cases h2 : p.length = 2
  · match p, hv, h2 with
    | [a, c], hv, _ =>
      obtain ⟨ad, cp, rfl, _, _, ca, hcs⟩ := hv.lits
      have cc := hcs 0 c rfl
      rw [formed_two]
      clear hv hcs
      by_cases e1 : a.toNat = 239
      · have f1 : ((a.toNat : Int) == 239) = true := beq_iff_eq.2 (by omega)
        by_cases e2 : c.toNat = 191
        · have f2 : ((c.toNat : Int) == 191) = true := beq_iff_eq.2 (by omega)
          by_cases e3 : b.toNat = 189
          · have f3 : ((b.toNat : Int) == 189) = true := beq_iff_eq.2 (by omega)
            rw [decide_eq_true e1, decide_eq_true e2, decide_eq_true e3]
            clear e1 e2 e3
            go_enter Try.func27, Try.ntmps27
            go_wp2
            go_ret
            exact ⟨rfl, rfl⟩
          · have f3 : ((b.toNat : Int) == 189) = false := beq_eq_false_iff_ne.2 (by omega)
            rw [decide_eq_true e1, decide_eq_true e2, decide_eq_false e3]
            clear e1 e2 e3
            go_enter Try.func27, Try.ntmps27
            go_wp2
            go_ret
            exact ⟨rfl, rfl⟩
        · have f2 : ((c.toNat : Int) == 191) = false := beq_eq_false_iff_ne.2 (by omega)
          rw [decide_eq_true e1, decide_eq_false e2]
          clear e1 e2
          go_enter Try.func27, Try.ntmps27
          go_wp2
          go_ret
          exact ⟨rfl, rfl⟩
      · have f1 : ((a.toNat : Int) == 239) = false := beq_eq_false_iff_ne.2 (by omega)
        rw [decide_eq_false e1]
        clear e1
        go_enter Try.func27, Try.ntmps27
        go_wp2
        go_ret
        exact ⟨rfl, rfl⟩
  · rw [formed_not p b h2]
    obtain ⟨A, c, rfl, _, _, -⟩ := hv.at_
    have f2 : ((p.length : Int) == 2) = false := beq_eq_false_iff_ne.2 (by omega)
    clear h2 hv
    go_enter Try.func27, Try.ntmps27
    go_wp2
    go_ret
    exact ⟨rfl, rfl⟩
end Go.Proofs.Ytbimhhcmfhooaaa

namespace Go.Proofs.Ytbimhhcmfhooaaa
open Go.RowKit
set_option linter.unusedVariables false

/-- A parser and acts: what is new lies in new memory, what isn't in blocks of S. -/
def VtPost (S : Nat → Prop) (r : Pr × List Ac) (w : World) (e : Ending) (w' : World) : Prop :=
  ∃ qv av, e = .returned (.tuple #[qv, av]) ∧ PV w' (fun x => S x ∨ NewB w' w.heap.size x) qv r.1 ∧ AS w' (NewB w' w.heap.size) (fun x => S x ∨ NewB w' w.heap.size x) av r.2 ∧ Below w.heap.size w w'
theorem prM_pv (w : World) (S : Nat → Prop) (m : Nat) : PV w S (.agg #[.int .i64 (m : Int), .int .u8 0, .slice none 0 0, .slice none 0 0, .slice none 0 0]) (prM m) := ⟨_, _, _, rfl, SL.nil _ _ _, SL.nil _ _ _, SL.nil _ _ _⟩

/-- One act that has just been laid, behind w; its slices lie in blocks that were there. -/
theorem act_new {w W : World} {S : Nat → Prop} (hb : Below w.heap.size w W) (hS : ∀ x, S x → x < w.heap.size) (a : Ac) (vp vi : Value) (t : TypeId) (g : Nat) (hg : g = W.heap.size) (hp : SL vI w S vp a.params) (hi : SL vB w S vi a.inter) (cs : Array Value) (hcs : cs = #[.int .i64 (a.kind : Int), .int .i32 a.r, .int .u8 (a.b : Int), .int .u8 (a.priv : Int), vp, vi]) :
    AS (W.alloc (.cells cs t)).drew (NewB (W.alloc (.cells cs t)).drew w.heap.size) (fun x => S x ∨ NewB (W.alloc (.cells cs t)).drew w.heap.size x) (.slice (some ⟨g, 0, none⟩) 1 1) [a] := by
  subst hg hcs
  have hk : ∀ q : Addr, S q.block → W.cell? q = w.cell? q := fun q hq => hb.cell (hS _ hq)
  have h := AS.one W S a vp vi t (hp.keep hk) (hi.keep hk) (fun x hx => Nat.lt_of_lt_of_le (hS x hx) hb.size)
  have h2 := h.mono (T' := NewB (W.alloc (.cells #[.int .i64 (a.kind : Int), .int .i32 a.r, .int .u8 (a.b : Int), .int .u8 (a.priv : Int), vp, vi] t)) w.heap.size) (fun x hx => by rw [hx]; exact ⟨hb.size, by simp⟩) (fun x hx => Or.inl (b := NewB (W.alloc (.cells #[.int .i64 (a.kind : Int), .int .i32 a.r, .int .u8 (a.b : Int), .int .u8 (a.priv : Int), vp, vi] t)) w.heap.size x) hx)
  exact h2

set_option maxHeartbeats 1000000 in
set_option maxRecDepth 100000 in
theorem csir_fin (vp vi vu : Value) (p : Pr) (b : UInt8) (S : Nat → Prop) (w : World) (hp : SL vI w S vp p.params) (hi : SL vB w S vi p.inter) (hu : SL vB w S vu p.utf) (hS : ∀ x, S x → x < w.heap.size) (h64 : 64 ≤ b.toNat) :
    Calls Try.prog 43 #[.agg #[.int .i64 (p.mode : Int), .int .u8 (p.priv : Int), vp, vi, vu], .int .u8 (b.toNat : Int)] w (VtPost S (prM 0, [acS p b.toNat]) w) := by
  have HP := Lib.hid hp
  have HI := Lib.hid hi
  have HSS := Lib.hid hS
  obtain ⟨Ap, cp, rfl, _, _⟩ := hp.form
  obtain ⟨Ai, ci, rfl, _, _⟩ := hi.form
  obtain ⟨Au, cu, rfl, _, _⟩ := hu.form
  have d1 : (64 : Int) ≤ (b.toNat : Int) := by omega
  clear hp hi hu hS
  go_enter Try.func43, Try.ntmps43
  go_wp2
  go_region
  all_goals
    go_wp2
    have hb3 := ((((Below.refl w.heap.size w).alloc (Nat.le_refl _) (.cells #[Value.int .i64 (p.mode : Int), Value.int .u8 (p.priv : Int), Value.slice Ap p.params.length cp, Value.slice Ai p.inter.length ci, Value.slice Au p.utf.length cu] 25)).alloc (by simp) (.cells #[Value.int .i64 0, Value.int .u8 0, Value.slice none 0 0, Value.slice none 0 0, Value.slice none 0 0] 25)).alloc (by simp; omega) (.cells #[Value.int .i64 6, Value.int .u8 0, Value.slice none 0 0, Value.slice none 0 0, Value.slice none 0 0] 25))
    exact bodyPost_ret (v := .tuple #[.agg #[.int .i64 0, .int .u8 0, .slice none 0 0, .slice none 0 0, .slice none 0 0], .slice (some ⟨w.heap.size + 1 + 1 + 1, 0, none⟩) 1 1]) (by simp [results, Try.results43, go_sem]) rfl ⟨_, _, rfl, prM_pv _ _ 0, act_new hb3 HSS.out (acS p b.toNat) _ _ _ _ (by simp) HP.out HI.out _ rfl, (hb3.alloc (by simp; omega) _).drew⟩

/-- What was there reads as it did. -/
theorem bcell {W w1 : World} (hb : Below W.heap.size W w1) : (∀ b o, b < W.heap.size → w1.cell? ⟨b, o, none⟩ = W.cell? ⟨b, o, none⟩) ∧ (∀ b o, b < W.heap.size → w1.frozen? ⟨b, o, none⟩ = W.frozen? ⟨b, o, none⟩) :=
  ⟨fun b o h => hb.cell (p := ⟨b, o, none⟩) h, fun b o h => hb.frozen (p := ⟨b, o, none⟩) h⟩
/-- Three blocks behind w. -/
theorem three_new (w : World) (x y z : Obj) : Below w.heap.size w (((w.alloc x).alloc y).alloc z) ∧ (((w.alloc x).alloc y).alloc z).heap.size = w.heap.size + 1 + 1 + 1 :=
  ⟨(((Below.refl w.heap.size w).alloc (Nat.le_refl _) x).alloc (by simp) y).alloc (by simp; omega) z, by simp⟩
theorem ignPost {S : Nat → Prop} {w w' : World} (hb : Below w.heap.size w w') : VtPost S (prM 6, []) w (.returned (.tuple #[.agg #[.int .i64 6, .int .u8 0, .slice none 0 0, .slice none 0 0, .slice none 0 0], .slice none 0 0])) w' :=
  ⟨_, _, rfl, prM_pv _ _ 6, AS.nil _ _ _, hb⟩
/-- A slice that was there, behind w. -/
theorem sl_old {α : Type} {f : α → Value} {w w' : World} {S : Nat → Prop} {v : Value} {l : List α} (hb : Below w.heap.size w w') (hS : ∀ x, S x → x < w.heap.size) (h : SL f w S v l) : SL f w' (fun x => S x ∨ NewB w' w.heap.size x) v l :=
  (h.keep (fun q hq => hb.cell (hS _ hq))).mono (fun _ hx => .inl hx)
theorem sl_new {α : Type} {f : α → Value} {w w' : World} {S : Nat → Prop} {v : Value} {l : List α} (h : SL f w' (NewB w' w.heap.size) v l) : SL f w' (fun x => S x ∨ NewB w' w.heap.size x) v l := h.mono (fun _ hx => .inr hx)
set_option maxHeartbeats 1000000 in
set_option maxRecDepth 100000 in
theorem csir_i2 (vp vi vu : Value) (p : Pr) (b : UInt8) (S : Nat → Prop) (w : World) (hp : SL vI w S vp p.params) (hi : SL vB w S vi p.inter) (hu : SL vB w S vu p.utf) (hS : ∀ x, S x → x < w.heap.size) (h64 : ¬ 64 ≤ b.toNat) (hB : interB b = true) (hl : 2 ≤ p.inter.length) :
    Calls Try.prog 43 #[.agg #[.int .i64 (p.mode : Int), .int .u8 (p.priv : Int), vp, vi, vu], .int .u8 (b.toNat : Int)] w (VtPost S (prM 6, []) w) := by
  have HP := Lib.hid hp
  have HI := Lib.hid hi
  have HU := Lib.hid hu
  have HSS := Lib.hid hS
  obtain ⟨Ap, cp, rfl, p1, p2⟩ := hp.form
  obtain ⟨Ai, ci, rfl, i1, i2⟩ := hi.form
  obtain ⟨Au, cu, rfl, u1, u2⟩ := hu.form
  clear hp hi hu hS
  have HIB := Lib.hid hB
  clear hB
  have d64 : decide ((64 : Int) ≤ (b.toNat : Int)) = false := by simp; omega
  have d2 : (2 : Int) ≤ (p.inter.length : Int) := by omega
  go_enter Try.func43, Try.ntmps43
  go_wp2_with (go_at_call 22; refine (interr_any b _).mono ?_; rintro e w' ⟨rfl, rfl⟩; rw [HIB.out])
  exact bodyPost_ret (v := .tuple #[.agg #[.int .i64 6, .int .u8 0, .slice none 0 0, .slice none 0 0, .slice none 0 0], .slice none 0 0]) (by simp [results, Try.results43, go_sem]) rfl (ignPost (three_new w _ _ _).1)
set_option maxHeartbeats 1000000 in
set_option maxRecDepth 100000 in
theorem csir_i5 (vp vi vu : Value) (p : Pr) (b : UInt8) (S : Nat → Prop) (w : World) (hp : SL vI w S vp p.params) (hi : SL vB w S vi p.inter) (hu : SL vB w S vu p.utf) (hS : ∀ x, S x → x < w.heap.size) (h64 : ¬ 64 ≤ b.toNat) (hB : interB b = false) (hm : p.mode = 5) :
    Calls Try.prog 43 #[.agg #[.int .i64 (p.mode : Int), .int .u8 (p.priv : Int), vp, vi, vu], .int .u8 (b.toNat : Int)] w (VtPost S (prM 6, []) w) := by
  have HP := Lib.hid hp
  have HI := Lib.hid hi
  have HU := Lib.hid hu
  have HSS := Lib.hid hS
  obtain ⟨Ap, cp, rfl, p1, p2⟩ := hp.form
  obtain ⟨Ai, ci, rfl, i1, i2⟩ := hi.form
  obtain ⟨Au, cu, rfl, u1, u2⟩ := hu.form
  clear hp hi hu hS
  have HIB := Lib.hid hB
  clear hB
  have d64 : decide ((64 : Int) ≤ (b.toNat : Int)) = false := by simp; omega
  have d2 : ((p.mode : Int) == 5) = true := by rw [hm]; rfl
  clear hm
  go_enter Try.func43, Try.ntmps43
  go_wp2_with (go_at_call 22; refine (interr_any b _).mono ?_; rintro e w' ⟨rfl, rfl⟩; rw [HIB.out])
  exact bodyPost_ret (v := .tuple #[.agg #[.int .i64 6, .int .u8 0, .slice none 0 0, .slice none 0 0, .slice none 0 0], .slice none 0 0]) (by simp [results, Try.results43, go_sem]) rfl (ignPost (three_new w _ _ _).1)
set_option maxHeartbeats 1000000 in
set_option maxRecDepth 100000 in
theorem csir_col (vp vi vu : Value) (p : Pr) (b : UInt8) (S : Nat → Prop) (w : World) (hp : SL vI w S vp p.params) (hi : SL vB w S vi p.inter) (hu : SL vB w S vu p.utf) (hS : ∀ x, S x → x < w.heap.size) (h64 : ¬ 64 ≤ b.toNat) (hB : interB b = false) (hm : p.mode ≠ 5) (h58 : b.toNat = 58) :
    Calls Try.prog 43 #[.agg #[.int .i64 (p.mode : Int), .int .u8 (p.priv : Int), vp, vi, vu], .int .u8 (b.toNat : Int)] w (VtPost S (prM 6, []) w) := by
  have HP := Lib.hid hp
  have HI := Lib.hid hi
  have HU := Lib.hid hu
  have HSS := Lib.hid hS
  obtain ⟨Ap, cp, rfl, p1, p2⟩ := hp.form
  obtain ⟨Ai, ci, rfl, i1, i2⟩ := hi.form
  obtain ⟨Au, cu, rfl, u1, u2⟩ := hu.form
  clear hp hi hu hS
  have HIB := Lib.hid hB
  clear hB
  have d64 : decide ((64 : Int) ≤ (b.toNat : Int)) = false := by simp; omega
  have d5 : ((p.mode : Int) == 5) = false := beq_eq_false_iff_ne.2 (by omega)
  clear hm
  have d2 : ((b.toNat : Int) == 58) = true := beq_iff_eq.2 (by omega)
  clear h58
  go_enter Try.func43, Try.ntmps43
  go_wp2_with (go_at_call 22; refine (interr_any b _).mono ?_; rintro e w' ⟨rfl, rfl⟩; rw [HIB.out])
  exact bodyPost_ret (v := .tuple #[.agg #[.int .i64 6, .int .u8 0, .slice none 0 0, .slice none 0 0, .slice none 0 0], .slice none 0 0]) (by simp [results, Try.results43, go_sem]) rfl (ignPost (three_new w _ _ _).1)
set_option maxHeartbeats 1000000 in
set_option maxRecDepth 100000 in
theorem csir_pr1 (vp vi vu : Value) (p : Pr) (b : UInt8) (S : Nat → Prop) (w : World) (hp : SL vI w S vp p.params) (hi : SL vB w S vi p.inter) (hu : SL vB w S vu p.utf) (hS : ∀ x, S x → x < w.heap.size) (h64 : ¬ 64 ≤ b.toNat) (hB : interB b = false) (hm : p.mode ≠ 5) (h58 : b.toNat ≠ 58) (h60 : 60 ≤ b.toNat) (hq : 0 < p.params.length) :
    Calls Try.prog 43 #[.agg #[.int .i64 (p.mode : Int), .int .u8 (p.priv : Int), vp, vi, vu], .int .u8 (b.toNat : Int)] w (VtPost S (prM 6, []) w) := by
  have HP := Lib.hid hp
  have HI := Lib.hid hi
  have HU := Lib.hid hu
  have HSS := Lib.hid hS
  obtain ⟨Ap, cp, rfl, p1, p2⟩ := hp.form
  obtain ⟨Ai, ci, rfl, i1, i2⟩ := hi.form
  obtain ⟨Au, cu, rfl, u1, u2⟩ := hu.form
  clear hp hi hu hS
  have HIB := Lib.hid hB
  clear hB
  have d64 : decide ((64 : Int) ≤ (b.toNat : Int)) = false := by simp; omega
  have d5 : ((p.mode : Int) == 5) = false := beq_eq_false_iff_ne.2 (by omega)
  clear hm
  have d58 : ((b.toNat : Int) == 58) = false := beq_eq_false_iff_ne.2 (by omega)
  clear h58
  have d60 : (60 : Int) ≤ (b.toNat : Int) := by omega
  go_enter Try.func43, Try.ntmps43
  go_wp2_with (go_at_call 22; refine (interr_any b _).mono ?_; rintro e w' ⟨rfl, rfl⟩; rw [HIB.out])
  exact bodyPost_ret (v := .tuple #[.agg #[.int .i64 6, .int .u8 0, .slice none 0 0, .slice none 0 0, .slice none 0 0], .slice none 0 0]) (by simp [results, Try.results43, go_sem]) rfl (ignPost (three_new w _ _ _).1)
set_option maxHeartbeats 1000000 in
set_option maxRecDepth 100000 in
theorem csir_pr2 (vp vi vu : Value) (p : Pr) (b : UInt8) (S : Nat → Prop) (w : World) (hp : SL vI w S vp p.params) (hi : SL vB w S vi p.inter) (hu : SL vB w S vu p.utf) (hS : ∀ x, S x → x < w.heap.size) (h64 : ¬ 64 ≤ b.toNat) (hB : interB b = false) (hm : p.mode ≠ 5) (h58 : b.toNat ≠ 58) (h60 : 60 ≤ b.toNat) (hq : p.params.length = 0) (hv : p.priv ≠ 0) :
    Calls Try.prog 43 #[.agg #[.int .i64 (p.mode : Int), .int .u8 (p.priv : Int), vp, vi, vu], .int .u8 (b.toNat : Int)] w (VtPost S (prM 6, []) w) := by
  have HP := Lib.hid hp
  have HI := Lib.hid hi
  have HU := Lib.hid hu
  have HSS := Lib.hid hS
  obtain ⟨Ap, cp, rfl, p1, p2⟩ := hp.form
  obtain ⟨Ai, ci, rfl, i1, i2⟩ := hi.form
  obtain ⟨Au, cu, rfl, u1, u2⟩ := hu.form
  clear hp hi hu hS
  have HIB := Lib.hid hB
  clear hB
  have d64 : decide ((64 : Int) ≤ (b.toNat : Int)) = false := by simp; omega
  have d5 : ((p.mode : Int) == 5) = false := beq_eq_false_iff_ne.2 (by omega)
  clear hm
  have d58 : ((b.toNat : Int) == 58) = false := beq_eq_false_iff_ne.2 (by omega)
  clear h58
  have d60 : (60 : Int) ≤ (b.toNat : Int) := by omega
  have dq : decide (0 < p.params.length) = false := decide_eq_false (by omega)
  have dv : ((p.priv : Int) != 0) = true := by simp; omega
  clear hq hv
  go_enter Try.func43, Try.ntmps43
  go_wp2_with (go_at_call 22; refine (interr_any b _).mono ?_; rintro e w' ⟨rfl, rfl⟩; rw [HIB.out])
  exact bodyPost_ret (v := .tuple #[.agg #[.int .i64 6, .int .u8 0, .slice none 0 0, .slice none 0 0, .slice none 0 0], .slice none 0 0]) (by simp [results, Try.results43, go_sem]) rfl (ignPost (three_new w _ _ _).1)
set_option maxHeartbeats 1000000 in
set_option maxRecDepth 100000 in
theorem csir_pr3 (vp vi vu : Value) (p : Pr) (b : UInt8) (S : Nat → Prop) (w : World) (hp : SL vI w S vp p.params) (hi : SL vB w S vi p.inter) (hu : SL vB w S vu p.utf) (hS : ∀ x, S x → x < w.heap.size) (h64 : ¬ 64 ≤ b.toNat) (hB : interB b = false) (hm : p.mode ≠ 5) (h58 : b.toNat ≠ 58) (h60 : 60 ≤ b.toNat) (hq : p.params.length = 0) (hv : p.priv = 0) :
    Calls Try.prog 43 #[.agg #[.int .i64 (p.mode : Int), .int .u8 (p.priv : Int), vp, vi, vu], .int .u8 (b.toNat : Int)] w (VtPost S ({ p with priv := b.toNat }, []) w) := by
  have HP := Lib.hid hp
  have HI := Lib.hid hi
  have HU := Lib.hid hu
  have HSS := Lib.hid hS
  obtain ⟨Ap, cp, rfl, p1, p2⟩ := hp.form
  obtain ⟨Ai, ci, rfl, i1, i2⟩ := hi.form
  obtain ⟨Au, cu, rfl, u1, u2⟩ := hu.form
  clear hp hi hu hS
  have HIB := Lib.hid hB
  clear hB
  have d64 : decide ((64 : Int) ≤ (b.toNat : Int)) = false := by simp; omega
  have d5 : ((p.mode : Int) == 5) = false := beq_eq_false_iff_ne.2 (by omega)
  clear hm
  have d58 : ((b.toNat : Int) == 58) = false := beq_eq_false_iff_ne.2 (by omega)
  clear h58
  have d60 : (60 : Int) ≤ (b.toNat : Int) := by omega
  have dq : decide (0 < p.params.length) = false := decide_eq_false (by omega)
  have dv : ((p.priv : Int) != 0) = false := by simp; omega
  clear hq hv
  go_enter Try.func43, Try.ntmps43
  go_wp2_with (go_at_call 22; refine (interr_any b _).mono ?_; rintro e w' ⟨rfl, rfl⟩; rw [HIB.out])
  exact bodyPost_ret (v := .tuple #[.agg #[.int .i64 (p.mode : Int), .int .u8 (b.toNat : Int), Value.slice Ap p.params.length cp, Value.slice Ai p.inter.length ci, Value.slice Au p.utf.length cu], .slice none 0 0]) (by simp [results, Try.results43, go_sem]) rfl ⟨_, _, rfl, ⟨_, _, _, rfl, sl_old (three_new w _ _ _).1 HSS.out HP.out, sl_old (three_new w _ _ _).1 HSS.out HI.out, sl_old (three_new w _ _ _).1 HSS.out HU.out⟩, AS.nil _ _ _, (three_new w _ _ _).1⟩
end Go.Proofs.Ytbimhhcmfhooaaa

namespace Go.Proofs.Ytbimhhcmfhooaaa
open Go.RowKit
set_option linter.unusedVariables false

/-- A block of five cells, read cell by cell. -/
theorem five_cells {w : World} {g : Nat} {t : TypeId} {x0 x1 x2 x3 x4 : Value} (h : w.heap[g]? = some (.cells #[x0, x1, x2, x3, x4] t)) :
    w.cell? ⟨g, 0, none⟩ = some x0 ∧ w.cell? ⟨g, 1, none⟩ = some x1 ∧ w.cell? ⟨g, 2, none⟩ = some x2 ∧ w.cell? ⟨g, 3, none⟩ = some x3 ∧ w.cell? ⟨g, 4, none⟩ = some x4 ∧ ∀ o, w.frozen? ⟨g, o, none⟩ = false := by
  refine ⟨?_, ?_, ?_, ?_, ?_, fun o => ?_⟩
  · rw [cell_of_row w g 0 _ t _ h]; rfl
  · rw [cell_of_row w g 1 _ t _ h]; rfl
  · rw [cell_of_row w g 2 _ t _ h]; rfl
  · rw [cell_of_row w g 3 _ t _ h]; rfl
  · rw [cell_of_row w g 4 _ t _ h]; rfl
  · simp [World.frozen?, h]
/-- The first and the second of three blocks, behind a call. -/
theorem two_kept {w w4 : World} {x y z : Obj} (hb : Below (((w.alloc x).alloc y).alloc z).heap.size (((w.alloc x).alloc y).alloc z) w4) : w4.heap[w.heap.size]? = some x ∧ w4.heap[w.heap.size + 1]? = some y := by
  refine ⟨(hb.block _ (by simp; omega)).trans ?_, (hb.block _ (by simp)).trans ?_⟩
  · show (((w.heap.push x).push y).push z)[w.heap.size]? = some x
    simp [Array.getElem?_push]
    omega
  · show (((w.heap.push x).push y).push z)[w.heap.size + 1]? = some y
    rw [Array.getElem?_push, if_neg (by simp), Array.getElem?_push, if_pos (by simp)]

theorem SL.set {α : Type} {f : α → Value} {w : World} {S : Nat → Prop} {v u : Value} {l : List α} {a : Addr} (h : SL f w S v l) (hne : ∀ x, S x → x ≠ a.block) : SL f (w.setCell a u) S v l :=
  h.keep fun q hq => World.cell?_of_block (Below.heap_setCell _ _ _ _ (hne _ hq))
/-- A parser's fields, two blocks of it written: the first at two places, the second whole. -/
theorem set_keep {α : Type} {f : α → Value} {w w4 : World} {S : Nat → Prop} {v x0 x1 y0 y1 y2 y3 y4 : Value} {l : List α} {i j : Nat} (h : SL f w4 S v l) (hne : ∀ x, S x → x ≠ w.heap.size ∧ x ≠ w.heap.size + 1) :
    SL f (((((((w4.setCell ⟨w.heap.size, i, none⟩ x0).setCell ⟨w.heap.size, j, none⟩ x1).setCell ⟨w.heap.size + 1, 0, none⟩ y0).setCell ⟨w.heap.size + 1, 1, none⟩ y1).setCell ⟨w.heap.size + 1, 2, none⟩ y2).setCell ⟨w.heap.size + 1, 3, none⟩ y3).setCell ⟨w.heap.size + 1, 4, none⟩ y4) S v l :=
  ((((((h.set (fun x hx => (hne x hx).1)).set (fun x hx => (hne x hx).1)).set (fun x hx => (hne x hx).2)).set (fun x hx => (hne x hx).2)).set (fun x hx => (hne x hx).2)).set (fun x hx => (hne x hx).2)).set (fun x hx => (hne x hx).2)
theorem set_below {w w4 : World} {x0 x1 y0 y1 y2 y3 y4 : Value} {i j : Nat} (h : Below w.heap.size w w4) :
    Below w.heap.size w (((((((w4.setCell ⟨w.heap.size, i, none⟩ x0).setCell ⟨w.heap.size, j, none⟩ x1).setCell ⟨w.heap.size + 1, 0, none⟩ y0).setCell ⟨w.heap.size + 1, 1, none⟩ y1).setCell ⟨w.heap.size + 1, 2, none⟩ y2).setCell ⟨w.heap.size + 1, 3, none⟩ y3).setCell ⟨w.heap.size + 1, 4, none⟩ y4) :=
  ((((((h.setCell (Nat.le_refl _) _).setCell (Nat.le_refl _) _).setCell (Nat.le_succ _) _).setCell (Nat.le_succ _) _).setCell (Nat.le_succ _) _).setCell (Nat.le_succ _) _).setCell (Nat.le_succ _) _

set_option maxHeartbeats 1000000 in
set_option maxRecDepth 100000 in
theorem csir_int (vp vi vu : Value) (p : Pr) (b : UInt8) (S : Nat → Prop) (w : World) (hp : SL vI w S vp p.params) (hi : SL vB w S vi p.inter) (hu : SL vB w S vu p.utf) (hS : ∀ x, S x → x < w.heap.size) (h64 : ¬ 64 ≤ b.toNat) (hB : interB b = true) (hl : p.inter.length < 2) :
    Calls Try.prog 43 #[.agg #[.int .i64 (p.mode : Int), .int .u8 (p.priv : Int), vp, vi, vu], .int .u8 (b.toNat : Int)] w (VtPost S ({ p with mode := 5, inter := p.inter ++ [b] }, []) w) := by
  have HP := Lib.hid hp
  have HI := Lib.hid hi
  have HU := Lib.hid hu
  have HSS := Lib.hid hS
  obtain ⟨Ap, cp, rfl, p1, p2⟩ := hp.form
  obtain ⟨Ai, ci, rfl, i1, i2⟩ := hi.form
  obtain ⟨Au, cu, rfl, u1, u2⟩ := hu.form
  clear hp hi hu hS
  have HIB := Lib.hid hB
  clear hB
  have d64 : decide ((64 : Int) ≤ (b.toNat : Int)) = false := by simp; omega
  have d2 : decide ((2 : Int) ≤ (p.inter.length : Int)) = false := by simp; omega
  go_enter Try.func43, Try.ntmps43
  go_wp2_with (first
    | (go_at_call 22; refine (interr_any b _).mono ?_; rintro e w' ⟨rfl, rfl⟩; rw [HIB.out])
    | (go_at_call 42; refine (withr_any _ p.inter b _ (((HI.out.bs HSS.out).below (three_new w _ _ _).1).more (three_new w _ _ _).1.size) (by omega)).mono ?_; rintro e w4 ⟨u, rfl, ho, hb4⟩; obtain ⟨k0, k1⟩ := two_kept hb4; obtain ⟨c0, c1, c2, c3, c4, cf⟩ := five_cells k0; obtain ⟨e0, e1, e2, e3, e4, ef⟩ := five_cells k1; have HB4 := Lib.hid hb4; have HO4 := Lib.hid ho; clear hb4 k0 k1; obtain ⟨Av, cv, rfl, _, _, -⟩ := ho.bs.at_; clear ho))
  have h3 := three_new w (.cells #[Value.int .i64 (p.mode : Int), Value.int .u8 (p.priv : Int), Value.slice Ap p.params.length cp, Value.slice Ai p.inter.length ci, Value.slice Au p.utf.length cu] 25) (.cells #[Value.int .i64 0, Value.int .u8 0, Value.slice none 0 0, Value.slice none 0 0, Value.slice none 0 0] 25) (.cells #[Value.int .i64 6, Value.int .u8 0, Value.slice none 0 0, Value.slice none 0 0, Value.slice none 0 0] 25)
  have hb4 := h3.1.trans (HB4.out.mono h3.1.size)
  have ho := HO4.out.sl
  rw [h3.2, List.length_append] at ho
  have hbF := set_below (i := 0) (j := 3) (x0 := .int .i64 5) (x1 := .slice Av (p.inter.length + 1) cv) (y0 := .int .i64 5) (y1 := .int .u8 (p.priv : Int)) (y2 := .slice Ap p.params.length cp) (y3 := .slice Av (p.inter.length + 1) cv) (y4 := .slice Au p.utf.length cu) hb4
  have hoF := set_keep (w := w) (i := 0) (j := 3) (x0 := .int .i64 5) (x1 := .slice Av (p.inter.length + 1) cv) (y0 := .int .i64 5) (y1 := .int .u8 (p.priv : Int)) (y2 := .slice Ap p.params.length cp) (y3 := .slice Av (p.inter.length + 1) cv) (y4 := .slice Au p.utf.length cu) ho (fun x hx => by have := hx.1; omega)
  refine bodyPost_ret (v := .tuple #[.agg #[.int .i64 5, .int .u8 (p.priv : Int), Value.slice Ap p.params.length cp, Value.slice Av (p.inter.length + 1) cv, Value.slice Au p.utf.length cu], .slice none 0 0]) (by simp [results, Try.results43, go_sem, e0, e1, e2, e3, e4]) rfl ⟨_, _, rfl, ⟨_, _, _, rfl, sl_old hbF HSS.out HP.out, hoF.mono (fun x hx => .inr ⟨by have := hx.1; omega, by simpa using hx.2⟩), sl_old hbF HSS.out HU.out⟩, AS.nil _ _ _, hbF⟩
end Go.Proofs.Ytbimhhcmfhooaaa
