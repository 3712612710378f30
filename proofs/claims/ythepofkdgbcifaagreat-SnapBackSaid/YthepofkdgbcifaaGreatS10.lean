/- What is proved here: parts of layer 10's proofs. -/
import Derived.Deep.LoopGhost
import Derived.Laws.CopyRow
import Derived.Laws.IdiomCopy
import Derived.Test.YthepofkdgbcifaaGreatS9
namespace Go.Proofs.YthepofkdgbcifaaGreat
open Go.RowKit
set_option linter.unusedVariables false
set_option linter.unusedSimpArgs false
set_option maxHeartbeats 2000000
set_option maxRecDepth 100000
theorem blankC_ok : cellB blankC = true := by decide
theorem getC_ok {l : List Cl} (h : ∀ x ∈ l, cellB x = true) (i : Nat) : cellB (getC l i) = true := by
 unfold getC List.getD
 cases hx : l[i]? with
 | none => exact blankC_ok
 | some x => exact h x (List.mem_of_getElem? hx)
theorem fill_ok {l : List Cl} {f : Nat → Cl} {lo hi : Nat} (h : ∀ x ∈ l, cellB x = true) (hf : ∀ i, cellB (f i) = true) : ∀ x ∈ fillL l f lo hi, cellB x = true := by
 intro x hx
 obtain ⟨i, hi2⟩ := List.mem_iff_getElem?.1 hx
 rw [fillL_get] at hi2
 split at hi2
 ·split at hi2
  ·injection hi2 with e; rw [← e]; exact hf i
  ·exact h x (List.mem_of_getElem? hi2)
 ·cases hi2
theorem upL_ok {l : List Cl} (h : ∀ x ∈ l, cellB x = true) (cols top bottom n : Int) : ∀ x ∈ upL l cols top bottom n, cellB x = true := by
 unfold upL
 split
 ·refine fill_ok h (fun i => ?_)
  unfold upF
  split
  ·exact getC_ok h _
  ·exact blankC_ok
 ·exact h
theorem downL_ok {l : List Cl} (h : ∀ x ∈ l, cellB x = true) (cols top bottom n : Int) : ∀ x ∈ downL l cols top bottom n, cellB x = true := by
 unfold downL
 split
 ·refine fill_ok h (fun i => ?_)
  unfold downF
  split
  ·exact getC_ok h _
  ·exact blankC_ok
 ·exact h
theorem mendL_ok {l : List Cl} (h : ∀ x ∈ l, cellB x = true) (cols y : Int) : ∀ x ∈ mendL l cols y, cellB x = true := by
 unfold mendL
 split
 ·refine fill_ok h (fun i => ?_)
  unfold mendF
  split
  ·exact blankC_ok
  ·exact getC_ok h _
 ·exact h
theorem insertL_ok {l : List Cl} (h : ∀ x ∈ l, cellB x = true) (cols y x n : Int) : ∀ c ∈ insertL l cols y x n, cellB c = true := by
 unfold insertL
 split
 ·refine mendL_ok (fill_ok h (fun i => ?_)) _ _
  unfold insF
  split
  ·exact getC_ok h _
  ·exact blankC_ok
 ·exact h
theorem deleteL_ok {l : List Cl} (h : ∀ x ∈ l, cellB x = true) (cols y x n : Int) : ∀ c ∈ deleteL l cols y x n, cellB c = true := by
 unfold deleteL
 split
 ·refine mendL_ok (fill_ok h (fun i => ?_)) _ _
  unfold delF
  split
  ·exact getC_ok h _
  ·exact blankC_ok
 ·exact h
theorem eraseL_ok {l : List Cl} (h : ∀ x ∈ l, cellB x = true) (cols y fr til : Int) : ∀ c ∈ eraseL l cols y fr til, cellB c = true := by
 unfold eraseL
 split
 ·exact mendL_ok (fill_ok h (fun i => blankC_ok)) _ _
 ·exact h
theorem blankL_ok (rows cols : Int) : ∀ c ∈ blankL rows cols, cellB c = true := by
 unfold blankL
 split
 ·intro c hc; rw [List.eq_of_mem_replicate hc]; exact blankC_ok
 ·intro c hc; cases hc
theorem ScIn.cells_ {s : Sc} {r c : Nat} (h : ScIn s r c) (l : List Cl) (hl : l.length = s.cells.length) (ho : ∀ x ∈ l, cellB x = true) : ScIn { s with cells := l } r c :=
 { h with g := (by show GOk l.length r c; rw [hl]; exact h.g), cells := ho }
theorem ScIn.noWrap {s : Sc} {r c : Nat} (h : ScIn s r c) : ScIn { s with wrap := false } r c := { h with wrap := (fun e => by cases e) }
theorem ScIn.at_ {s : Sc} {r c : Nat} (h : ScIn s r c) (y x : Int) (y0 : 0 ≤ y) (y1 : y < r) (x0 : 0 ≤ x) (x1 : x < c) : ScIn { s with wrap := false, y := y, x := x } r c :=
 { h with wrap := (fun e => by cases e), y0 := y0, y1 := y1, x0 := x0, x1 := x1 }
theorem downS_in {s : Sc} {r c : Nat} (h : ScIn s r c) : ScIn (downS s) r c := by
 have e1 := h.rows
 have e2 := h.y0
 have e3 := h.y1
 have e4 := h.x0
 have e5 := h.x1
 unfold downS
 split
 ·exact h.noWrap.cells_ _ (upL_len _ _ _ _ _) (upL_ok h.cells _ _ _ _)
 ·split
  ·exact h.at_ (s.y + 1) s.x (by omega) (by omega) e4 e5
  ·exact h.noWrap
theorem crS_in {s : Sc} {r c : Nat} (h : ScIn s r c) : ScIn (crS s) r c := by
 have hd := downS_in h
 have hc := hd.g.c1
 unfold crS
 have hw : (downS s).wrap = false := by
  unfold downS
  split
  ·rfl
  ·split <;> rfl
 exact { hd with wrap := (fun e => by rw [hw] at e; cases e), x0 := (Int.le_refl _), x1 := (by show (0 : Int) < c; omega) }
theorem lookT1 : (List.range 4096).all (fun a => bits BinOp.or IntKind.u16 (a : Int) 1 == (lookN a 1 : Int)) = true := by kernel_rfl
theorem lookT4 : (List.range 4096).all (fun a => bits BinOp.or IntKind.u16 (a : Int) 2 == (lookN a 4 : Int)) = true := by kernel_rfl
theorem lookT7 : (List.range 4096).all (fun a => bits BinOp.or IntKind.u16 (a : Int) 4 == (lookN a 7 : Int)) = true := by kernel_rfl
theorem lookT22 : (List.range 4096).all (fun a => bits BinOp.andNot IntKind.u16 (a : Int) 1 == (lookN a 22 : Int)) = true := by kernel_rfl
theorem lookT24 : (List.range 4096).all (fun a => bits BinOp.andNot IntKind.u16 (a : Int) 2 == (lookN a 24 : Int)) = true := by kernel_rfl
theorem lookT27 : (List.range 4096).all (fun a => bits BinOp.andNot IntKind.u16 (a : Int) 4 == (lookN a 27 : Int)) = true := by kernel_rfl
theorem lookT39 : (List.range 4096).all (fun a => bits BinOp.andNot IntKind.u16 (a : Int) 240 == (lookN a 39 : Int)) = true := by kernel_rfl
theorem lookT49 : (List.range 4096).all (fun a => bits BinOp.andNot IntKind.u16 (a : Int) 3840 == (lookN a 49 : Int)) = true := by kernel_rfl
theorem lookT30 : (List.range 4096).all (fun a => bits BinOp.or IntKind.u16 (bits BinOp.andNot IntKind.u16 (a : Int) 240) 16 == (lookN a 30 : Int)) = true := by kernel_rfl
theorem lookT31 : (List.range 4096).all (fun a => bits BinOp.or IntKind.u16 (bits BinOp.andNot IntKind.u16 (a : Int) 240) 32 == (lookN a 31 : Int)) = true := by kernel_rfl
theorem lookT32 : (List.range 4096).all (fun a => bits BinOp.or IntKind.u16 (bits BinOp.andNot IntKind.u16 (a : Int) 240) 48 == (lookN a 32 : Int)) = true := by kernel_rfl
theorem lookT33 : (List.range 4096).all (fun a => bits BinOp.or IntKind.u16 (bits BinOp.andNot IntKind.u16 (a : Int) 240) 64 == (lookN a 33 : Int)) = true := by kernel_rfl
theorem lookT34 : (List.range 4096).all (fun a => bits BinOp.or IntKind.u16 (bits BinOp.andNot IntKind.u16 (a : Int) 240) 80 == (lookN a 34 : Int)) = true := by kernel_rfl
theorem lookT35 : (List.range 4096).all (fun a => bits BinOp.or IntKind.u16 (bits BinOp.andNot IntKind.u16 (a : Int) 240) 96 == (lookN a 35 : Int)) = true := by kernel_rfl
theorem lookT36 : (List.range 4096).all (fun a => bits BinOp.or IntKind.u16 (bits BinOp.andNot IntKind.u16 (a : Int) 240) 112 == (lookN a 36 : Int)) = true := by kernel_rfl
theorem lookT37 : (List.range 4096).all (fun a => bits BinOp.or IntKind.u16 (bits BinOp.andNot IntKind.u16 (a : Int) 240) 128 == (lookN a 37 : Int)) = true := by kernel_rfl
theorem lookT40 : (List.range 4096).all (fun a => bits BinOp.or IntKind.u16 (bits BinOp.andNot IntKind.u16 (a : Int) 3840) 256 == (lookN a 40 : Int)) = true := by kernel_rfl
theorem lookT41 : (List.range 4096).all (fun a => bits BinOp.or IntKind.u16 (bits BinOp.andNot IntKind.u16 (a : Int) 3840) 512 == (lookN a 41 : Int)) = true := by kernel_rfl
theorem lookT42 : (List.range 4096).all (fun a => bits BinOp.or IntKind.u16 (bits BinOp.andNot IntKind.u16 (a : Int) 3840) 768 == (lookN a 42 : Int)) = true := by kernel_rfl
theorem lookT43 : (List.range 4096).all (fun a => bits BinOp.or IntKind.u16 (bits BinOp.andNot IntKind.u16 (a : Int) 3840) 1024 == (lookN a 43 : Int)) = true := by kernel_rfl
theorem lookT44 : (List.range 4096).all (fun a => bits BinOp.or IntKind.u16 (bits BinOp.andNot IntKind.u16 (a : Int) 3840) 1280 == (lookN a 44 : Int)) = true := by kernel_rfl
theorem lookT45 : (List.range 4096).all (fun a => bits BinOp.or IntKind.u16 (bits BinOp.andNot IntKind.u16 (a : Int) 3840) 1536 == (lookN a 45 : Int)) = true := by kernel_rfl
theorem lookT46 : (List.range 4096).all (fun a => bits BinOp.or IntKind.u16 (bits BinOp.andNot IntKind.u16 (a : Int) 3840) 1792 == (lookN a 46 : Int)) = true := by kernel_rfl
theorem lookT47 : (List.range 4096).all (fun a => bits BinOp.or IntKind.u16 (bits BinOp.andNot IntKind.u16 (a : Int) 3840) 2048 == (lookN a 47 : Int)) = true := by kernel_rfl
theorem lookU {f : Nat → Bool} (h : (List.range 4096).all f = true) (a : Nat) (ha : a < 4096) : f a = true := (List.all_eq_true.1 h) a (List.mem_range.2 ha)
def LookPost (a : Nat) (k : Int) (w : World) (e : Ending) (w' : World) : Prop := e = .returned (.int .u16 (lookN a k : Int)) ∧ w = w'
theorem lookr_0 (a : Nat) (ha : a < 4096) (w : World) : Calls Tryz.prog 108 #[.int .u16 (a : Int), .int .i64 0] w (LookPost a 0 w) := by
 go_enter Tryz.func108, Tryz.ntmps108
 go_wp2
 go_ret
 exact ⟨rfl, rfl⟩
theorem lookr_1 (a : Nat) (ha : a < 4096) (w : World) : Calls Tryz.prog 108 #[.int .u16 (a : Int), .int .i64 1] w (LookPost a 1 w) := by
 go_enter Tryz.func108, Tryz.ntmps108
 go_wp2
 go_ret
 exact ⟨congrArg (fun x => Ending.returned (.int .u16 x)) (eq_of_beq (lookU lookT1 a ha)), rfl⟩
theorem lookr_4 (a : Nat) (ha : a < 4096) (w : World) : Calls Tryz.prog 108 #[.int .u16 (a : Int), .int .i64 4] w (LookPost a 4 w) := by
 go_enter Tryz.func108, Tryz.ntmps108
 go_wp2
 go_ret
 exact ⟨congrArg (fun x => Ending.returned (.int .u16 x)) (eq_of_beq (lookU lookT4 a ha)), rfl⟩
theorem lookr_7 (a : Nat) (ha : a < 4096) (w : World) : Calls Tryz.prog 108 #[.int .u16 (a : Int), .int .i64 7] w (LookPost a 7 w) := by
 go_enter Tryz.func108, Tryz.ntmps108
 go_wp2
 go_ret
 exact ⟨congrArg (fun x => Ending.returned (.int .u16 x)) (eq_of_beq (lookU lookT7 a ha)), rfl⟩
theorem lookr_22 (a : Nat) (ha : a < 4096) (w : World) : Calls Tryz.prog 108 #[.int .u16 (a : Int), .int .i64 22] w (LookPost a 22 w) := by
 go_enter Tryz.func108, Tryz.ntmps108
 go_wp2
 go_ret
 exact ⟨congrArg (fun x => Ending.returned (.int .u16 x)) (eq_of_beq (lookU lookT22 a ha)), rfl⟩
theorem lookr_24 (a : Nat) (ha : a < 4096) (w : World) : Calls Tryz.prog 108 #[.int .u16 (a : Int), .int .i64 24] w (LookPost a 24 w) := by
 go_enter Tryz.func108, Tryz.ntmps108
 go_wp2
 go_ret
 exact ⟨congrArg (fun x => Ending.returned (.int .u16 x)) (eq_of_beq (lookU lookT24 a ha)), rfl⟩
theorem lookr_27 (a : Nat) (ha : a < 4096) (w : World) : Calls Tryz.prog 108 #[.int .u16 (a : Int), .int .i64 27] w (LookPost a 27 w) := by
 go_enter Tryz.func108, Tryz.ntmps108
 go_wp2
 go_ret
 exact ⟨congrArg (fun x => Ending.returned (.int .u16 x)) (eq_of_beq (lookU lookT27 a ha)), rfl⟩
theorem lookr_30 (a : Nat) (ha : a < 4096) (w : World) : Calls Tryz.prog 108 #[.int .u16 (a : Int), .int .i64 30] w (LookPost a 30 w) := by
 go_enter Tryz.func108, Tryz.ntmps108
 go_wp2
 go_ret
 exact ⟨congrArg (fun x => Ending.returned (.int .u16 x)) (eq_of_beq (lookU lookT30 a ha)), rfl⟩
theorem lookr_31 (a : Nat) (ha : a < 4096) (w : World) : Calls Tryz.prog 108 #[.int .u16 (a : Int), .int .i64 31] w (LookPost a 31 w) := by
 go_enter Tryz.func108, Tryz.ntmps108
 go_wp2
 go_ret
 exact ⟨congrArg (fun x => Ending.returned (.int .u16 x)) (eq_of_beq (lookU lookT31 a ha)), rfl⟩
theorem lookr_32 (a : Nat) (ha : a < 4096) (w : World) : Calls Tryz.prog 108 #[.int .u16 (a : Int), .int .i64 32] w (LookPost a 32 w) := by
 go_enter Tryz.func108, Tryz.ntmps108
 go_wp2
 go_ret
 exact ⟨congrArg (fun x => Ending.returned (.int .u16 x)) (eq_of_beq (lookU lookT32 a ha)), rfl⟩
theorem lookr_33 (a : Nat) (ha : a < 4096) (w : World) : Calls Tryz.prog 108 #[.int .u16 (a : Int), .int .i64 33] w (LookPost a 33 w) := by
 go_enter Tryz.func108, Tryz.ntmps108
 go_wp2
 go_ret
 exact ⟨congrArg (fun x => Ending.returned (.int .u16 x)) (eq_of_beq (lookU lookT33 a ha)), rfl⟩
theorem lookr_34 (a : Nat) (ha : a < 4096) (w : World) : Calls Tryz.prog 108 #[.int .u16 (a : Int), .int .i64 34] w (LookPost a 34 w) := by
 go_enter Tryz.func108, Tryz.ntmps108
 go_wp2
 go_ret
 exact ⟨congrArg (fun x => Ending.returned (.int .u16 x)) (eq_of_beq (lookU lookT34 a ha)), rfl⟩
theorem lookr_35 (a : Nat) (ha : a < 4096) (w : World) : Calls Tryz.prog 108 #[.int .u16 (a : Int), .int .i64 35] w (LookPost a 35 w) := by
 go_enter Tryz.func108, Tryz.ntmps108
 go_wp2
 go_ret
 exact ⟨congrArg (fun x => Ending.returned (.int .u16 x)) (eq_of_beq (lookU lookT35 a ha)), rfl⟩
theorem lookr_36 (a : Nat) (ha : a < 4096) (w : World) : Calls Tryz.prog 108 #[.int .u16 (a : Int), .int .i64 36] w (LookPost a 36 w) := by
 go_enter Tryz.func108, Tryz.ntmps108
 go_wp2
 go_ret
 exact ⟨congrArg (fun x => Ending.returned (.int .u16 x)) (eq_of_beq (lookU lookT36 a ha)), rfl⟩
theorem lookr_37 (a : Nat) (ha : a < 4096) (w : World) : Calls Tryz.prog 108 #[.int .u16 (a : Int), .int .i64 37] w (LookPost a 37 w) := by
 go_enter Tryz.func108, Tryz.ntmps108
 go_wp2
 go_ret
 exact ⟨congrArg (fun x => Ending.returned (.int .u16 x)) (eq_of_beq (lookU lookT37 a ha)), rfl⟩
theorem lookr_39 (a : Nat) (ha : a < 4096) (w : World) : Calls Tryz.prog 108 #[.int .u16 (a : Int), .int .i64 39] w (LookPost a 39 w) := by
 go_enter Tryz.func108, Tryz.ntmps108
 go_wp2
 go_ret
 exact ⟨congrArg (fun x => Ending.returned (.int .u16 x)) (eq_of_beq (lookU lookT39 a ha)), rfl⟩
theorem lookr_40 (a : Nat) (ha : a < 4096) (w : World) : Calls Tryz.prog 108 #[.int .u16 (a : Int), .int .i64 40] w (LookPost a 40 w) := by
 go_enter Tryz.func108, Tryz.ntmps108
 go_wp2
 go_ret
 exact ⟨congrArg (fun x => Ending.returned (.int .u16 x)) (eq_of_beq (lookU lookT40 a ha)), rfl⟩
theorem lookr_41 (a : Nat) (ha : a < 4096) (w : World) : Calls Tryz.prog 108 #[.int .u16 (a : Int), .int .i64 41] w (LookPost a 41 w) := by
 go_enter Tryz.func108, Tryz.ntmps108
 go_wp2
 go_ret
 exact ⟨congrArg (fun x => Ending.returned (.int .u16 x)) (eq_of_beq (lookU lookT41 a ha)), rfl⟩
theorem lookr_42 (a : Nat) (ha : a < 4096) (w : World) : Calls Tryz.prog 108 #[.int .u16 (a : Int), .int .i64 42] w (LookPost a 42 w) := by
 go_enter Tryz.func108, Tryz.ntmps108
 go_wp2
 go_ret
 exact ⟨congrArg (fun x => Ending.returned (.int .u16 x)) (eq_of_beq (lookU lookT42 a ha)), rfl⟩
theorem lookr_43 (a : Nat) (ha : a < 4096) (w : World) : Calls Tryz.prog 108 #[.int .u16 (a : Int), .int .i64 43] w (LookPost a 43 w) := by
 go_enter Tryz.func108, Tryz.ntmps108
 go_wp2
 go_ret
 exact ⟨congrArg (fun x => Ending.returned (.int .u16 x)) (eq_of_beq (lookU lookT43 a ha)), rfl⟩
theorem lookr_44 (a : Nat) (ha : a < 4096) (w : World) : Calls Tryz.prog 108 #[.int .u16 (a : Int), .int .i64 44] w (LookPost a 44 w) := by
 go_enter Tryz.func108, Tryz.ntmps108
 go_wp2
 go_ret
 exact ⟨congrArg (fun x => Ending.returned (.int .u16 x)) (eq_of_beq (lookU lookT44 a ha)), rfl⟩
theorem lookr_45 (a : Nat) (ha : a < 4096) (w : World) : Calls Tryz.prog 108 #[.int .u16 (a : Int), .int .i64 45] w (LookPost a 45 w) := by
 go_enter Tryz.func108, Tryz.ntmps108
 go_wp2
 go_ret
 exact ⟨congrArg (fun x => Ending.returned (.int .u16 x)) (eq_of_beq (lookU lookT45 a ha)), rfl⟩
theorem lookr_46 (a : Nat) (ha : a < 4096) (w : World) : Calls Tryz.prog 108 #[.int .u16 (a : Int), .int .i64 46] w (LookPost a 46 w) := by
 go_enter Tryz.func108, Tryz.ntmps108
 go_wp2
 go_ret
 exact ⟨congrArg (fun x => Ending.returned (.int .u16 x)) (eq_of_beq (lookU lookT46 a ha)), rfl⟩
theorem lookr_47 (a : Nat) (ha : a < 4096) (w : World) : Calls Tryz.prog 108 #[.int .u16 (a : Int), .int .i64 47] w (LookPost a 47 w) := by
 go_enter Tryz.func108, Tryz.ntmps108
 go_wp2
 go_ret
 exact ⟨congrArg (fun x => Ending.returned (.int .u16 x)) (eq_of_beq (lookU lookT47 a ha)), rfl⟩
theorem lookr_49 (a : Nat) (ha : a < 4096) (w : World) : Calls Tryz.prog 108 #[.int .u16 (a : Int), .int .i64 49] w (LookPost a 49 w) := by
 go_enter Tryz.func108, Tryz.ntmps108
 go_wp2
 go_ret
 exact ⟨congrArg (fun x => Ending.returned (.int .u16 x)) (eq_of_beq (lookU lookT49 a ha)), rfl⟩
theorem lookr_no (a : Nat) (k : Int) (w : World) (hn : ¬ (k = 0 ∨ k = 1 ∨ k = 4 ∨ k = 7 ∨ k = 22 ∨ k = 24 ∨ k = 27 ∨ (30 ≤ k ∧ k ≤ 37) ∨ k = 39 ∨ (40 ≤ k ∧ k ≤ 47) ∨ k = 49)) : Calls Tryz.prog 108 #[.int .u16 (a : Int), .int .i64 k] w (LookPost a k w) := by
 have hl : lookN a k = a := by
  unfold lookN
  rw [if_neg (by omega), if_neg (by omega), if_neg (by omega), if_neg (by omega), if_neg (by omega), if_neg (by omega), if_neg (by omega), if_neg (by omega), if_neg (by omega), if_neg (by omega), if_neg (by omega)]
 have n0 : (k == 0) = false := by simp; omega
 have n1 : (k == 1) = false := by simp; omega
 have n4 : (k == 4) = false := by simp; omega
 have n7 : (k == 7) = false := by simp; omega
 have n22 : (k == 22) = false := by simp; omega
 have n24 : (k == 24) = false := by simp; omega
 have n27 : (k == 27) = false := by simp; omega
 have n39 : (k == 39) = false := by simp; omega
 have n49 : (k == 49) = false := by simp; omega
 have HL := Lh hl
 have m1 : k < 30 ∨ (38 ≤ k ∧ k < 40) ∨ 48 ≤ k := by omega
 clear hl hn
 rcases m1 with m | ⟨m, m2⟩ | m
 ·go_enter Tryz.func108, Tryz.ntmps108
  go_wp2
  go_ret
  exact ⟨by rw [HL.out]; rfl, rfl⟩
 ·have m3 : 30 ≤ k := by omega
  have m4 : ¬ k ≤ 37 := by omega
  go_enter Tryz.func108, Tryz.ntmps108
  go_wp2
  go_ret
  exact ⟨by rw [HL.out]; rfl, rfl⟩
 ·have m3 : 30 ≤ k := by omega
  have m4 : ¬ k ≤ 37 := by omega
  have m5 : 40 ≤ k := by omega
  have m6 : ¬ k ≤ 47 := by omega
  go_enter Tryz.func108, Tryz.ntmps108
  go_wp2
  go_ret
  exact ⟨by rw [HL.out]; rfl, rfl⟩
theorem lookr_any (a : Nat) (k : Int) (ha : a < 4096) (w : World) : Calls Tryz.prog 108 #[.int .u16 (a : Int), .int .i64 k] w (LookPost a k w) := by
 by_cases h0 : k = 0
 ·subst h0; exact lookr_0 a ha w
 by_cases h1 : k = 1
 ·subst h1; exact lookr_1 a ha w
 by_cases h4 : k = 4
 ·subst h4; exact lookr_4 a ha w
 by_cases h7 : k = 7
 ·subst h7; exact lookr_7 a ha w
 by_cases h22 : k = 22
 ·subst h22; exact lookr_22 a ha w
 by_cases h24 : k = 24
 ·subst h24; exact lookr_24 a ha w
 by_cases h27 : k = 27
 ·subst h27; exact lookr_27 a ha w
 by_cases h30 : k = 30
 ·subst h30; exact lookr_30 a ha w
 by_cases h31 : k = 31
 ·subst h31; exact lookr_31 a ha w
 by_cases h32 : k = 32
 ·subst h32; exact lookr_32 a ha w
 by_cases h33 : k = 33
 ·subst h33; exact lookr_33 a ha w
 by_cases h34 : k = 34
 ·subst h34; exact lookr_34 a ha w
 by_cases h35 : k = 35
 ·subst h35; exact lookr_35 a ha w
 by_cases h36 : k = 36
 ·subst h36; exact lookr_36 a ha w
 by_cases h37 : k = 37
 ·subst h37; exact lookr_37 a ha w
 by_cases h39 : k = 39
 ·subst h39; exact lookr_39 a ha w
 by_cases h40 : k = 40
 ·subst h40; exact lookr_40 a ha w
 by_cases h41 : k = 41
 ·subst h41; exact lookr_41 a ha w
 by_cases h42 : k = 42
 ·subst h42; exact lookr_42 a ha w
 by_cases h43 : k = 43
 ·subst h43; exact lookr_43 a ha w
 by_cases h44 : k = 44
 ·subst h44; exact lookr_44 a ha w
 by_cases h45 : k = 45
 ·subst h45; exact lookr_45 a ha w
 by_cases h46 : k = 46
 ·subst h46; exact lookr_46 a ha w
 by_cases h47 : k = 47
 ·subst h47; exact lookr_47 a ha w
 by_cases h49 : k = 49
 ·subst h49; exact lookr_49 a ha w
 exact lookr_no a k w (by omega)
theorem lookN_ok (a : Nat) (k : Int) (h : attrB a = true) : attrB (lookN a k) = true := by
 simp only [attrB, Bool.and_eq_true, decide_eq_true_eq] at h ⊢
 unfold lookN
 repeat' split
 all_goals omega
theorem attrB_lt {a : Nat} (h : attrB a = true) : a < 4096 := by
 simp only [attrB, Bool.and_eq_true, decide_eq_true_eq] at h
 omega
theorem GOk.mk' {r c : Nat} (r1 : 1 ≤ r) (r2 : r ≤ 1000) (c1 : 1 ≤ c) (c2 : c ≤ 1000) : GOk (r * c) r c := ⟨c1, c2, r1, r2, rfl⟩
theorem blankL_len (r c : Nat) (r1 : 1 ≤ r) (r2 : r ≤ 1000) (c1 : 1 ≤ c) (c2 : c ≤ 1000) : (blankL (r : Int) (c : Int)).length = r * c := by
 unfold blankL
 rw [if_pos (by unfold sizeOk; rw [decide_eq_true_eq]; omega)]
 simp
theorem newS_in (r c : Nat) (r1 : 1 ≤ r) (r2 : r ≤ 1000) (c1 : 1 ≤ c) (c2 : c ≤ 1000) : ScIn (newS r c) r c where
 rows := rfl
 cols := rfl
 g := by show GOk (blankL (r : Int) (c : Int)).length r c; rw [blankL_len r c r1 r2 c1 c2]; exact GOk.mk' r1 r2 c1 c2
 cells := blankL_ok _ _
 y0 := Int.le_refl _
 y1 := by show (0 : Int) < r; omega
 x0 := Int.le_refl _
 x1 := by show (0 : Int) < c; omega
 wrap := fun e => by cases e
 attr := (by show attrB 0 = true; decide)
 t0 := Int.le_refl _
 t1 := by show (0 : Int) ≤ (r : Int) - 1; omega
 b1 := by show (r : Int) - 1 < r; omega
 tb := by show (0 : Int) < (r : Int) - 1 ∨ r = 1; omega
 tabs := by show (newTabs (c : Int).toNat).length = c; simp [newTabs]
 sy0 := Int.le_refl _
 sy1 := by show (0 : Int) < r; omega
 sx0 := Int.le_refl _
 sx1 := by show (0 : Int) < c; omega
 sattr := (by show attrB 0 = true; decide)
 other := fun e => by cases e
 noAlt := fun _ => ⟨rfl, rfl, rfl⟩
 oy0 := Int.le_refl _
 oy1 := by show (0 : Int) < r; omega
 ox0 := Int.le_refl _
 ox1 := by show (0 : Int) < c; omega
 p := prM_ok 0 (by omega) (by omega) (by omega)
theorem toS_in {s : Sc} {r c : Nat} (h : ScIn s r c) (y x : Int) : ScIn (toS s y x) r c := by
 have e1 := h.rows
 have e2 := h.cols
 have e3 := h.g.r1
 have e4 := h.g.c1
 exact h.at_ _ _ (by omega) (by omega) (by omega) (by omega)
theorem tabX_bd {s : Sc} {r c : Nat} (h : ScIn s r c) : 0 ≤ tabX s ∧ tabX s < c := by
 have e2 := h.cols
 have e4 := h.g.c1
 unfold tabX
 omega
theorem controlS_in {s : Sc} {r c : Nat} (h : ScIn s r c) (b : Nat) : ScIn (controlS s b) r c := by
 have x0 := h.x0
 have x1 := h.x1
 have y0 := h.y0
 have y1 := h.y1
 have c1 := h.g.c1
 have ht := tabX_bd h
 unfold controlS
 split
 ·exact { h with wrap := (fun e => by cases e), x0 := (by show 0 ≤ max (s.x - 1) 0; omega), x1 := (by show max (s.x - 1) 0 < (c : Int); omega) }
 split
 ·exact { h with wrap := (fun e => by cases e), x0 := ht.1, x1 := ht.2 }
 split
 ·exact downS_in h
 split
 ·exact { h with wrap := (fun e => by cases e), x0 := Int.le_refl _, x1 := (by show (0 : Int) < c; omega) }
 ·exact h
theorem escapeS_in {s : Sc} {r c : Nat} (h : ScIn s r c) (b : Nat) : ScIn (escapeS s b) r c := by
 have y0 := h.y0
 have y1 := h.y1
 unfold escapeS
 split
 ·exact { h with sy0 := h.y0, sy1 := h.y1, sx0 := h.x0, sx1 := h.x1, sattr := h.attr }
 split
 ·exact { h with wrap := (fun e => by cases e), y0 := h.sy0, y1 := h.sy1, x0 := h.sx0, x1 := h.sx1, attr := h.sattr }
 split
 ·exact downS_in h
 split
 ·exact crS_in h
 split
 ·split
  ·exact h.noWrap.cells_ _ (downL_len _ _ _ _ _) (downL_ok h.cells _ _ _ _)
  ·split
   ·exact { h with wrap := (fun e => by cases e), y0 := (by show 0 ≤ s.y - 1; omega), y1 := (by show s.y - 1 < (r : Int); omega) }
   ·exact h.noWrap
 split
 ·exact { h with tabs := (by show (s.tabs.set s.x.toNat true).length = c; rw [List.length_set]; exact h.tabs) }
 split
 ·rw [h.rows, h.cols]
  exact newS_in r c h.g.r1 h.g.r2 h.g.c1 h.g.c2
 ·exact h
theorem modeS_in {s : Sc} {r c : Nat} (h : ScIn s r c) (k : Int) (on : Bool) : ScIn (modeS s k on) r c := by
 have e3 := h.g.r1
 have e4 := h.g.c1
 unfold modeS
 split
 ·exact { h with }
 split
 ·exact { h with }
 split
 ·have hb : (blankL s.rows s.cols).length = r * c := by rw [h.rows, h.cols]; exact blankL_len r c h.g.r1 h.g.r2 h.g.c1 h.g.c2
  exact { h with g := (by show GOk (blankL s.rows s.cols).length r c; rw [hb]; exact GOk.mk' h.g.r1 h.g.r2 h.g.c1 h.g.c2), cells := blankL_ok _ _, wrap := (fun e => by cases e), other := (fun _ => ⟨h.g, h.cells⟩), noAlt := (fun e => by cases e), oy0 := h.y0, oy1 := h.y1, ox0 := h.x0, ox1 := h.x1 }
 split
 ·rename_i hc
  have ho := h.other hc.2.2
  exact { h with g := ho.1, cells := ho.2, y0 := h.oy0, y1 := h.oy1, x0 := h.ox0, x1 := h.ox1, wrap := (fun e => by cases e), other := (fun e => by cases e), noAlt := (fun _ => ⟨rfl, rfl, rfl⟩), oy0 := Int.le_refl _, oy1 := (by show (0 : Int) < r; omega), ox0 := Int.le_refl _, ox1 := (by show (0 : Int) < c; omega) }
 ·exact h
theorem eraseS_in {s : Sc} {r c : Nat} (h : ScIn s r c) (row : Bool) (k : Int) : ScIn (eraseS s row k) r c := by
 unfold eraseS
 split
 ·exact h.noWrap
 ·exact h.noWrap.cells_ _ (by rw [mendL_len, fillL_len]) (mendL_ok (fill_ok h.cells (fun _ => blankC_ok)) _ _)
theorem foldl_look_ok (l : List Int) (a : Nat) (h : attrB a = true) : attrB (l.foldl lookN a) = true := by
 induction l generalizing a with
 | nil => exact h
 | cons x l ih => exact ih _ (lookN_ok a x h)
theorem paramL_one (l : List Int) (h : ∀ x ∈ l, 0 ≤ x ∧ x ≤ 65535) : 1 ≤ paramL l 0 1 := by
 unfold paramL
 split
 ·exact Int.le_refl _
 ·rename_i hne
  have hm : 0 ≤ l.getD 0 0 := by
   unfold List.getD
   cases hx : l[0]? with
   | none => exact Int.le_refl _
   | some x => exact (h x (List.mem_of_getElem? hx)).1
  omega
theorem seqS_in {s : Sc} {r c : Nat} (h : ScIn s r c) (b : Nat) (l : List Int) (hl : ∀ x ∈ l, 0 ≤ x ∧ x ≤ 65535) : ScIn (seqS s b l) r c := by
 have n1 := paramL_one l hl
 have rr := h.rows
 have c1 := h.g.c1
 have x0 := h.x0
 unfold seqS
 dsimp only
 by_cases c101 : b = 65
 ·rw [if_pos c101]
  exact toS_in h _ _
 rw [if_neg c101]
 by_cases c102 : b = 66
 ·rw [if_pos c102]
  exact toS_in h _ _
 rw [if_neg c102]
 by_cases c103 : b = 67
 ·rw [if_pos c103]
  exact toS_in h _ _
 rw [if_neg c103]
 by_cases c104 : b = 68
 ·rw [if_pos c104]
  exact toS_in h _ _
 rw [if_neg c104]
 by_cases c105 : b = 71 ∨ b = 96
 ·rw [if_pos c105]
  exact toS_in h _ _
 rw [if_neg c105]
 by_cases c106 : b = 100
 ·rw [if_pos c106]
  exact toS_in h _ _
 rw [if_neg c106]
 by_cases c107 : b = 72 ∨ b = 102
 ·rw [if_pos c107]
  exact toS_in h _ _
 rw [if_neg c107]
 by_cases c108 : b = 74
 ·rw [if_pos c108]
  exact eraseS_in h _ _
 rw [if_neg c108]
 by_cases c109 : b = 75
 ·rw [if_pos c109]
  exact eraseS_in h _ _
 rw [if_neg c109]
 by_cases c110 : b = 76
 ·rw [if_pos c110]
  by_cases hy : s.top ≤ s.y ∧ s.y ≤ s.bottom
  ·rw [if_pos hy]
   exact { h.cells_ _ (downL_len s.cells s.cols s.y s.bottom (paramL l 0 1)) (downL_ok h.cells _ _ _ _) with wrap := (fun e => by cases e), x0 := Int.le_refl _, x1 := (by show (0 : Int) < c; omega) }
  ·rw [if_neg hy]; exact h.noWrap
 rw [if_neg c110]
 by_cases c111 : b = 77
 ·rw [if_pos c111]
  by_cases hy : s.top ≤ s.y ∧ s.y ≤ s.bottom
  ·rw [if_pos hy]
   exact { h.cells_ _ (upL_len s.cells s.cols s.y s.bottom (paramL l 0 1)) (upL_ok h.cells _ _ _ _) with wrap := (fun e => by cases e), x0 := Int.le_refl _, x1 := (by show (0 : Int) < c; omega) }
  ·rw [if_neg hy]; exact h.noWrap
 rw [if_neg c111]
 by_cases c112 : b = 64
 ·rw [if_pos c112]
  exact h.noWrap.cells_ _ (insertL_len _ _ _ _ _) (insertL_ok h.cells _ _ _ _)
 rw [if_neg c112]
 by_cases c113 : b = 80
 ·rw [if_pos c113]
  exact h.noWrap.cells_ _ (deleteL_len _ _ _ _ _) (deleteL_ok h.cells _ _ _ _)
 rw [if_neg c113]
 by_cases c114 : b = 88
 ·rw [if_pos c114]
  exact h.noWrap.cells_ _ (eraseL_len _ _ _ _ _) (eraseL_ok h.cells _ _ _ _)
 rw [if_neg c114]
 by_cases c115 : b = 83
 ·rw [if_pos c115]
  exact h.noWrap.cells_ _ (upL_len _ _ _ _ _) (upL_ok h.cells _ _ _ _)
 rw [if_neg c115]
 by_cases c116 : b = 84
 ·rw [if_pos c116]
  exact h.noWrap.cells_ _ (downL_len _ _ _ _ _) (downL_ok h.cells _ _ _ _)
 rw [if_neg c116]
 by_cases c117 : b = 114
 ·rw [if_pos c117]
  by_cases hc : paramL l 0 1 - 1 < min (paramL l 1 s.rows) s.rows - 1
  ·rw [if_pos hc]
   have ht := toS_in h 0 0
   exact { ht with t0 := (by show 0 ≤ paramL l 0 1 - 1; omega), t1 := (by show paramL l 0 1 - 1 ≤ min (paramL l 1 s.rows) s.rows - 1; omega), b1 := (by show min (paramL l 1 s.rows) s.rows - 1 < (r : Int); omega), tb := (.inl hc) }
  ·rw [if_neg hc]; exact h
 rw [if_neg c117]
 by_cases c118 : b = 103
 ·rw [if_pos c118]
  by_cases g0 : paramL l 0 0 = 0
  ·rw [if_pos g0]
   exact { h with tabs := (by show (s.tabs.set s.x.toNat false).length = c; rw [List.length_set]; exact h.tabs) }
  rw [if_neg g0]
  by_cases g3 : paramL l 0 0 = 3
  ·rw [if_pos g3]
   exact { h with tabs := (by show (List.replicate s.cols.toNat false).length = c; rw [List.length_replicate, h.cols]; simp) }
  rw [if_neg g3]
  exact h
 rw [if_neg c118]
 by_cases c119 : b = 109
 ·rw [if_pos c119]
  refine { h with attr := ?_ }
  show attrB (if l.length = 0 then 0 else l.foldl lookN s.attr) = true
  by_cases hl0 : l.length = 0
  ·rw [if_pos hl0]; decide
  ·rw [if_neg hl0]; exact foldl_look_ok l s.attr h.attr
 rw [if_neg c119]
 exact h
theorem set_ok {l : List Cl} (h : ∀ x ∈ l, cellB x = true) (i : Nat) (c : Cl) (hc : cellB c = true) : ∀ x ∈ l.set i c, cellB x = true := fun x hx => by
 rcases List.mem_or_eq_of_mem_set hx with h1 | h1
 ·exact h x h1
 ·rw [h1]; exact hc
theorem putS_in {s : Sc} {r c : Nat} (h : ScIn s r c) (rn : Int) (w : Int) (hw : w = 1 ∨ (w = 2 ∧ s.x + 1 < s.cols)) (hr : mayR rn = true) (hr0 : rn ≠ 0) : ScIn (putS s rn w) r c := by
 have x0 := h.x0
 have x1 := h.x1
 have e2 := h.cols
 have c1 := h.g.c1
 have ha := h.attr
 have hc1 : ∀ x ∈ cells1 s rn, cellB x = true := set_ok h.cells _ _ (by unfold cellB; simp [hr, ha, hr0])
 have hc2 : ∀ x ∈ cells2 s rn, cellB x = true := set_ok (set_ok h.cells _ _ (by unfold cellB; simp [hr, ha, hr0])) _ _ (by unfold cellB; simp [ha]; decide)
 have hl1 : (cells1 s rn).length = s.cells.length := by simp [cells1]
 have hl2 : (cells2 s rn).length = s.cells.length := by simp [cells2]
 have hcs : ScIn { s with cells := mendL (if w = 2 then cells2 s rn else cells1 s rn) s.cols s.y } r c := by
  by_cases h2 : w = 2
  ·rw [if_pos h2]; exact h.cells_ _ (by rw [mendL_len, hl2]) (mendL_ok hc2 _ _)
  ·rw [if_neg h2]; exact h.cells_ _ (by rw [mendL_len, hl1]) (mendL_ok hc1 _ _)
 unfold putS
 by_cases he : s.cols ≤ s.x + w
 ·rw [if_pos he]
  exact { hcs with wrap := (fun _ => by show s.cols - 1 = (c : Int) - 1; omega), x0 := (by show 0 ≤ s.cols - 1; omega), x1 := (by show s.cols - 1 < (c : Int); omega) }
 ·rw [if_neg he]
  have hnw : s.wrap = true → False := fun e => by have := h.wrap e; omega
  exact { hcs with wrap := (fun e => (hnw e).elim), x0 := (by show 0 ≤ s.x + w; omega), x1 := (by show s.x + w < (c : Int); omega) }
theorem minmax_if (y m : Int) : (if m < (if y < 0 then 0 else y) then m else (if y < 0 then 0 else y)) = min (max y 0) m := by
 by_cases h : y < 0
 ·simp only [h, if_true]
  split <;> omega
 ·simp only [h, if_false]
  split <;> omega
theorem tor_any (v : Value) (s : Sc) (y x : Int) (S : Nat → Prop) (w : World) (hS : ∀ x, S x → x < w.heap.size) (h : SCV w S v s) (hr1 : 1 ≤ s.rows) (hr2 : s.rows ≤ 1000) (hc1 : 1 ≤ s.cols) (hc2 : s.cols ≤ 1000) : Calls Tryz.prog 102 #[v, .int .i64 y, .int .i64 x] w (ScPost S (toS s y x) w) := by
 have HSS := Lh hS
 clear hS
 obtain ⟨vc, vt, vo, vp, vi, vu, rfl, hs⟩ := h
 have HS := Lh hs
 obtain ⟨g1, g2, g3, g4, g5, g6⟩ := hs
 obtain ⟨A1, k1, rfl, p1, q1⟩ := g1.form
 obtain ⟨A2, k2, rfl, p2, q2⟩ := g2.form
 obtain ⟨A3, k3, rfl, p3, q3⟩ := g3.form
 obtain ⟨A4, k4, rfl, p4, q4⟩ := g4.form
 obtain ⟨A5, k5, rfl, p5, q5⟩ := g5.form
 obtain ⟨A6, k6, rfl, p6, q6⟩ := g6.form
 clear g1 g2 g3 g4 g5 g6
 unfold toS
 go_enter Tryz.func102, Tryz.ntmps102
 go_upto_region 2 with fail
 rw [minmax_if, minmax_if]
 generalize (if y < 0 then 0 else y) = qy
 generalize (if x < 0 then 0 else x) = qx
 refine wp_region_lit ?_
 refine wpl_loadS rfl (.tmp 3) rfl rfl (heap_a1 w _ _) rfl ?_
 refine wpl_storeS rfl (.tmp 6) (.tmp 22) rfl rfl rfl (heap_a2 w _ _) rfl rfl all25 ?_
 go_wp2
 refine scEnd (w.heap.size + 1) 6 Tryz.results102 ?_ ?_ (heap_a2 w _ _) (by omega) (two_new w _ _).1 HSS.out (HS.out.like ?_ ?_ ?_ ?_)
 all_goals rfl
theorem paramr_any (v : Value) (l : List Int) (i : Nat) (u : Int) (S : Nat → Prop) (w : World) (h : SL vI w S v l) (hl : l.length ≤ 1048576) (hi : i < 1000) : Calls Tryz.prog 101 #[v, .int .i64 (i : Int), .int .i64 u] w fun e w' => e = .returned (.int .i64 (paramL l i u)) ∧ w = w' := by
 obtain ⟨A, c, rfl, h1, h2⟩ := h.form
 have H := Lh h
 clear h
 by_cases hlt : i < l.length
 ·obtain ⟨x, hx⟩ : ∃ x, l[i]? = some x := ⟨_, List.getElem?_eq_getElem hlt⟩
  have hg : l.getD i 0 = x := by simp [List.getD, hx]
  obtain ⟨A', c', hv, _, _, h3⟩ := H.out
  simp only [Value.slice.injEq] at hv
  obtain ⟨ad, hA, _, hcell⟩ := h3 (by omega)
  have e1 := hcell i x hx
  rw [← hv.1] at hA
  subst hA
  unfold vI at e1
  have HG := Lh hg
  clear hcell hg hx hv h3
  by_cases hz : x = 0
  ·subst hz
   go_enter Tryz.func101, Tryz.ntmps101
   go_wp2
   go_ret
   exact ⟨by unfold paramL; rw [HG.out]; rfl, rfl⟩
  ·have hz1 : (x == 0) = false := by simpa using hz
   go_enter Tryz.func101, Tryz.ntmps101
   go_wp2
   go_ret
   exact ⟨by unfold paramL; rw [HG.out, if_neg hz]; rfl, rfl⟩
 ·have hg : l.getD i 0 = 0 := by simp [List.getD, List.getElem?_eq_none (show l.length ≤ i by omega)]
  have HG := Lh hg
  clear hg
  go_enter Tryz.func101, Tryz.ntmps101
  go_wp2
  go_ret
  exact ⟨by unfold paramL; rw [HG.out]; rfl, rfl⟩
theorem Blank_any (rows cols : Int) (w : World) (h : sizeOk rows cols = true) : Calls Tryz.prog 40 #[.int .i64 rows, .int .i64 cols] w (CellsPost (blankL rows cols) w) := by
 unfold blankL
 rw [if_pos h]
 unfold sizeOk at h
 rw [decide_eq_true_eq] at h
 obtain ⟨r, rfl⟩ : ∃ r : Nat, rows = r := ⟨rows.toNat, by omega⟩
 obtain ⟨c, rfl⟩ : ∃ c : Nat, cols = c := ⟨cols.toNat, by omega⟩
 simp only [Int.toNat_natCast]
 exact Blank_yes r c w (by omega) (by omega) (by omega) (by omega)
theorem sizeOk_mk {rows cols : Int} (h1 : 1 ≤ rows) (h2 : rows ≤ 1000) (h3 : 1 ≤ cols) (h4 : cols ≤ 1000) : sizeOk rows cols = true := by
 unfold sizeOk
 rw [decide_eq_true_eq]
 exact ⟨h1, h2, h3, h4⟩
theorem moder_7 (v : Value) (s : Sc) (k : Int) (on : Bool) (S : Nat → Prop) (w : World) (hS : ∀ x, S x → x < w.heap.size) (h : SCV w S v s) (hk : k = 7) : Calls Tryz.prog 75 #[v, .int .i64 k, .bool on] w (ScPost S { s with auto := on } w) := by
 have HSS := Lh hS
 clear hS
 obtain ⟨vc, vt, vo, vp, vi, vu, rfl, hs⟩ := h
 have HS := Lh hs
 obtain ⟨g1, g2, g3, g4, g5, g6⟩ := hs
 obtain ⟨A1, k1, rfl, p1, q1⟩ := g1.form
 obtain ⟨A2, k2, rfl, p2, q2⟩ := g2.form
 obtain ⟨A3, k3, rfl, p3, q3⟩ := g3.form
 obtain ⟨A4, k4, rfl, p4, q4⟩ := g4.form
 obtain ⟨A5, k5, rfl, p5, q5⟩ := g5.form
 obtain ⟨A6, k6, rfl, p6, q6⟩ := g6.form
 clear g1 g2 g3 g4 g5 g6
 subst hk
 go_enter Tryz.func75, Tryz.ntmps75
 go_upto_region 11 with fail
 refine wp_region_lit ?_
 refine wpl_loadS rfl (.tmp 3) rfl rfl (heap_a1 w _ _) rfl ?_
 refine wpl_storeS rfl (.tmp 6) (.tmp 70) rfl rfl rfl (heap_a2 w _ _) rfl rfl all25 ?_
 go_wp2
 refine scEnd (w.heap.size + 1) 6 Tryz.results75 ?_ ?_ (heap_a2 w _ _) (by omega) (two_new w _ _).1 HSS.out (HS.out.like ?_ ?_ ?_ ?_)
 all_goals rfl
theorem moder_25 (v : Value) (s : Sc) (k : Int) (on : Bool) (S : Nat → Prop) (w : World) (hS : ∀ x, S x → x < w.heap.size) (h : SCV w S v s) (hk : k = 25) : Calls Tryz.prog 75 #[v, .int .i64 k, .bool on] w (ScPost S { s with shown := on } w) := by
 have HSS := Lh hS
 clear hS
 obtain ⟨vc, vt, vo, vp, vi, vu, rfl, hs⟩ := h
 have HS := Lh hs
 obtain ⟨g1, g2, g3, g4, g5, g6⟩ := hs
 obtain ⟨A1, k1, rfl, p1, q1⟩ := g1.form
 obtain ⟨A2, k2, rfl, p2, q2⟩ := g2.form
 obtain ⟨A3, k3, rfl, p3, q3⟩ := g3.form
 obtain ⟨A4, k4, rfl, p4, q4⟩ := g4.form
 obtain ⟨A5, k5, rfl, p5, q5⟩ := g5.form
 obtain ⟨A6, k6, rfl, p6, q6⟩ := g6.form
 clear g1 g2 g3 g4 g5 g6
 subst hk
 go_enter Tryz.func75, Tryz.ntmps75
 go_upto_region 11 with fail
 refine wp_region_lit ?_
 refine wpl_loadS rfl (.tmp 3) rfl rfl (heap_a1 w _ _) rfl ?_
 refine wpl_storeS rfl (.tmp 6) (.tmp 70) rfl rfl rfl (heap_a2 w _ _) rfl rfl all25 ?_
 go_wp2
 refine scEnd (w.heap.size + 1) 6 Tryz.results75 ?_ ?_ (heap_a2 w _ _) (by omega) (two_new w _ _).1 HSS.out (HS.out.like ?_ ?_ ?_ ?_)
 all_goals rfl
theorem moder_no (v : Value) (s : Sc) (k : Int) (on : Bool) (S : Nat → Prop) (w : World) (hS : ∀ x, S x → x < w.heap.size) (h : SCV w S v s) (k7 : ¬ k = 7) (k25 : ¬ k = 25) (k1049 : ¬ k = 1049) : Calls Tryz.prog 75 #[v, .int .i64 k, .bool on] w (ScPost S s w) := by
 have HSS := Lh hS
 clear hS
 obtain ⟨vc, vt, vo, vp, vi, vu, rfl, hs⟩ := h
 have HS := Lh hs
 obtain ⟨g1, g2, g3, g4, g5, g6⟩ := hs
 obtain ⟨A1, k1, rfl, p1, q1⟩ := g1.form
 obtain ⟨A2, k2, rfl, p2, q2⟩ := g2.form
 obtain ⟨A3, k3, rfl, p3, q3⟩ := g3.form
 obtain ⟨A4, k4, rfl, p4, q4⟩ := g4.form
 obtain ⟨A5, k5, rfl, p5, q5⟩ := g5.form
 obtain ⟨A6, k6, rfl, p6, q6⟩ := g6.form
 clear g1 g2 g3 g4 g5 g6
 have n1 : (k == 7) = false := by simpa using k7
 have n2 : (k == 25) = false := by simpa using k25
 have n3 : (k == 1049) = false := by simpa using k1049
 go_enter Tryz.func75, Tryz.ntmps75
 go_upto_region 11 with fail
 refine wp_region_lit ?_
 refine wpl_loadS rfl (.tmp 3) rfl rfl (heap_a1 w _ _) rfl ?_
 refine wpl_storeS rfl (.tmp 6) (.tmp 70) rfl rfl rfl (heap_a2 w _ _) rfl rfl all25 ?_
 go_wp2
 refine scEnd (w.heap.size + 1) 6 Tryz.results75 ?_ ?_ (heap_a2 w _ _) (by omega) (two_new w _ _).1 HSS.out (HS.out.like ?_ ?_ ?_ ?_)
 all_goals rfl
theorem moder_same_true (v : Value) (s : Sc) (k : Int) (on : Bool) (S : Nat → Prop) (w : World) (hS : ∀ x, S x → x < w.heap.size) (h : SCV w S v s) (hk : k = 1049) (ho : on = true) (ha : s.alt = true) : Calls Tryz.prog 75 #[v, .int .i64 k, .bool on] w (ScPost S s w) := by
 have HSS := Lh hS
 clear hS
 obtain ⟨vc, vt, vo, vp, vi, vu, rfl, hs⟩ := h
 have HS := Lh hs
 obtain ⟨g1, g2, g3, g4, g5, g6⟩ := hs
 obtain ⟨A1, k1, rfl, p1, q1⟩ := g1.form
 obtain ⟨A2, k2, rfl, p2, q2⟩ := g2.form
 obtain ⟨A3, k3, rfl, p3, q3⟩ := g3.form
 obtain ⟨A4, k4, rfl, p4, q4⟩ := g4.form
 obtain ⟨A5, k5, rfl, p5, q5⟩ := g5.form
 obtain ⟨A6, k6, rfl, p6, q6⟩ := g6.form
 clear g1 g2 g3 g4 g5 g6
 subst hk ho
 have ha2 := ha
 clear ha
 go_enter Tryz.func75, Tryz.ntmps75
 go_upto_region 11 with fail
 refine wp_region_lit ?_
 refine wpl_loadS rfl (.tmp 3) rfl rfl (heap_a1 w _ _) rfl ?_
 refine wpl_storeS rfl (.tmp 6) (.tmp 70) rfl rfl rfl (heap_a2 w _ _) rfl rfl all25 ?_
 go_wp2
 refine scEnd (w.heap.size + 1) 6 Tryz.results75 ?_ ?_ (heap_a2 w _ _) (by omega) (two_new w _ _).1 HSS.out (HS.out.like ?_ ?_ ?_ ?_)
 all_goals rfl
theorem moder_same_false (v : Value) (s : Sc) (k : Int) (on : Bool) (S : Nat → Prop) (w : World) (hS : ∀ x, S x → x < w.heap.size) (h : SCV w S v s) (hk : k = 1049) (ho : on = false) (ha : s.alt = false) : Calls Tryz.prog 75 #[v, .int .i64 k, .bool on] w (ScPost S s w) := by
 have HSS := Lh hS
 clear hS
 obtain ⟨vc, vt, vo, vp, vi, vu, rfl, hs⟩ := h
 have HS := Lh hs
 obtain ⟨g1, g2, g3, g4, g5, g6⟩ := hs
 obtain ⟨A1, k1, rfl, p1, q1⟩ := g1.form
 obtain ⟨A2, k2, rfl, p2, q2⟩ := g2.form
 obtain ⟨A3, k3, rfl, p3, q3⟩ := g3.form
 obtain ⟨A4, k4, rfl, p4, q4⟩ := g4.form
 obtain ⟨A5, k5, rfl, p5, q5⟩ := g5.form
 obtain ⟨A6, k6, rfl, p6, q6⟩ := g6.form
 clear g1 g2 g3 g4 g5 g6
 subst hk ho
 have ha2 := ha
 clear ha
 go_enter Tryz.func75, Tryz.ntmps75
 go_upto_region 11 with fail
 refine wp_region_lit ?_
 refine wpl_loadS rfl (.tmp 3) rfl rfl (heap_a1 w _ _) rfl ?_
 refine wpl_storeS rfl (.tmp 6) (.tmp 70) rfl rfl rfl (heap_a2 w _ _) rfl rfl all25 ?_
 go_wp2
 refine scEnd (w.heap.size + 1) 6 Tryz.results75 ?_ ?_ (heap_a2 w _ _) (by omega) (two_new w _ _).1 HSS.out (HS.out.like ?_ ?_ ?_ ?_)
 all_goals rfl
theorem moder_off (v : Value) (s : Sc) (k : Int) (on : Bool) (S : Nat → Prop) (w : World) (hS : ∀ x, S x → x < w.heap.size) (h : SCV w S v s) (hk : k = 1049) (ho : on = false) (ha : s.alt = true) : Calls Tryz.prog 75 #[v, .int .i64 k, .bool on] w (ScPost S { s with cells := s.other, y := s.oy, x := s.ox, alt := false, wrap := false, other := [], oy := 0, ox := 0 } w) := by
 have HSS := Lh hS
 clear hS
 obtain ⟨vc, vt, vo, vp, vi, vu, rfl, hs⟩ := h
 have HS := Lh hs
 obtain ⟨g1, g2, g3, g4, g5, g6⟩ := hs
 obtain ⟨A1, k1, rfl, p1, q1⟩ := g1.form
 obtain ⟨A2, k2, rfl, p2, q2⟩ := g2.form
 obtain ⟨A3, k3, rfl, p3, q3⟩ := g3.form
 obtain ⟨A4, k4, rfl, p4, q4⟩ := g4.form
 obtain ⟨A5, k5, rfl, p5, q5⟩ := g5.form
 obtain ⟨A6, k6, rfl, p6, q6⟩ := g6.form
 clear g1 g2 g3 g4 g5 g6
 subst hk ho
 go_enter Tryz.func75, Tryz.ntmps75
 go_upto_region 11 with fail
 refine wp_region_lit ?_
 refine wpl_loadS rfl (.tmp 3) rfl rfl (heap_a1 w _ _) rfl ?_
 refine wpl_storeS rfl (.tmp 6) (.tmp 70) rfl rfl rfl (heap_a2 w _ _) rfl rfl all25 ?_
 go_wp2
 refine scEnd (w.heap.size + 1) 6 Tryz.results75 ?_ ?_ (heap_a2 w _ _) (by omega) (two_new w _ _).1 HSS.out (⟨HS.out.2.2.1, HS.out.2.1, CL.nil _ _, HS.out.2.2.2⟩)
 all_goals rfl
theorem moder_on (v : Value) (s : Sc) (k : Int) (on : Bool) (S : Nat → Prop) (w : World) (hS : ∀ x, S x → x < w.heap.size) (h : SCV w S v s) (hk : k = 1049) (ho : on = true) (ha : s.alt = false) (hz : sizeOk s.rows s.cols = true) : Calls Tryz.prog 75 #[v, .int .i64 k, .bool on] w (ScPost S { s with other := s.cells, oy := s.y, ox := s.x, alt := true, wrap := false, cells := blankL s.rows s.cols } w) := by
 have HSS := Lh hS
 clear hS
 obtain ⟨vc, vt, vo, vp, vi, vu, rfl, hs⟩ := h
 have HS := Lh hs
 obtain ⟨g1, g2, g3, g4, g5, g6⟩ := hs
 obtain ⟨A1, k1, rfl, p1, q1⟩ := g1.form
 obtain ⟨A2, k2, rfl, p2, q2⟩ := g2.form
 obtain ⟨A3, k3, rfl, p3, q3⟩ := g3.form
 obtain ⟨A4, k4, rfl, p4, q4⟩ := g4.form
 obtain ⟨A5, k5, rfl, p5, q5⟩ := g5.form
 obtain ⟨A6, k6, rfl, p6, q6⟩ := g6.form
 clear g1 g2 g3 g4 g5 g6
 subst hk ho
 have h2 := two_new w (.cells #[.int .i64 s.rows, .int .i64 s.cols, .slice A1 s.cells.length k1, .int .i64 s.y, .int .i64 s.x, .bool false, .int .u16 (s.attr : Int), .int .i64 s.top, .int .i64 s.bottom, .slice A2 s.tabs.length k2, .int .i64 s.sy, .int .i64 s.sx, .int .u16 (s.sattr : Int), .bool s.auto, .bool s.shown, .bool true, .slice A1 s.cells.length k1, .int .i64 s.y, .int .i64 s.x, .int .i64 (s.p.mode : Int), .int .u8 (s.p.priv : Int), .slice A4 s.p.params.length k4, .slice A5 s.p.inter.length k5, .slice A6 s.p.utf.length k6] 30) (.cells zQ 30)
 have HZ := Lh hz
 have H2 := Lh h2
 have HS1 : Hid (SSl w S { s with other := s.cells, oy := s.y, ox := s.x, alt := true, wrap := false } (.slice A1 s.cells.length k1) (.slice A2 s.tabs.length k2) (.slice A1 s.cells.length k1) (.slice A4 s.p.params.length k4) (.slice A5 s.p.inter.length k5) (.slice A6 s.p.utf.length k6)) := ⟨HS.out.1, HS.out.2.1, HS.out.1, HS.out.2.2.2⟩
 have HS0 := HS
 clear HS
 have HS := HS1
 clear h2 hz
 go_enter Tryz.func75, Tryz.ntmps75
 go_upto_region 11 with fail
 ((with_reducible refine (Blank_any s.rows s.cols _ HZ.out).mono ?_); rintro e w4 ⟨v4, rfl, o4, b4⟩; have hb4 : Below (w.heap.size + 1 + 1) _ w4 := (by rw [← H2.out.2]; exact b4); obtain ⟨k0, k1⟩ := two_keptB hb4; obtain ⟨c2, f2⟩ := cellR k0 2 rfl; have K0 := Lh k0; have K1 := Lh k1; rw [H2.out.2] at o4; have O4 := Lh o4; have B4 := Lh (H2.out.1.trans (hb4.mono (by omega))); have Z4 := b4.size; rw [H2.out.2] at Z4; clear o4 b4 hb4 k0 k1)
 obtain ⟨A7, k7, rfl, p7, q7⟩ := O4.out.cs.form
 go_upto_region 11 with fail
 refine wp_region_lit ?_
 refine wpl_loadS rfl (.tmp 3) rfl rfl ((heap_setCell_same _ _ 2 _ _ _ K0.out).trans rfl) rfl ?_
 refine wpl_storeS rfl (.tmp 6) (.tmp 70) rfl rfl rfl ((heap_setCell_other _ _ _ _ (by simp)).trans K1.out) rfl rfl all25 ?_
 go_wp2
 refine scEndC (w.heap.size + 1) 6 Tryz.results75 ?_ ?_ ((heap_setCell_other _ _ _ _ (by simp)).trans K1.out) (by omega) (B4.out.setCell (by simp) _) HSS.out HS.out ?_ ?_ ?_ (w.heap.size + 1 + 1) (by omega) O4.out (fun b hb => heap_setCell_other _ _ _ _ (by simp; omega)) (by simp)
 all_goals rfl
theorem moder_any (v : Value) (s : Sc) (k : Int) (on : Bool) (S : Nat → Prop) (w : World) (hS : ∀ x, S x → x < w.heap.size) (h : SCV w S v s) (hz : sizeOk s.rows s.cols = true) : Calls Tryz.prog 75 #[v, .int .i64 k, .bool on] w (ScPost S (modeS s k on) w) := by
 unfold modeS
 by_cases h7 : k = 7
 ·rw [if_pos h7]; exact moder_7 v s k on S w hS h h7
 rw [if_neg h7]
 by_cases h25 : k = 25
 ·rw [if_pos h25]; exact moder_25 v s k on S w hS h h25
 rw [if_neg h25]
 by_cases hk : k = 1049
 ·cases ho : on with
  | true =>
   cases ha : s.alt with
   | true => rw [if_neg (by simp), if_neg (by simp)]; exact moder_same_true v s k true S w hS h hk rfl ha
   | false => rw [if_pos ⟨hk, rfl, rfl⟩]; exact moder_on v s k true S w hS h hk rfl ha hz
  | false =>
   cases ha : s.alt with
   | true => rw [if_neg (by simp), if_pos ⟨hk, rfl, rfl⟩]; exact moder_off v s k false S w hS h hk rfl ha
   | false => rw [if_neg (by simp), if_neg (by simp)]; exact moder_same_false v s k false S w hS h hk rfl ha
 ·rw [if_neg (by simp [hk]), if_neg (by simp [hk])]
  exact moder_no v s k on S w hS h h7 h25 hk
theorem controlr_down (v : Value) (s : Sc) (b : Int) (r c : Nat) (S : Nat → Prop) (w : World) (hS : ∀ x, S x → x < w.heap.size) (h : SCV w S v s) (hi : ScIn s r c) (hb : b = 10 ∨ b = 11 ∨ b = 12) : Calls Tryz.prog 73 #[v, .int .u8 b] w (ScPost S (downS s) w) := by
 have HSS := Lh hS
 clear hS
 obtain ⟨vc, vt, vo, vp, vi, vu, rfl, hs⟩ := h
 have HS := Lh hs
 obtain ⟨g1, g2, g3, g4, g5, g6⟩ := hs
 obtain ⟨A1, k1, rfl, p1, q1⟩ := g1.form
 obtain ⟨A2, k2, rfl, p2, q2⟩ := g2.form
 obtain ⟨A3, k3, rfl, p3, q3⟩ := g3.form
 obtain ⟨A4, k4, rfl, p4, q4⟩ := g4.form
 obtain ⟨A5, k5, rfl, p5, q5⟩ := g5.form
 obtain ⟨A6, k6, rfl, p6, q6⟩ := g6.form
 clear g1 g2 g3 g4 g5 g6
 have HI := Lh hi
 have x0 := hi.x0
 have x1 := hi.x1
 have hcl := hi.cols
 have c2 := hi.g.c2
 have c3 : s.cols ≤ 1000 := by omega
 have c4 : s.x < s.cols := by omega
 clear hi hcl
 have h2 := two_new w (.cells (vA s A1 A2 A3 A4 A5 A6 k1 k2 k3 k4 k5 k6) 30) (.cells zQ 30)
 have HS2 : Hid (∀ x, S x → x < _) := fun x hx => Nat.lt_of_lt_of_le (HSS.out x hx) h2.1.size
 have H2 := Lh h2
 have HV := Lh (show SCV _ S (.agg (vA s A1 A2 A3 A4 A5 A6 k1 k2 k3 k4 k5 k6)) s from ⟨_, _, _, _, _, _, rfl, HS.out.below HSS.out h2.1⟩)
 clear h2
 rcases hb with rfl | rfl | rfl
 all_goals
  go_enter Tryz.func73, Tryz.ntmps73
  go_upto_region 13 with fail
  refine wp_region_lit ?_
  refine wpl_loadS rfl (.tmp 2) rfl rfl (heap_a1 w _ _) rfl ?_
  go_wp2_with fail
  ((with_reducible refine (downr_any _ s r c S _ HS2.out HV.out HI.out).mono ?_); rintro e w4 ⟨v4, rfl, hv4, b4⟩)
  have hb4 : Below (w.heap.size + 1 + 1) _ w4 := (by rw [← H2.out.2]; exact b4)
  obtain ⟨e0, e1⟩ := two_keptB hb4
  have z4 := b4.size
  rw [H2.out.2] at z4
  obtain ⟨uc, ut, uo, up, ui, uu, rfl, hs4⟩ := hv4
  rename_i K hK
  refine hK _ _ ?_
  refine wpl_storeS rfl (.tmp 4) (.tmp 51) rfl rfl rfl e1 rfl rfl hs4.one ?_
  go_wp2
  refine scEndV (w.heap.size + 1) 4 Tryz.results73 rfl rfl e1 (by omega) (H2.out.1.trans (hb4.mono (by omega))) HSS.out hs4 (fun x hx => ?_)
  rcases hx with h | h
  ·exact .inl h
  ·have := h.1
   rw [H2.out.2] at this
   exact .inr ⟨by omega, h.2⟩
theorem max_if (x : Int) : (if x < 0 then 0 else x) = max x 0 := by split <;> omega
theorem controlr_8 (v : Value) (s : Sc) (b : Int) (r c : Nat) (S : Nat → Prop) (w : World) (hS : ∀ x, S x → x < w.heap.size) (h : SCV w S v s) (hi : ScIn s r c) (hb : b = 8) : Calls Tryz.prog 73 #[v, .int .u8 b] w (ScPost S { s with x := max (s.x - 1) 0, wrap := false } w) := by
 have HSS := Lh hS
 clear hS
 obtain ⟨vc, vt, vo, vp, vi, vu, rfl, hs⟩ := h
 have HS := Lh hs
 obtain ⟨g1, g2, g3, g4, g5, g6⟩ := hs
 obtain ⟨A1, k1, rfl, p1, q1⟩ := g1.form
 obtain ⟨A2, k2, rfl, p2, q2⟩ := g2.form
 obtain ⟨A3, k3, rfl, p3, q3⟩ := g3.form
 obtain ⟨A4, k4, rfl, p4, q4⟩ := g4.form
 obtain ⟨A5, k5, rfl, p5, q5⟩ := g5.form
 obtain ⟨A6, k6, rfl, p6, q6⟩ := g6.form
 clear g1 g2 g3 g4 g5 g6
 have HI := Lh hi
 have x0 := hi.x0
 have x1 := hi.x1
 have hcl := hi.cols
 have c2 := hi.g.c2
 have c3 : s.cols ≤ 1000 := by omega
 have c4 : s.x < s.cols := by omega
 clear hi hcl
 subst hb
 go_enter Tryz.func73, Tryz.ntmps73
 go_upto_region 16 with fail
 rw [max_if]
 refine wp_region_lit ?_
 refine wpl_loadS rfl (.tmp 2) rfl rfl (heap_a1 w _ _) rfl ?_
 refine wpl_storeS rfl (.tmp 4) (.tmp 56) rfl rfl rfl (heap_a2 w _ _) rfl rfl all25 ?_
 go_wp2
 refine scEnd (w.heap.size + 1) 4 Tryz.results73 ?_ ?_ (heap_a2 w _ _) (by omega) (two_new w _ _).1 HSS.out (HS.out.like ?_ ?_ ?_ ?_)
 all_goals rfl
theorem controlr_13 (v : Value) (s : Sc) (b : Int) (r c : Nat) (S : Nat → Prop) (w : World) (hS : ∀ x, S x → x < w.heap.size) (h : SCV w S v s) (hi : ScIn s r c) (hb : b = 13) : Calls Tryz.prog 73 #[v, .int .u8 b] w (ScPost S { s with x := 0, wrap := false } w) := by
 have HSS := Lh hS
 clear hS
 obtain ⟨vc, vt, vo, vp, vi, vu, rfl, hs⟩ := h
 have HS := Lh hs
 obtain ⟨g1, g2, g3, g4, g5, g6⟩ := hs
 obtain ⟨A1, k1, rfl, p1, q1⟩ := g1.form
 obtain ⟨A2, k2, rfl, p2, q2⟩ := g2.form
 obtain ⟨A3, k3, rfl, p3, q3⟩ := g3.form
 obtain ⟨A4, k4, rfl, p4, q4⟩ := g4.form
 obtain ⟨A5, k5, rfl, p5, q5⟩ := g5.form
 obtain ⟨A6, k6, rfl, p6, q6⟩ := g6.form
 clear g1 g2 g3 g4 g5 g6
 have HI := Lh hi
 have x0 := hi.x0
 have x1 := hi.x1
 have hcl := hi.cols
 have c2 := hi.g.c2
 have c3 : s.cols ≤ 1000 := by omega
 have c4 : s.x < s.cols := by omega
 clear hi hcl
 subst hb
 go_enter Tryz.func73, Tryz.ntmps73
 go_upto_region 16 with fail
 refine wp_region_lit ?_
 refine wpl_loadS rfl (.tmp 2) rfl rfl (heap_a1 w _ _) rfl ?_
 refine wpl_storeS rfl (.tmp 4) (.tmp 56) rfl rfl rfl (heap_a2 w _ _) rfl rfl all25 ?_
 go_wp2
 refine scEnd (w.heap.size + 1) 4 Tryz.results73 ?_ ?_ (heap_a2 w _ _) (by omega) (two_new w _ _).1 HSS.out (HS.out.like ?_ ?_ ?_ ?_)
 all_goals rfl
theorem controlr_no (v : Value) (s : Sc) (b : Int) (r c : Nat) (S : Nat → Prop) (w : World) (hS : ∀ x, S x → x < w.heap.size) (h : SCV w S v s) (hi : ScIn s r c) (hb : ¬ (b = 8 ∨ b = 9 ∨ b = 10 ∨ b = 11 ∨ b = 12 ∨ b = 13)) : Calls Tryz.prog 73 #[v, .int .u8 b] w (ScPost S s w) := by
 have HSS := Lh hS
 clear hS
 obtain ⟨vc, vt, vo, vp, vi, vu, rfl, hs⟩ := h
 have HS := Lh hs
 obtain ⟨g1, g2, g3, g4, g5, g6⟩ := hs
 obtain ⟨A1, k1, rfl, p1, q1⟩ := g1.form
 obtain ⟨A2, k2, rfl, p2, q2⟩ := g2.form
 obtain ⟨A3, k3, rfl, p3, q3⟩ := g3.form
 obtain ⟨A4, k4, rfl, p4, q4⟩ := g4.form
 obtain ⟨A5, k5, rfl, p5, q5⟩ := g5.form
 obtain ⟨A6, k6, rfl, p6, q6⟩ := g6.form
 clear g1 g2 g3 g4 g5 g6
 have HI := Lh hi
 have x0 := hi.x0
 have x1 := hi.x1
 have hcl := hi.cols
 have c2 := hi.g.c2
 have c3 : s.cols ≤ 1000 := by omega
 have c4 : s.x < s.cols := by omega
 clear hi hcl
 have n8 : (b == 8) = false := by simp; omega
 have n9 : (b == 9) = false := by simp; omega
 have n10 : (b == 10) = false := by simp; omega
 have n11 : (b == 11) = false := by simp; omega
 have n12 : (b == 12) = false := by simp; omega
 have n13 : (b == 13) = false := by simp; omega
 clear hb
 go_enter Tryz.func73, Tryz.ntmps73
 go_upto_region 16 with fail
 refine wp_region_lit ?_
 refine wpl_loadS rfl (.tmp 2) rfl rfl (heap_a1 w _ _) rfl ?_
 refine wpl_storeS rfl (.tmp 4) (.tmp 56) rfl rfl rfl (heap_a2 w _ _) rfl rfl all25 ?_
 go_wp2
 refine scEnd (w.heap.size + 1) 4 Tryz.results73 ?_ ?_ (heap_a2 w _ _) (by omega) (two_new w _ _).1 HSS.out (HS.out.like ?_ ?_ ?_ ?_)
 all_goals rfl
theorem SL.getT {w : World} {S : Nat → Prop} {A : Option Addr} {n c : Nat} {l : List Bool} (h : SL vT w S (.slice A n c) l) (k : Nat) (hk : k < l.length) : ∃ ad, A = some ad ∧ S ad.block ∧ w.cell? (ad.add k) = some (.bool (l.getD k true)) := by
 obtain ⟨A', c', hv, _, _, h3⟩ := h
 simp only [Value.slice.injEq] at hv
 obtain ⟨ad, hA, hb, hc⟩ := h3 (by omega)
 have hx : l[k]? = some (l.getD k true) := by simp [List.getD, List.getElem?_eq_getElem hk]
 exact ⟨ad, hv.1.trans hA, hb, hc k _ hx⟩
theorem controlr_9 (v : Value) (s : Sc) (b : Int) (r c : Nat) (S : Nat → Prop) (w : World) (hS : ∀ x, S x → x < w.heap.size) (h : SCV w S v s) (hi : ScIn s r c) (hb : b = 9) : Calls Tryz.prog 73 #[v, .int .u8 b] w (ScPost S { s with wrap := false, x := tabX s } w) := by
 have HSS := Lh hS
 clear hS
 obtain ⟨vc, vt, vo, vp, vi, vu, rfl, hs⟩ := h
 have HS := Lh hs
 obtain ⟨g1, g2, g3, g4, g5, g6⟩ := hs
 obtain ⟨A1, k1, rfl, p1, q1⟩ := g1.form
 obtain ⟨A2, k2, rfl, p2, q2⟩ := g2.form
 obtain ⟨A3, k3, rfl, p3, q3⟩ := g3.form
 obtain ⟨A4, k4, rfl, p4, q4⟩ := g4.form
 obtain ⟨A5, k5, rfl, p5, q5⟩ := g5.form
 obtain ⟨A6, k6, rfl, p6, q6⟩ := g6.form
 clear g1 g2 g3 g4 g5 g6
 have HI := Lh hi
 have x0 := hi.x0
 have x1 := hi.x1
 have hcl := hi.cols
 have c2 := hi.g.c2
 have c3 : s.cols ≤ 1000 := by omega
 have c4 : s.x < s.cols := by omega
 have ht := hi.tabs
 have ht2 : (s.tabs.length : Int) = s.cols := by omega
 have HT := Lh ht2
 clear hi hcl ht ht2
 subst hb
 unfold tabX
 obtain ⟨N, hN⟩ : ∃ N, N = nextTab s.tabs (s.cols - (s.x + 1)).toNat (s.x + 1).toNat := ⟨_, rfl⟩
 rw [← hN]
 have HN := Lh hN
 obtain ⟨M, hM⟩ : ∃ M, M = min (N : Int) (s.cols - 1) := ⟨_, rfl⟩
 rw [← hM]
 have HM := Lh hM
 clear hM
 obtain ⟨xx, hxx⟩ : ∃ xx : Nat, (xx : Int) = s.x + 1 := ⟨(s.x + 1).toNat, by omega⟩
 have HX := Lh hxx
 clear hN hxx
 go_enter Tryz.func73, Tryz.ntmps73
 go_wp2
 go_loopg [21] (s.cols - (s.x + 1)).toNat (fun g s21 wx => ∃ x : Nat, (x : Int) + (g : Int) = s.cols ∧ s.x + 1 ≤ x ∧ nextTab s.tabs g x = N ∧ wx = (w.alloc (.cells #[.int .i64 s.rows, .int .i64 s.cols, .slice A1 s.cells.length k1, .int .i64 s.y, .int .i64 (x : Int), .bool false, .int .u16 (s.attr : Int), .int .i64 s.top, .int .i64 s.bottom, .slice A2 s.tabs.length k2, .int .i64 s.sy, .int .i64 s.sx, .int .u16 (s.sattr : Int), .bool s.auto, .bool s.shown, .bool s.alt, .slice A3 s.other.length k3, .int .i64 s.oy, .int .i64 s.ox, .int .i64 (s.p.mode : Int), .int .u8 (s.p.priv : Int), .slice A4 s.p.params.length k4, .slice A5 s.p.inter.length k5, .slice A6 s.p.utf.length k6] 30)).alloc (.cells zQ 30))
 case atStart =>
  refine ⟨xx, by have := HX.out; omega, by have := HX.out; omega, ?_, ?_⟩
  ·rw [HN.out, show (s.x + 1).toNat = xx by have := HX.out; omega]
  ·rw [HX.out]
 case round =>
  obtain ⟨x, hxg, hx1, hnt, rfl⟩ := hrel
  have HNT := Lh hnt
  clear hnt
  cases gk with
  | zero =>
   have hxc : (x : Int) = s.cols := by omega
   have hno : ¬ (x : Int) < s.cols := by omega
   have HXC := Lh hxc
   clear hxc hxg
   go_upto_region 16 with fail
   have e : N = x := HNT.out.symm
   have e2 : s.cols - 1 = M := by have := HM.out; have := HXC.out; omega
   rw [e2]
   refine wp_region_lit ?_
   refine wpl_loadS rfl (.tmp 2) rfl rfl (heap_a1 w _ _) rfl ?_
   refine wpl_storeS rfl (.tmp 4) (.tmp 56) rfl rfl rfl (heap_a2 w _ _) rfl rfl all25 ?_
   go_wp2
   refine scEnd (w.heap.size + 1) 4 Tryz.results73 ?_ ?_ (heap_a2 w _ _) (by omega) (two_new w _ _).1 HSS.out (HS.out.like ?_ ?_ ?_ ?_)
   all_goals rfl
  | succ g =>
   have hlt : (x : Int) < s.cols := by omega
   have hxl : x < s.tabs.length := by have := HT.out; omega
   obtain ⟨ad, hA, hSb, e0⟩ := HS.out.2.1.getT x hxl
   subst hA
   have tb : (ad.add x).block < w.heap.size := by rw [block_add]; exact HSS.out _ hSb
   have tb2 : (ad.add x).block < w.heap.size + 1 := by omega
   have hs1 := HNT.out
   unfold nextTab at hs1
   cases ht : s.tabs.getD x true with
   | true =>
    rw [ht] at e0 hs1
    have e : N = x := by simpa using hs1.symm
    have e2 : (x : Int) = M := by have := HM.out; omega
    have E2 := Lh e2
    clear hs1 e ht hxg e2
    go_upto_region 16 with fail
    rw [E2.out]
    refine wp_region_lit ?_
    refine wpl_loadS rfl (.tmp 2) rfl rfl (heap_a1 w _ _) rfl ?_
    refine wpl_storeS rfl (.tmp 4) (.tmp 56) rfl rfl rfl (heap_a2 w _ _) rfl rfl all25 ?_
    go_wp2
    refine scEnd (w.heap.size + 1) 4 Tryz.results73 ?_ ?_ (heap_a2 w _ _) (by omega) (two_new w _ _).1 HSS.out (HS.out.like ?_ ?_ ?_ ?_)
    all_goals rfl
   | false =>
    rw [ht] at e0 hs1
    have hs2 : nextTab s.tabs g (x + 1) = N := by simpa using hs1
    have HS1 := Lh hs2
    clear hs2
    have HXG := Lh hxg
    clear hs1 ht hxg
    go_wp2
    go_roundg g
    case measure => omega
    case rel => exact ⟨x + 1, by have := HXG.out; omega, by omega, HS1.out, by rw [show ((x + 1 : Nat) : Int) = (x : Int) + 1 by omega]⟩
theorem controlr_any (v : Value) (s : Sc) (b : Nat) (r c : Nat) (S : Nat → Prop) (w : World) (hS : ∀ x, S x → x < w.heap.size) (h : SCV w S v s) (hi : ScIn s r c) : Calls Tryz.prog 73 #[v, .int .u8 (b : Int)] w (ScPost S (controlS s b) w) := by
 unfold controlS
 by_cases h8 : b = 8
 ·rw [if_pos h8]; exact controlr_8 v s b r c S w hS h hi (by omega)
 rw [if_neg h8]
 by_cases h9 : b = 9
 ·rw [if_pos h9]; exact controlr_9 v s b r c S w hS h hi (by omega)
 rw [if_neg h9]
 by_cases hd : b = 10 ∨ b = 11 ∨ b = 12
 ·rw [if_pos hd]; exact controlr_down v s b r c S w hS h hi (by omega)
 rw [if_neg hd]
 by_cases h13 : b = 13
 ·rw [if_pos h13]; exact controlr_13 v s b r c S w hS h hi (by omega)
 rw [if_neg h13]
 exact controlr_no v s b r c S w hS h hi (by omega)
def NewPost (s : Sc) (w : World) (e : Ending) (w' : World) : Prop := ∃ v, e = .returned (.tuple #[v, .int .i64 0]) ∧ SCV w' (NewB w' w.heap.size) v s ∧ Below w.heap.size w w'
theorem run_eqlNil (w : World) (a : Addr) (n c : Nat) : (binOp .eql 22 (.slice (some a) n c) (.slice none 0 0)).run Tryz.prog w = .ok (.bool false) w := by
 have := run_equal_slice_nil w 22 65 (some a) n c Tryz.underlying22
 simp [binOp, this]
def tabsUp (c x : Nat) : List Bool := (List.range c).map fun i => decide (i % 8 = 0 ∧ i < x)
theorem tabsUp_zero (c : Nat) : tabsUp c 0 = List.replicate c false := by
 apply List.ext_getElem?
 intro i
 by_cases h : i < c
 ·simp [tabsUp, h]
 ·simp [tabsUp, h]
theorem tabsUp_set (c x : Nat) (h8 : x % 8 = 0) : (tabsUp c x).set x true = tabsUp c (x + 8) := by
 apply List.ext_getElem?
 intro i
 rw [List.getElem?_set]
 by_cases h : i < c
 ·by_cases e : x = i
  ·subst e
   simp [tabsUp, h, h8]
  ·rw [if_neg e]
   simp only [tabsUp, List.getElem?_map, List.getElem?_range h, Option.map_some]
   congr 1
   rw [decide_eq_decide]
   constructor
   ·intro ⟨a, b⟩; exact ⟨a, by omega⟩
   ·intro ⟨a, b⟩; exact ⟨a, by omega⟩
 ·by_cases e : x = i
  ·subst e
   simp [tabsUp, h]
  ·rw [if_neg e]
   simp [tabsUp, h]
theorem tabsUp_all (c x : Nat) (h : c ≤ x) : tabsUp c x = newTabs c := by
 apply List.ext_getElem?
 intro i
 by_cases hi : i < c
 ·simp only [tabsUp, newTabs, List.getElem?_map, List.getElem?_range hi, Option.map_some]
  congr 1
  rw [decide_eq_decide]
  constructor
  ·intro ⟨a, b⟩; exact a
  ·intro a; exact ⟨a, by omega⟩
 ·simp [tabsUp, newTabs, hi]
def NewRel (c : Nat) (w4 W5 : World) (i : Value) (wr : World) : Prop :=
 ∃ x : Nat, x % 8 = 0 ∧ x < c + 8 ∧ i = .int .i64 (x : Int) ∧ OT wr w4.heap.size (.slice (some ⟨w4.heap.size, 0, none⟩) c c) (tabsUp c x) ∧ wr.heap.size = W5.heap.size ∧ (∀ b, b ≠ w4.heap.size → wr.heap[b]? = W5.heap[b]?) ∧ Below w4.heap.size W5 wr
theorem resultS2 {fn : Func} {p q : Tmp} (h : fn.results = #[.cell p 30, .tmp q]) {tmps : Array Value} {w : World} {g : Nat} {xs : Array Value} {u : Value} (ht : tmps.getD p undef = .pointer (some ⟨g, 0, none⟩)) (hu : tmps.getD q undef = u) (hg : w.heap[g]? = some (.cells xs 30)) (hn : xs.size = 24) :
  (results fn tmps).run Tryz.prog w = .ok (.tuple #[.agg xs, u]) w := by
 simp only [results, h]
 have := run_loadVar_row (P := Tryz.prog) w g _ 30 xs (0, 0) _ hg Tryz.underlying30 rfl (by rw [scrSize, hn])
 have ht2 : tmps[p]?.getD undef = .pointer (some ⟨g, 0, none⟩) := by simpa using ht
 have hu2 : tmps[q]?.getD undef = u := by simpa using hu
 simp [ht2, hu2, asAddr, this]
theorem Newr_yes (r c : Nat) (w : World) (r1 : 1 ≤ r) (r2 : r ≤ 1000) (c1 : 1 ≤ c) (c2 : c ≤ 1000) : Calls Tryz.prog 15 #[.int .i64 (r : Int), .int .i64 (c : Int)] w (NewPost (newS r c) w) := by
 have hrc := rc_le r2 c2
 have hpos : 1 ≤ r * c := Nat.mul_pos r1 c1
 have hmk := run_makeT c (by omega)
 go_enter Tryz.func15, Tryz.ntmps15
 go_upto_region 4 with fail
 (with_reducible refine (Blank_yes r c _ r1 r2 c1 c2).mono ?_); rintro e w4 ⟨v4, rfl, o4, b4⟩
 have h1 : (w.alloc (.cells zQ 30)).heap.size = w.heap.size + 1 := by simp
 rw [h1] at o4 b4
 obtain ⟨gb, cap, rfl, hg1, hg2, hg3, hg4⟩ := o4.open_ (by rw [List.length_replicate]; omega)
 have hnil := run_eqlNil w4 ⟨gb, 0, none⟩ (r * c) cap
 have HO := Lh o4
 have HB := Lh b4
 have hz4 := b4.size
 rw [h1] at hz4
 rw [List.length_replicate]
 clear o4 b4 h1
 go_upto_region 4 with fail
 clear hnil
 refine wp_region_lit ?_
 iterate 9 (refine wpList_plain rfl fun K hK => ?_; go_simp; refine hK _ _ ?_; clear hK K)
 refine wpl_storeS rfl (.tmp 7) (.tmp 22) rfl rfl rfl (heap_a2 w4 _ _) rfl rfl all25 ?_
 go_simp
 rw [IntWalk.i64_in ((r : Int) - 1) (by omega)]
 obtain ⟨W5, hW5⟩ : ∃ W5, W5 = ((w4.alloc (.cells (madeCells #[.bool false] c) 4)).alloc (.cells zQ 30)).setRow (w4.heap.size + 1) #[.int .i64 (r : Int), .int .i64 (c : Int), .slice (some ⟨gb, 0, none⟩) (r * c) cap, .int .i64 0, .int .i64 0, .bool false, .int .u16 0, .int .i64 0, .int .i64 ((r : Int) - 1), .slice (some ⟨w4.heap.size, 0, none⟩) c c, .int .i64 0, .int .i64 0, .int .u16 0, .bool true, .bool true, .bool false, .slice none 0 0, .int .i64 0, .int .i64 0, .int .i64 0, .int .u8 0, .slice none 0 0, .slice none 0 0, .slice none 0 0] := ⟨_, rfl⟩
 rw [← hW5]
 have k5 : W5.heap[w4.heap.size + 1]? = some (.cells #[.int .i64 (r : Int), .int .i64 (c : Int), .slice (some ⟨gb, 0, none⟩) (r * c) cap, .int .i64 0, .int .i64 0, .bool false, .int .u16 0, .int .i64 0, .int .i64 ((r : Int) - 1), .slice (some ⟨w4.heap.size, 0, none⟩) c c, .int .i64 0, .int .i64 0, .int .u16 0, .bool true, .bool true, .bool false, .slice none 0 0, .int .i64 0, .int .i64 0, .int .i64 0, .int .u8 0, .slice none 0 0, .slice none 0 0, .slice none 0 0] 30) := by rw [hW5]; exact heap_setRow_same (heap_a2 w4 _ _)
 have z5 : W5.heap.size = w4.heap.size + 1 + 1 := by rw [hW5, size_setRow]; simp
 have b5 : Below w4.heap.size w4 W5 := by rw [hW5]; exact below_setRow (two_new w4 _ _).1 (by omega) _
 have t5 : OT W5 w4.heap.size (.slice (some ⟨w4.heap.size, 0, none⟩) c c) (List.replicate c false) := by
  rw [hW5]
  refine World.ownsRow.kept (World.ownsRow.alloc (OT.made w4 c (by omega)) _) (row := some (w4.heap.size + 1)) ⟨rfl, rfl, rfl, by rw [size_setRow]; exact Nat.le_refl _, fun k hk hne => heap_setRow_other (fun e => hne (by rw [e]))⟩ (Or.inr ?_)
  simp [Value.ownBlock]
 have K5 := Lh k5
 have B5 := Lh b5
 have T5 := Lh t5
 have HW5 := Lh hW5
 have Z5 := Lh z5
 clear hmk k5 b5 t5 hW5 z5
 go_wp2
 go_loopw [8] (fun i wr => NewRel c w4 W5 i wr) (fun i _ => c + 8 - (intOf i).toNat)
 case atStart => exact ⟨0, by omega, by omega, rfl, by rw [tabsUp_zero]; exact T5.out, rfl, fun _ _ => rfl, Below.refl _ _⟩
 case round =>
  obtain ⟨x, hx8, hxc, rfl, ht, hz, hk, hb⟩ := hrel
  obtain ⟨c9, f9⟩ := cellR ((hk (w4.heap.size + 1) (by omega)).trans K5.out) 9 rfl
  have HT := Lh ht
  have HK := Lh hk
  have HBR := Lh hb
  have HZ := Lh hz
  have hx8' := Lh hx8
  clear ht hk hb hz hx8
  by_cases hlt : x < c
  ·obtain ⟨q, s0, f0⟩ := HT.out.spot x hlt
   have hgx : w4.heap.size < wr.heap.size := by rw [HZ.out, Z5.out]; omega
   go_wp2
   go_roundw
   case rel =>
    refine ⟨x + 8, by have := hx8'.out; omega, by omega, by go_num, ?_, by simpa using HZ.out, fun b hb => ?_, HBR.out.setCell (by simp) _⟩
    ·have := HT.out.put x true
     rw [tabsUp_set c x hx8'.out] at this
     exact this
    ·rw [heap_setCell_other _ _ _ _ (by simpa using hb)]
     exact HK.out b hb
   case measure => simp [intOf]; omega
  ·have hres : wr.heap[w.heap.size]? = some (.cells zQ 30) := by
    rw [HK.out _ (by omega), HW5.out, heap_setRow_other (by omega)]
    refine ((two_new w4 _ _).1.block _ (by omega)).trans ((HB.out.block _ (by omega)).trans ?_)
    exact heap_alloc_new w _
   have hvar := (HK.out (w4.heap.size + 1) (by omega)).trans K5.out
   have HR := Lh hres
   have HV := Lh hvar
   clear hres hvar c9 f9
   go_upto_region 9 with fail
   refine wp_region_lit ?_
   refine wpl_loadS rfl (.tmp 7) rfl rfl HV.out rfl ?_
   refine wpl_storeS rfl (.tmp 4) (.tmp 32) rfl rfl rfl HR.out rfl rfl all25 ?_
   go_wp2
   have hx9 : tabsUp c x = newTabs c := tabsUp_all c x (by omega)
   have hbl : blankL (r : Int) (c : Int) = List.replicate (r * c) blankC := by
    unfold blankL
    rw [if_pos (sizeOk_mk (by omega) (by omega) (by omega) (by omega))]
    simp
   have hB0 : Below w.heap.size w wr := (((Below.refl w.heap.size w).alloc (Nat.le_refl _) _).trans (HB.out.mono (by omega))).trans (((B5.out.trans HBR.out)).mono (by omega))
   refine bodyPost_ret (v := .tuple #[.agg #[.int .i64 (r : Int), .int .i64 (c : Int), .slice (some ⟨gb, 0, none⟩) (r * c) cap, .int .i64 0, .int .i64 0, .bool false, .int .u16 0, .int .i64 0, .int .i64 ((r : Int) - 1), .slice (some ⟨w4.heap.size, 0, none⟩) c c, .int .i64 0, .int .i64 0, .int .u16 0, .bool true, .bool true, .bool false, .slice none 0 0, .int .i64 0, .int .i64 0, .int .i64 0, .int .u8 0, .slice none 0 0, .slice none 0 0, .slice none 0 0], .int .i64 0]) (resultS2 Tryz.results15 rfl rfl (heap_setRow_same HR.out) rfl) rfl ?_
   refine ⟨_, rfl, ⟨_, _, _, _, _, _, rfl, ?_, ?_, CL.nil _ _, SL.nil _ _ _, SL.nil _ _ _, SL.nil _ _ _⟩, below_setRow hB0 (Nat.le_refl _) _⟩
   ·show CL _ _ _ (blankL (r : Int) (c : Int))
    rw [hbl]
    have ho2 := HO.out
    rw [List.length_replicate] at ho2
    refine (ho2.cl.keep (fun q hq => World.cell?_of_block ?_)).mono (fun x hx => ⟨by have := hx.1; omega, ?_⟩)
    ·have h1 := hq.1
     have h2 := hq.2
     rw [heap_setRow_other (by omega), HK.out _ (by omega)]
     exact B5.out.block _ h2
    ·rw [size_setRow, HZ.out, Z5.out]
     have := hx.2
     omega
   ·show SL vT _ _ _ (newTabs (c : Int).toNat)
    rw [Int.toNat_natCast, ← hx9]
    refine (HT.out.sl.keep (fun q hq => World.cell?_of_block (heap_setRow_other ?_))).mono (fun x hx => ⟨by have := hx.1; omega, by rw [size_setRow]; exact hx.2⟩)
    have := hq.1
    omega
theorem psize_any (n : Int) (w : World) : Calls Tryz.prog 43 #[.int .i64 n] w fun e w' => e = .returned (.bool (sizeB n)) ∧ w = w' := by
 unfold sizeB
 by_cases h1 : 1 ≤ n
 ·by_cases h2 : n ≤ 1000
  ·rw [decide_eq_true ⟨h1, h2⟩]
   go_enter Tryz.func43, Tryz.ntmps43
   go_wp2
   go_ret
   exact ⟨rfl, rfl⟩
  ·rw [decide_eq_false (fun h => h2 h.2)]
   have h3 : decide (n ≤ 1000) = false := decide_eq_false h2
   go_enter Tryz.func43, Tryz.ntmps43
   go_wp2
   go_ret
   exact ⟨rfl, rfl⟩
 ·rw [decide_eq_false (fun h => h1 h.1)]
  have h3 : decide (1 ≤ n) = false := decide_eq_false h1
  go_enter Tryz.func43, Tryz.ntmps43
  go_wp2
  go_ret
  exact ⟨rfl, rfl⟩
end Go.Proofs.YthepofkdgbcifaaGreat
