/- What is proved here: parts of the proofs of the laws of layer 10. -/
import Derived.Test.YthncoigjfhmldaaGreatS2
namespace Go.Proofs.YthncoigjfhmldaaGreat
open Go.RowKit
set_option linter.unusedVariables false
set_option linter.unusedSimpArgs false
set_option maxHeartbeats 400000
set_option maxRecDepth 100000
theorem lookT1 : (List.range 4096).all (fun a => bits BinOp.or IntKind.u16 (a : Int) 1 == (lookN a 1 : Int)) = true := by kernel_rfl
theorem lookT4 : (List.range 4096).all (fun a => bits BinOp.or IntKind.u16 (a : Int) 2 == (lookN a 4 : Int)) = true := by kernel_rfl
theorem lookT7 : (List.range 4096).all (fun a => bits BinOp.or IntKind.u16 (a : Int) 4 == (lookN a 7 : Int)) = true := by kernel_rfl
theorem lookT22 : (List.range 4096).all (fun a => bits BinOp.andNot IntKind.u16 (a : Int) 1 == (lookN a 22 : Int)) = true := by kernel_rfl
theorem lookT24 : (List.range 4096).all (fun a => bits BinOp.andNot IntKind.u16 (a : Int) 2 == (lookN a 24 : Int)) = true := by kernel_rfl
theorem lookT27 : (List.range 4096).all (fun a => bits BinOp.andNot IntKind.u16 (a : Int) 4 == (lookN a 27 : Int)) = true := by kernel_rfl
theorem lookT39 : (List.range 4096).all (fun a => bits BinOp.andNot IntKind.u16 (a : Int) 240 == (lookN a 39 : Int)) = true := by kernel_rfl
theorem lookT49 : (List.range 4096).all (fun a => bits BinOp.andNot IntKind.u16 (a : Int) 3840 == (lookN a 49 : Int)) = true := by kernel_rfl
theorem lookT30 : (List.range 4096).all (fun a => bits BinOp.or IntKind.u16 (bits BinOp.andNot IntKind.u16 (a : Int) 240) 16 == (lookN a 30 : Int)) = true := by kernel_rfl
theorem lookT31 : (List.range 4096).all (fun a => bits BinOp.or IntKind.u16 (bits BinOp.andNot IntKind.u16 (a : Int) 240) 32 == (lookN a 31 : Int)) = true := by kernel_rfl
theorem lookT32 : (List.range 4096).all (fun a => bits BinOp.or IntKind.u16 (bits BinOp.andNot IntKind.u16 (a : Int) 240) 48 == (lookN a 32 : Int)) = true := by kernel_rfl
theorem lookT33 : (List.range 4096).all (fun a => bits BinOp.or IntKind.u16 (bits BinOp.andNot IntKind.u16 (a : Int) 240) 64 == (lookN a 33 : Int)) = true := by kernel_rfl
theorem lookT34 : (List.range 4096).all (fun a => bits BinOp.or IntKind.u16 (bits BinOp.andNot IntKind.u16 (a : Int) 240) 80 == (lookN a 34 : Int)) = true := by kernel_rfl
theorem lookT35 : (List.range 4096).all (fun a => bits BinOp.or IntKind.u16 (bits BinOp.andNot IntKind.u16 (a : Int) 240) 96 == (lookN a 35 : Int)) = true := by kernel_rfl
theorem lookT36 : (List.range 4096).all (fun a => bits BinOp.or IntKind.u16 (bits BinOp.andNot IntKind.u16 (a : Int) 240) 112 == (lookN a 36 : Int)) = true := by kernel_rfl
theorem lookT37 : (List.range 4096).all (fun a => bits BinOp.or IntKind.u16 (bits BinOp.andNot IntKind.u16 (a : Int) 240) 128 == (lookN a 37 : Int)) = true := by kernel_rfl
theorem lookT40 : (List.range 4096).all (fun a => bits BinOp.or IntKind.u16 (bits BinOp.andNot IntKind.u16 (a : Int) 3840) 256 == (lookN a 40 : Int)) = true := by kernel_rfl
theorem lookT41 : (List.range 4096).all (fun a => bits BinOp.or IntKind.u16 (bits BinOp.andNot IntKind.u16 (a : Int) 3840) 512 == (lookN a 41 : Int)) = true := by kernel_rfl
theorem lookT42 : (List.range 4096).all (fun a => bits BinOp.or IntKind.u16 (bits BinOp.andNot IntKind.u16 (a : Int) 3840) 768 == (lookN a 42 : Int)) = true := by kernel_rfl
theorem lookT43 : (List.range 4096).all (fun a => bits BinOp.or IntKind.u16 (bits BinOp.andNot IntKind.u16 (a : Int) 3840) 1024 == (lookN a 43 : Int)) = true := by kernel_rfl
theorem lookT44 : (List.range 4096).all (fun a => bits BinOp.or IntKind.u16 (bits BinOp.andNot IntKind.u16 (a : Int) 3840) 1280 == (lookN a 44 : Int)) = true := by kernel_rfl
theorem lookT45 : (List.range 4096).all (fun a => bits BinOp.or IntKind.u16 (bits BinOp.andNot IntKind.u16 (a : Int) 3840) 1536 == (lookN a 45 : Int)) = true := by kernel_rfl
theorem lookT46 : (List.range 4096).all (fun a => bits BinOp.or IntKind.u16 (bits BinOp.andNot IntKind.u16 (a : Int) 3840) 1792 == (lookN a 46 : Int)) = true := by kernel_rfl
theorem lookT47 : (List.range 4096).all (fun a => bits BinOp.or IntKind.u16 (bits BinOp.andNot IntKind.u16 (a : Int) 3840) 2048 == (lookN a 47 : Int)) = true := by kernel_rfl
theorem lookU {f : Nat → Bool} (h : (List.range 4096).all f = true) (a : Nat) (ha : a < 4096) : f a = true := (List.all_eq_true.1 h) a (List.mem_range.2 ha)
def LookPost (a : Nat) (k : Int) (w : World) (e : Ending) (w' : World) : Prop := e = .returned (.int .u16 (lookN a k : Int)) ∧ w = w'
theorem lookr_0 (a : Nat) (ha : a < 4096) (w : World) : Calls Tryz.prog 108 #[.int .u16 (a : Int), .int .i64 0] w (LookPost a 0 w) := by
 go_enter Tryz.func108, Tryz.ntmps108
 go_wp2
 go_ret
 exact ⟨rfl, rfl⟩
theorem lookr_1 (a : Nat) (ha : a < 4096) (w : World) : Calls Tryz.prog 108 #[.int .u16 (a : Int), .int .i64 1] w (LookPost a 1 w) := by
 go_enter Tryz.func108, Tryz.ntmps108
 go_wp2
 go_ret
 exact ⟨congrArg (fun x => Ending.returned (.int .u16 x)) (eq_of_beq (lookU lookT1 a ha)), rfl⟩
theorem lookr_4 (a : Nat) (ha : a < 4096) (w : World) : Calls Tryz.prog 108 #[.int .u16 (a : Int), .int .i64 4] w (LookPost a 4 w) := by
 go_enter Tryz.func108, Tryz.ntmps108
 go_wp2
 go_ret
 exact ⟨congrArg (fun x => Ending.returned (.int .u16 x)) (eq_of_beq (lookU lookT4 a ha)), rfl⟩
theorem lookr_7 (a : Nat) (ha : a < 4096) (w : World) : Calls Tryz.prog 108 #[.int .u16 (a : Int), .int .i64 7] w (LookPost a 7 w) := by
 go_enter Tryz.func108, Tryz.ntmps108
 go_wp2
 go_ret
 exact ⟨congrArg (fun x => Ending.returned (.int .u16 x)) (eq_of_beq (lookU lookT7 a ha)), rfl⟩
theorem lookr_22 (a : Nat) (ha : a < 4096) (w : World) : Calls Tryz.prog 108 #[.int .u16 (a : Int), .int .i64 22] w (LookPost a 22 w) := by
 go_enter Tryz.func108, Tryz.ntmps108
 go_wp2
 go_ret
 exact ⟨congrArg (fun x => Ending.returned (.int .u16 x)) (eq_of_beq (lookU lookT22 a ha)), rfl⟩
theorem lookr_24 (a : Nat) (ha : a < 4096) (w : World) : Calls Tryz.prog 108 #[.int .u16 (a : Int), .int .i64 24] w (LookPost a 24 w) := by
 go_enter Tryz.func108, Tryz.ntmps108
 go_wp2
 go_ret
 exact ⟨congrArg (fun x => Ending.returned (.int .u16 x)) (eq_of_beq (lookU lookT24 a ha)), rfl⟩
theorem lookr_27 (a : Nat) (ha : a < 4096) (w : World) : Calls Tryz.prog 108 #[.int .u16 (a : Int), .int .i64 27] w (LookPost a 27 w) := by
 go_enter Tryz.func108, Tryz.ntmps108
 go_wp2
 go_ret
 exact ⟨congrArg (fun x => Ending.returned (.int .u16 x)) (eq_of_beq (lookU lookT27 a ha)), rfl⟩
theorem lookr_30 (a : Nat) (ha : a < 4096) (w : World) : Calls Tryz.prog 108 #[.int .u16 (a : Int), .int .i64 30] w (LookPost a 30 w) := by
 go_enter Tryz.func108, Tryz.ntmps108
 go_wp2
 go_ret
 exact ⟨congrArg (fun x => Ending.returned (.int .u16 x)) (eq_of_beq (lookU lookT30 a ha)), rfl⟩
theorem lookr_31 (a : Nat) (ha : a < 4096) (w : World) : Calls Tryz.prog 108 #[.int .u16 (a : Int), .int .i64 31] w (LookPost a 31 w) := by
 go_enter Tryz.func108, Tryz.ntmps108
 go_wp2
 go_ret
 exact ⟨congrArg (fun x => Ending.returned (.int .u16 x)) (eq_of_beq (lookU lookT31 a ha)), rfl⟩
theorem lookr_32 (a : Nat) (ha : a < 4096) (w : World) : Calls Tryz.prog 108 #[.int .u16 (a : Int), .int .i64 32] w (LookPost a 32 w) := by
 go_enter Tryz.func108, Tryz.ntmps108
 go_wp2
 go_ret
 exact ⟨congrArg (fun x => Ending.returned (.int .u16 x)) (eq_of_beq (lookU lookT32 a ha)), rfl⟩
theorem lookr_33 (a : Nat) (ha : a < 4096) (w : World) : Calls Tryz.prog 108 #[.int .u16 (a : Int), .int .i64 33] w (LookPost a 33 w) := by
 go_enter Tryz.func108, Tryz.ntmps108
 go_wp2
 go_ret
 exact ⟨congrArg (fun x => Ending.returned (.int .u16 x)) (eq_of_beq (lookU lookT33 a ha)), rfl⟩
theorem lookr_34 (a : Nat) (ha : a < 4096) (w : World) : Calls Tryz.prog 108 #[.int .u16 (a : Int), .int .i64 34] w (LookPost a 34 w) := by
 go_enter Tryz.func108, Tryz.ntmps108
 go_wp2
 go_ret
 exact ⟨congrArg (fun x => Ending.returned (.int .u16 x)) (eq_of_beq (lookU lookT34 a ha)), rfl⟩
theorem lookr_35 (a : Nat) (ha : a < 4096) (w : World) : Calls Tryz.prog 108 #[.int .u16 (a : Int), .int .i64 35] w (LookPost a 35 w) := by
 go_enter Tryz.func108, Tryz.ntmps108
 go_wp2
 go_ret
 exact ⟨congrArg (fun x => Ending.returned (.int .u16 x)) (eq_of_beq (lookU lookT35 a ha)), rfl⟩
theorem lookr_36 (a : Nat) (ha : a < 4096) (w : World) : Calls Tryz.prog 108 #[.int .u16 (a : Int), .int .i64 36] w (LookPost a 36 w) := by
 go_enter Tryz.func108, Tryz.ntmps108
 go_wp2
 go_ret
 exact ⟨congrArg (fun x => Ending.returned (.int .u16 x)) (eq_of_beq (lookU lookT36 a ha)), rfl⟩
theorem lookr_37 (a : Nat) (ha : a < 4096) (w : World) : Calls Tryz.prog 108 #[.int .u16 (a : Int), .int .i64 37] w (LookPost a 37 w) := by
 go_enter Tryz.func108, Tryz.ntmps108
 go_wp2
 go_ret
 exact ⟨congrArg (fun x => Ending.returned (.int .u16 x)) (eq_of_beq (lookU lookT37 a ha)), rfl⟩
theorem lookr_39 (a : Nat) (ha : a < 4096) (w : World) : Calls Tryz.prog 108 #[.int .u16 (a : Int), .int .i64 39] w (LookPost a 39 w) := by
 go_enter Tryz.func108, Tryz.ntmps108
 go_wp2
 go_ret
 exact ⟨congrArg (fun x => Ending.returned (.int .u16 x)) (eq_of_beq (lookU lookT39 a ha)), rfl⟩
theorem lookr_40 (a : Nat) (ha : a < 4096) (w : World) : Calls Tryz.prog 108 #[.int .u16 (a : Int), .int .i64 40] w (LookPost a 40 w) := by
 go_enter Tryz.func108, Tryz.ntmps108
 go_wp2
 go_ret
 exact ⟨congrArg (fun x => Ending.returned (.int .u16 x)) (eq_of_beq (lookU lookT40 a ha)), rfl⟩
theorem lookr_41 (a : Nat) (ha : a < 4096) (w : World) : Calls Tryz.prog 108 #[.int .u16 (a : Int), .int .i64 41] w (LookPost a 41 w) := by
 go_enter Tryz.func108, Tryz.ntmps108
 go_wp2
 go_ret
 exact ⟨congrArg (fun x => Ending.returned (.int .u16 x)) (eq_of_beq (lookU lookT41 a ha)), rfl⟩
theorem lookr_42 (a : Nat) (ha : a < 4096) (w : World) : Calls Tryz.prog 108 #[.int .u16 (a : Int), .int .i64 42] w (LookPost a 42 w) := by
 go_enter Tryz.func108, Tryz.ntmps108
 go_wp2
 go_ret
 exact ⟨congrArg (fun x => Ending.returned (.int .u16 x)) (eq_of_beq (lookU lookT42 a ha)), rfl⟩
theorem lookr_43 (a : Nat) (ha : a < 4096) (w : World) : Calls Tryz.prog 108 #[.int .u16 (a : Int), .int .i64 43] w (LookPost a 43 w) := by
 go_enter Tryz.func108, Tryz.ntmps108
 go_wp2
 go_ret
 exact ⟨congrArg (fun x => Ending.returned (.int .u16 x)) (eq_of_beq (lookU lookT43 a ha)), rfl⟩
theorem lookr_44 (a : Nat) (ha : a < 4096) (w : World) : Calls Tryz.prog 108 #[.int .u16 (a : Int), .int .i64 44] w (LookPost a 44 w) := by
 go_enter Tryz.func108, Tryz.ntmps108
 go_wp2
 go_ret
 exact ⟨congrArg (fun x => Ending.returned (.int .u16 x)) (eq_of_beq (lookU lookT44 a ha)), rfl⟩
theorem lookr_45 (a : Nat) (ha : a < 4096) (w : World) : Calls Tryz.prog 108 #[.int .u16 (a : Int), .int .i64 45] w (LookPost a 45 w) := by
 go_enter Tryz.func108, Tryz.ntmps108
 go_wp2
 go_ret
 exact ⟨congrArg (fun x => Ending.returned (.int .u16 x)) (eq_of_beq (lookU lookT45 a ha)), rfl⟩
theorem lookr_46 (a : Nat) (ha : a < 4096) (w : World) : Calls Tryz.prog 108 #[.int .u16 (a : Int), .int .i64 46] w (LookPost a 46 w) := by
 go_enter Tryz.func108, Tryz.ntmps108
 go_wp2
 go_ret
 exact ⟨congrArg (fun x => Ending.returned (.int .u16 x)) (eq_of_beq (lookU lookT46 a ha)), rfl⟩
theorem lookr_47 (a : Nat) (ha : a < 4096) (w : World) : Calls Tryz.prog 108 #[.int .u16 (a : Int), .int .i64 47] w (LookPost a 47 w) := by
 go_enter Tryz.func108, Tryz.ntmps108
 go_wp2
 go_ret
 exact ⟨congrArg (fun x => Ending.returned (.int .u16 x)) (eq_of_beq (lookU lookT47 a ha)), rfl⟩
theorem lookr_49 (a : Nat) (ha : a < 4096) (w : World) : Calls Tryz.prog 108 #[.int .u16 (a : Int), .int .i64 49] w (LookPost a 49 w) := by
 go_enter Tryz.func108, Tryz.ntmps108
 go_wp2
 go_ret
 exact ⟨congrArg (fun x => Ending.returned (.int .u16 x)) (eq_of_beq (lookU lookT49 a ha)), rfl⟩
theorem lookr_no (a : Nat) (k : Int) (w : World) (hn : ¬ (k = 0 ∨ k = 1 ∨ k = 4 ∨ k = 7 ∨ k = 22 ∨ k = 24 ∨ k = 27 ∨ (30 ≤ k ∧ k ≤ 37) ∨ k = 39 ∨ (40 ≤ k ∧ k ≤ 47) ∨ k = 49)) : Calls Tryz.prog 108 #[.int .u16 (a : Int), .int .i64 k] w (LookPost a k w) := by
 have hl : lookN a k = a := by
  unfold lookN
  rw [if_neg (by omega), if_neg (by omega), if_neg (by omega), if_neg (by omega), if_neg (by omega), if_neg (by omega), if_neg (by omega), if_neg (by omega), if_neg (by omega), if_neg (by omega), if_neg (by omega)]
 have n0 : (k == 0) = false := by simp; omega
 have n1 : (k == 1) = false := by simp; omega
 have n4 : (k == 4) = false := by simp; omega
 have n7 : (k == 7) = false := by simp; omega
 have n22 : (k == 22) = false := by simp; omega
 have n24 : (k == 24) = false := by simp; omega
 have n27 : (k == 27) = false := by simp; omega
 have n39 : (k == 39) = false := by simp; omega
 have n49 : (k == 49) = false := by simp; omega
 have HL := Lib.hid hl
 have m1 : k < 30 ∨ (38 ≤ k ∧ k < 40) ∨ 48 ≤ k := by omega
 clear hl hn
 rcases m1 with m | ⟨m, m2⟩ | m
 ·go_enter Tryz.func108, Tryz.ntmps108
  go_wp2
  go_ret
  exact ⟨by rw [HL.out]; rfl, rfl⟩
 ·have m3 : 30 ≤ k := by omega
  have m4 : ¬ k ≤ 37 := by omega
  go_enter Tryz.func108, Tryz.ntmps108
  go_wp2
  go_ret
  exact ⟨by rw [HL.out]; rfl, rfl⟩
 ·have m3 : 30 ≤ k := by omega
  have m4 : ¬ k ≤ 37 := by omega
  have m5 : 40 ≤ k := by omega
  have m6 : ¬ k ≤ 47 := by omega
  go_enter Tryz.func108, Tryz.ntmps108
  go_wp2
  go_ret
  exact ⟨by rw [HL.out]; rfl, rfl⟩
theorem lookr_any (a : Nat) (k : Int) (ha : a < 4096) (w : World) : Calls Tryz.prog 108 #[.int .u16 (a : Int), .int .i64 k] w (LookPost a k w) := by
 by_cases h0 : k = 0
 ·subst h0; exact lookr_0 a ha w
 by_cases h1 : k = 1
 ·subst h1; exact lookr_1 a ha w
 by_cases h4 : k = 4
 ·subst h4; exact lookr_4 a ha w
 by_cases h7 : k = 7
 ·subst h7; exact lookr_7 a ha w
 by_cases h22 : k = 22
 ·subst h22; exact lookr_22 a ha w
 by_cases h24 : k = 24
 ·subst h24; exact lookr_24 a ha w
 by_cases h27 : k = 27
 ·subst h27; exact lookr_27 a ha w
 by_cases h30 : k = 30
 ·subst h30; exact lookr_30 a ha w
 by_cases h31 : k = 31
 ·subst h31; exact lookr_31 a ha w
 by_cases h32 : k = 32
 ·subst h32; exact lookr_32 a ha w
 by_cases h33 : k = 33
 ·subst h33; exact lookr_33 a ha w
 by_cases h34 : k = 34
 ·subst h34; exact lookr_34 a ha w
 by_cases h35 : k = 35
 ·subst h35; exact lookr_35 a ha w
 by_cases h36 : k = 36
 ·subst h36; exact lookr_36 a ha w
 by_cases h37 : k = 37
 ·subst h37; exact lookr_37 a ha w
 by_cases h39 : k = 39
 ·subst h39; exact lookr_39 a ha w
 by_cases h40 : k = 40
 ·subst h40; exact lookr_40 a ha w
 by_cases h41 : k = 41
 ·subst h41; exact lookr_41 a ha w
 by_cases h42 : k = 42
 ·subst h42; exact lookr_42 a ha w
 by_cases h43 : k = 43
 ·subst h43; exact lookr_43 a ha w
 by_cases h44 : k = 44
 ·subst h44; exact lookr_44 a ha w
 by_cases h45 : k = 45
 ·subst h45; exact lookr_45 a ha w
 by_cases h46 : k = 46
 ·subst h46; exact lookr_46 a ha w
 by_cases h47 : k = 47
 ·subst h47; exact lookr_47 a ha w
 by_cases h49 : k = 49
 ·subst h49; exact lookr_49 a ha w
 exact lookr_no a k w (by omega)
theorem lookN_ok (a : Nat) (k : Int) (h : attrB a = true) : attrB (lookN a k) = true := by
 simp only [attrB, Bool.and_eq_true, decide_eq_true_eq] at h ⊢
 unfold lookN
 repeat' split
 all_goals omega
theorem attrB_lt {a : Nat} (h : attrB a = true) : a < 4096 := by
 simp only [attrB, Bool.and_eq_true, decide_eq_true_eq] at h
 omega
end Go.Proofs.YthncoigjfhmldaaGreat
