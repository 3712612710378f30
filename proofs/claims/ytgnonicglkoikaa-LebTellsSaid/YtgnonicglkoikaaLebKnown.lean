/- What is proved here: a contract of the laws' helper 'known': it answers true. -/
import Derived.Test.YtgnonicglkoikaaLebBytes
import Derived.Test.YtgnonicglkoikaaLebZig
namespace Go.Proofs.Ytgnonicglkoikaa
open Go.RowKit
set_option linter.unusedVariables false

theorem known1 (W : World) : Calls Try.prog 16 #[.slice (some ⟨W.heap.size, 0, none⟩) 3 3] (W.alloc (.cells #[.int .u8 172, .int .u8 2, .int .u8 9] 5))
    fun e w' => e = .returned (.tuple #[.int .u64 300, .int .i64 2, .int .i64 0]) ∧ Hid (W.alloc (.cells #[.int .u8 172, .int .u8 2, .int .u8 9] 5) = w') :=
  (read_at (x := 300) (k := 2) (er := 0) (BS.lit W [172, 2, 9] 3 #[.int .u8 172, .int .u8 2, .int .u8 9] 5 rfl (by simp [vBs, vB]) (by simp)) (by simp) (by omega) (by decide)).mono fun _ _ h => h
theorem known2 (W : World) : Calls Try.prog 16 #[.slice (some ⟨W.heap.size, 0, none⟩) 2 2] (W.alloc (.cells #[.int .u8 128, .int .u8 0] 5))
    fun e w' => e = .returned (.tuple #[.int .u64 0, .int .i64 0, .int .i64 21]) ∧ Hid (W.alloc (.cells #[.int .u8 128, .int .u8 0] 5) = w') :=
  (read_at (x := 0) (k := 0) (er := 21) (BS.lit W [128, 0] 2 #[.int .u8 128, .int .u8 0] 5 rfl (by simp [vBs, vB]) (by simp)) (by simp) (by omega) (by decide)).mono fun _ _ h => h
theorem known3 (W : World) : Calls Try.prog 18 #[.slice (some ⟨W.heap.size, 0, none⟩) 4 4, .int .i64 5] (W.alloc (.cells #[.int .u8 2, .int .u8 97, .int .u8 98, .int .u8 99] 5))
    fun e w' => ∃ u, e = .returned (.tuple #[u, .int .i64 3, .int .i64 0]) ∧ BS w' w'.heap.size u [97, 98] ∧ Below W.heap.size W w' := by
  have hb := BS.lit W [2, 97, 98, 99] 4 #[.int .u8 2, .int .u8 97, .int .u8 98, .int .u8 99] 5 rfl (by simp [vBs, vB]) (by simp)
  refine (readbytes_any _ [2, 97, 98, 99] 5 _ (hb.more (by simp)) (by simp) (by omega) (by omega)).mono ?_
  rintro e w' ⟨u, rfl, hu, hbel⟩
  have hr : readB [2, 97, 98, 99] 5 = ([97, 98], 3, 0) := by decide
  rw [hr] at hu
  refine ⟨u, ?_, hu, ((Below.refl _ _).alloc (Nat.le_refl _) _).trans (hbel.mono (by simp))⟩
  rw [hr]
  rfl

set_option maxHeartbeats 400000 in
theorem known_any (w : World) : Calls Try.prog 8 #[] w fun e w' => e = .returned (.bool true) ∧ Below w.heap.size w w' := by
  go_enter Try.func8, Try.ntmps8
  go_wp2_with fail
  refine (known1 _).mono ?_
  rintro e w1 ⟨rfl, hw⟩
  have hb1 : Below w.heap.size w w1 := by rw [← hw.out]; exact (Below.refl _ _).alloc (Nat.le_refl _) _
  clear hw
  go_wp2_with fail
  refine (known2 _).mono ?_
  rintro e w2 ⟨rfl, hw⟩
  have hb2 : Below w.heap.size w w2 := by rw [← hw.out]; exact hb1.alloc hb1.size _
  clear hw hb1
  go_wp2_with fail
  refine (known3 _).mono ?_
  rintro e w3 ⟨u, rfl, hu, hbel⟩
  have hb3 : Below w.heap.size w w3 := hb2.trans (hbel.mono hb2.size)
  clear hbel hb2
  go_wp2_with fail
  refine (put_any 300 (by omega) (by omega) _).mono ?_
  rintro e w4 ⟨v, rfl, hv, hbel⟩
  have hb4 : Below w.heap.size w w4 := hb3.trans (hbel.mono hb3.size)
  have hs1 : (convert 23 9 v).run Try.prog w4 = .ok (.string ⟨#[172, 2]⟩) w4 := run_str hv.bs
  have hs2 : (convert 23 9 u).run Try.prog w4 = .ok (.string ⟨#[97, 98]⟩) w4 := run_str (hu.below hbel)
  clear hbel hb3 hv hu
  go_wp2_with fail
  refine (zig_any (-1) (by omega) (by omega) _).mono ?_
  rintro e w5 ⟨rfl, rfl⟩
  rw [show zigV (-1) = 1 from by decide]
  go_wp2_with fail
  refine (zag_any 2 (by omega) (by omega) _).mono ?_
  rintro e w5 ⟨rfl, rfl⟩
  rw [show zagV 2 = 1 from by decide]
  go_wp2
  go_ret
  exact ⟨rfl, hb4⟩
end Go.Proofs.Ytgnonicglkoikaa
