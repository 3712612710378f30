/- What is proved here: a contract of the laws' helper 'edge': it answers some number below 2^64. -/
import Derived.Test.YtgnonicglkoikaaLebBytes
import Derived.Test.YtgnonicglkoikaaLebZig
namespace Go.Proofs.Ytgnonicglkoikaa
open Go.RowKit
set_option linter.unusedVariables false

def EdgePost (w : World) (e : Ending) (w' : World) : Prop := ∃ x : Int, 0 ≤ x ∧ x < 18446744073709551616 ∧ e = .returned (.int .u64 x) ∧ Below w.heap.size w w'

set_option maxHeartbeats 1600000 in
theorem edge_any (n k : Int) (hn0 : 0 ≤ n) (hn1 : n < 18446744073709551616) (hk0 : 0 ≤ k) (hk1 : k < 256) (w : World) :
    Calls Try.prog 9 #[.int .u64 n, .int .u8 k] w (EdgePost w) := by
  have hj : k % 13 = 0 ∨ k % 13 = 1 ∨ k % 13 = 2 ∨ k % 13 = 3 ∨ k % 13 = 4 ∨ k % 13 = 5 ∨ k % 13 = 6 ∨ k % 13 = 7 ∨ k % 13 = 8 ∨ k % 13 = 9 ∨ k % 13 = 10 ∨ k % 13 = 11 ∨ k % 13 = 12 := by omega
  rcases hj with h | h | h | h | h | h | h | h | h | h | h | h | h
  all_goals
    go_enter Try.func9, Try.ntmps9
    go_wp2
    go_ret
    refine ⟨_, ?_, ?_, rfl, (Below.refl _ _).alloc (Nat.le_refl _) _⟩ <;> omega
end Go.Proofs.Ytgnonicglkoikaa
