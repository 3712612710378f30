/- What is proved here: contracts of PutBytes and ReadBytes, of the program and of the document. -/
import Derived.Test.YtgnonicglkoikaaLebRead
namespace Go.Proofs.Ytgnonicglkoikaa
open Go.RowKit
set_option linter.unusedVariables false

def PBPost (l : List UInt8) (w : World) (e : Ending) (w' : World) : Prop := ∃ v, e = .returned v ∧ OB w' w.heap.size v (putB l) ∧ Below w.heap.size w w'

set_option maxHeartbeats 400000 in
theorem putbytes_any (v : Value) (l : List UInt8) (w : World) (h : BS w w.heap.size v l) (hl : l.length ≤ 1048576) : Calls Try.prog 20 #[v] w (PBPost l w) := by
  have hcp := h
  obtain ⟨A, c, rfl, _, _, _⟩ := h
  have hll := (lebP_length l.length).2
  go_enter Try.func20, Try.ntmps20
  go_wp2_with fail
  refine (put_any _ (by omega) (by omega) _).mono ?_
  rintro e w1 ⟨v1, rfl, hown, hbel⟩
  rw [Int.toNat_natCast] at hown
  have hs := hbel.size
  go_wp2_with (at_builtin; refine wpl_app _ rfl (.tmp 6) (.tmp 7) rfl w.heap.size _ _ _ _ _ rfl rfl hown (hcp.below hbel) (by omega) hs ?_; intro v2 w2 hown2 hg2 hbel2 _)
  go_ret
  exact ⟨v2, rfl, hown2, hbel.trans hbel2⟩

/-- What comes of ReadBytes. -/
def RBPost (l : List UInt8) (most : Int) (w : World) (e : Ending) (w' : World) : Prop :=
  ∃ u, e = .returned (.tuple #[u, .int .i64 ((readB l most).2.1 : Int), .int .i64 ((readB l most).2.2 : Int)]) ∧ BS w' w'.heap.size u (readB l most).1 ∧ Below w.heap.size w w'
theorem read_at {v : Value} {l : List UInt8} {B : Nat} {w : World} (h : BS w B v l) (hl : l.length ≤ 1099511627776) {x : Int} {k er : Nat} (hx : 0 ≤ x) (hr : readL l = (x.toNat, k, er)) :
    Calls Try.prog 16 #[v] w fun e w' => e = .returned (.tuple #[.int .u64 x, .int .i64 (k : Int), .int .i64 (er : Int)]) ∧ w = w' := by
  refine (read_any v l B w h hl).mono ?_
  rintro e w' ⟨rfl, rfl⟩
  refine ⟨?_, rfl⟩
  rw [hr, tup]
  simp
  omega

theorem rb_err {l : List UInt8} {most : Int} {w : World} {x k er : Nat} (hr : readL l = (x, k, er)) (he : er ≠ 0) :
    RBPost l most w (.returned (.tuple #[.slice none 0 0, .int .i64 0, .int .i64 (er : Int)])) w := by
  have h := readB_err l most (by rw [hr]; exact he)
  rw [hr] at h
  unfold RBPost
  rw [h]
  exact ⟨_, rfl, BS.nil _ _, Below.refl _ _⟩
theorem rb_long {l : List UInt8} {most x : Int} {w : World} {k : Nat} (hr : readL l = (x.toNat, k, 0)) (hx : 0 ≤ x) (h : (if most < 0 then 0 else most) < x) :
    RBPost l most w (.returned (.tuple #[.slice none 0 0, .int .i64 0, .int .i64 25])) w := by
  have h := readB_long l most (by rw [hr]) (by rw [hr]; show most.toNat < x.toNat; split at h <;> omega)
  unfold RBPost
  rw [h]
  exact ⟨_, rfl, BS.nil _ _, Below.refl _ _⟩
theorem rb_short {l : List UInt8} {most x : Int} {w : World} {k : Nat} (hr : readL l = (x.toNat, k, 0)) (hk : k ≤ l.length) (h : x ≤ (if most < 0 then 0 else most)) (h2 : (l.length : Int) - k < x) :
    RBPost l most w (.returned (.tuple #[.slice none 0 0, .int .i64 0, .int .i64 22])) w := by
  have h := readB_short l most (by rw [hr]) (by rw [hr]; show ¬ most.toNat < x.toNat; split at h <;> omega) (by rw [hr]; show l.length - k < x.toNat; omega)
  unfold RBPost
  rw [h]
  exact ⟨_, rfl, BS.nil _ _, Below.refl _ _⟩
theorem rb_ok {l : List UInt8} {most x : Int} {w w' : World} {k : Nat} {u : Value} (hx : 0 ≤ x) (hr : readL l = (x.toNat, k, 0)) (hk : k ≤ l.length) (h : x ≤ (if most < 0 then 0 else most)) (h2 : x ≤ (l.length : Int) - k)
    (hb : BS w' w'.heap.size u ((l.drop k).take x.toNat)) (hbel : Below w.heap.size w w') :
    RBPost l most w (.returned (.tuple #[u, .int .i64 ((k : Int) + x), .int .i64 0])) w' := by
  have h := readB_ok l most (by rw [hr]) (by rw [hr]; show ¬ most.toNat < x.toNat; split at h <;> omega) (by rw [hr]; show ¬ l.length - k < x.toNat; omega)
  rw [hr] at h
  unfold RBPost
  rw [h]
  refine ⟨u, ?_, hb, hbel⟩
  have e : ((k + x.toNat : Nat) : Int) = (k : Int) + x := by omega
  show _ = Ending.returned (.tuple #[u, .int .i64 ((k + x.toNat : Nat) : Int), .int .i64 ((0 : Nat) : Int)])
  rw [e]
  rfl

set_option maxHeartbeats 400000 in
theorem readbytes_any (v : Value) (l : List UInt8) (most : Int) (w : World) (h : BS w w.heap.size v l) (hl : l.length ≤ 1048576) (hm0 : -9223372036854775808 ≤ most) (hm1 : most < 9223372036854775808) :
    Calls Try.prog 18 #[v, .int .i64 most] w (RBPost l most w) := by
  have hcp := h
  obtain ⟨A, c, rfl, hc1, hc2, _⟩ := h
  obtain ⟨x, k, er, hx, hr⟩ : ∃ (x : Int) (k er : Nat), 0 ≤ x ∧ readL l = (x.toNat, k, er) := ⟨((readL l).1 : Int), (readL l).2.1, (readL l).2.2, by omega, by simp⟩
  obtain ⟨hb1, hb2, hb3⟩ := readL_bd l
  rw [hr] at hb1 hb2 hb3
  have hx1 : x < 18446744073709551616 := by simp at hb1; omega
  have hk : k ≤ l.length := hb2
  have her : er ≤ 22 := by simp at hb3; omega
  have HR := Lib.hid hr
  have hc3 : (c : Int) ≤ 9223372036854775807 := by unfold maxLen at hc2; omega
  clear hr hb1 hb2 hb3 hc2
  by_cases he : er = 0
  · subst he
    by_cases hlong : (if most < 0 then 0 else most) < x
    · have HLO := Lib.hid hlong
      clear hlong
      by_cases hneg : most < 0
      · have b1 : 0 < x := by have := HLO.out; rw [if_pos hneg] at this; exact this
        go_enter Try.func18, Try.ntmps18
        go_wp2_with fail
        refine (read_at hcp (by omega) hx HR.out).mono ?_
        rintro e w1 ⟨rfl, rfl⟩
        go_wp2
        go_ret3
        exact rb_long HR.out hx HLO.out
      · have b1 : most < x := by have := HLO.out; rw [if_neg hneg] at this; exact this
        go_enter Try.func18, Try.ntmps18
        go_wp2_with fail
        refine (read_at hcp (by omega) hx HR.out).mono ?_
        rintro e w1 ⟨rfl, rfl⟩
        go_wp2
        go_ret3
        exact rb_long HR.out hx HLO.out
    · have HLO := Lib.hid hlong
      clear hlong
      by_cases hsh : (l.length : Int) - k < x
      · by_cases hneg : most < 0
        · have b1 : x ≤ 0 := by have := HLO.out; rw [if_pos hneg] at this; omega
          omega
        · have b1 : x ≤ most := by have := HLO.out; rw [if_neg hneg] at this; omega
          go_enter Try.func18, Try.ntmps18
          go_wp2_with fail
          refine (read_at hcp (by omega) hx HR.out).mono ?_
          rintro e w1 ⟨rfl, rfl⟩
          go_wp2
          go_ret3
          exact rb_short HR.out hk HLO.out hsh
      · by_cases hneg : most < 0
        all_goals
          have b1 : x ≤ 0 ∨ x ≤ most := by have := HLO.out; split at this <;> omega
          go_enter Try.func18, Try.ntmps18
          go_wp2_with fail
          refine (read_at hcp (by omega) hx HR.out).mono ?_
          rintro e w1 ⟨rfl, rfl⟩
          go_wp2_with (at_builtin; refine wpl_app _ rfl _ _ rfl w.heap.size _ _ _ [] _ rfl rfl (OB.nil _ _) (hcp.cut k x.toNat _ (by omega) (by omega)) (by simp; omega) (Nat.le_refl _) ?_; intro v1 w1 hown1 hg1 hbel1 _)
          all_goals (go_ret3; exact rb_ok hx HR.out hk HLO.out hsh (OB.bs hown1) hbel1)
  · have HE := Lib.hid he
    have b1 : ((er : Int) == 0) = false := by simp; omega
    have b2 : ((er : Int) != 0) = true := by simp; omega
    clear he
    go_enter Try.func18, Try.ntmps18
    go_wp2_with fail
    refine (read_at hcp (by omega) hx HR.out).mono ?_
    rintro e w1 ⟨rfl, rfl⟩
    go_wp2
    go_ret3
    exact rb_err HR.out HE.out
set_option maxHeartbeats 400000 in
theorem putbytesr_any (v : Value) (l : List UInt8) (w : World) (h : BS w w.heap.size v l) (hl : l.length ≤ 1048576) : Calls Try.prog 21 #[v] w (PBPost l w) := by
  have hcp := h
  obtain ⟨A, c, rfl, _, _, _⟩ := h
  have hll := (lebP_length l.length).2
  go_enter Try.func21, Try.ntmps21
  go_wp2_with fail
  refine (putr_any _ (by omega) (by omega) _).mono ?_
  rintro e w1 ⟨v1, rfl, hown, hbel⟩
  rw [Int.toNat_natCast] at hown
  have hs := hbel.size
  go_wp2_with (at_builtin; refine wpl_app _ rfl (.tmp 6) (.tmp 7) rfl w.heap.size _ _ _ _ _ rfl rfl hown (hcp.below hbel) (by omega) hs ?_; intro v2 w2 hown2 hg2 hbel2 _)
  go_ret
  exact ⟨v2, rfl, hown2, hbel.trans hbel2⟩


theorem readr_at {v : Value} {l : List UInt8} {B : Nat} {w : World} (h : BS w B v l) (hl : l.length ≤ 1099511627776) {x : Int} {k er : Nat} (hx : 0 ≤ x) (hr : readL l = (x.toNat, k, er)) :
    Calls Try.prog 17 #[v] w fun e w' => e = .returned (.tuple #[.int .u64 x, .int .i64 (k : Int), .int .i64 (er : Int)]) ∧ w = w' := by
  refine (readr_any v l B w h hl).mono ?_
  rintro e w' ⟨rfl, rfl⟩
  refine ⟨?_, rfl⟩
  rw [hr, tup]
  simp
  omega


set_option maxHeartbeats 400000 in
theorem readbytesr_any (v : Value) (l : List UInt8) (most : Int) (w : World) (h : BS w w.heap.size v l) (hl : l.length ≤ 1048576) (hm0 : -9223372036854775808 ≤ most) (hm1 : most < 9223372036854775808) :
    Calls Try.prog 19 #[v, .int .i64 most] w (RBPost l most w) := by
  have hcp := h
  obtain ⟨A, c, rfl, hc1, hc2, _⟩ := h
  obtain ⟨x, k, er, hx, hr⟩ : ∃ (x : Int) (k er : Nat), 0 ≤ x ∧ readL l = (x.toNat, k, er) := ⟨((readL l).1 : Int), (readL l).2.1, (readL l).2.2, by omega, by simp⟩
  obtain ⟨hb1, hb2, hb3⟩ := readL_bd l
  rw [hr] at hb1 hb2 hb3
  have hx1 : x < 18446744073709551616 := by simp at hb1; omega
  have hk : k ≤ l.length := hb2
  have her : er ≤ 22 := by simp at hb3; omega
  have HR := Lib.hid hr
  have hc3 : (c : Int) ≤ 9223372036854775807 := by unfold maxLen at hc2; omega
  clear hr hb1 hb2 hb3 hc2
  by_cases he : er = 0
  · subst he
    by_cases hlong : (if most < 0 then 0 else most) < x
    · have HLO := Lib.hid hlong
      clear hlong
      by_cases hneg : most < 0
      · have b1 : 0 < x := by have := HLO.out; rw [if_pos hneg] at this; exact this
        go_enter Try.func19, Try.ntmps19
        go_wp2_with fail
        refine (readr_at hcp (by omega) hx HR.out).mono ?_
        rintro e w1 ⟨rfl, rfl⟩
        go_wp2
        go_ret3
        exact rb_long HR.out hx HLO.out
      · have b1 : most < x := by have := HLO.out; rw [if_neg hneg] at this; exact this
        go_enter Try.func19, Try.ntmps19
        go_wp2_with fail
        refine (readr_at hcp (by omega) hx HR.out).mono ?_
        rintro e w1 ⟨rfl, rfl⟩
        go_wp2
        go_ret3
        exact rb_long HR.out hx HLO.out
    · have HLO := Lib.hid hlong
      clear hlong
      by_cases hsh : (l.length : Int) - k < x
      · by_cases hneg : most < 0
        · have b1 : x ≤ 0 := by have := HLO.out; rw [if_pos hneg] at this; omega
          omega
        · have b1 : x ≤ most := by have := HLO.out; rw [if_neg hneg] at this; omega
          go_enter Try.func19, Try.ntmps19
          go_wp2_with fail
          refine (readr_at hcp (by omega) hx HR.out).mono ?_
          rintro e w1 ⟨rfl, rfl⟩
          go_wp2
          go_ret3
          exact rb_short HR.out hk HLO.out hsh
      · by_cases hneg : most < 0
        all_goals
          have b1 : x ≤ 0 ∨ x ≤ most := by have := HLO.out; split at this <;> omega
          go_enter Try.func19, Try.ntmps19
          go_wp2_with fail
          refine (readr_at hcp (by omega) hx HR.out).mono ?_
          rintro e w1 ⟨rfl, rfl⟩
          have hcut := hcp.cut k x.toNat ((↑k + x).toNat - k) (by omega) (by omega)
          have HC := Lib.hid hcut
          clear hcut
          go_wp2
          · have hb := HC.out
            rw [if_pos h, h, Nat.sub_self] at hb
            go_ret3
            exact rb_ok hx HR.out hk HLO.out hsh hb (Below.refl _ _)
          · have hb := HC.out
            rw [if_neg h] at hb
            go_ret3
            exact rb_ok hx HR.out hk HLO.out hsh hb (Below.refl _ _)
  · have HE := Lib.hid he
    have b1 : ((er : Int) == 0) = false := by simp; omega
    have b2 : ((er : Int) != 0) = true := by simp; omega
    clear he
    go_enter Try.func19, Try.ntmps19
    go_wp2_with fail
    refine (readr_at hcp (by omega) hx HR.out).mono ?_
    rintro e w1 ⟨rfl, rfl⟩
    go_wp2
    go_ret3
    exact rb_err HR.out HE.out
end Go.Proofs.Ytgnonicglkoikaa
