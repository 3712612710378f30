/- What is proved here: a contract of the document's function that applies a delta: in new memory. -/
import Derived.Test.YtmggknoaiaeojaaDeltaMake
import Derived.Test.YtmggknoaiaeojaaLebRead
namespace Go.Proofs.Ytmggknoaiaeojaa
open Go.RowKit
set_option linter.unusedVariables false

/-- What comes of Apply. -/
def ApplyPost (old d : List UInt8) (most : Int) (w : World) (e : Ending) (w' : World) : Prop :=
  ∃ v, e = .returned (.tuple #[v, .int .i64 ((applyL old d most).2 : Int)]) ∧ BS w' w'.heap.size v (applyL old d most).1 ∧ Below w.heap.size w w'
theorem readr_at {v : Value} {l : List UInt8} {B : Nat} {w : World} (h : BS w B v l) (hl : l.length ≤ 1099511627776) {x : Int} {k er : Nat} (hx : 0 ≤ x) (hr : readL l = (x.toNat, k, er)) :
    Calls Try.prog 21 #[v] w fun e w' => e = .returned (.tuple #[.int .u64 x, .int .i64 (k : Int), .int .i64 (er : Int)]) ∧ w = w' := by
  refine (readr_any v l B w h hl).mono ?_
  rintro e w' ⟨rfl, rfl⟩
  refine ⟨?_, rfl⟩
  rw [hr, tup]
  simp
  omega
/-- A number that is read, as an Int. -/
theorem readL_ex (l : List UInt8) : ∃ (x : Int) (k er : Nat), readL l = (x.toNat, k, er) ∧ 0 ≤ x ∧ x < 18446744073709551616 ∧ k ≤ l.length ∧ (er = 0 → 1 ≤ k) ∧ (er = 0 ∨ er = 21 ∨ er = 22) := by
  have h := readL_bd l
  have hp := readL_pos l
  refine ⟨((readL l).1 : Int), (readL l).2.1, (readL l).2.2, by rw [Int.toNat_natCast], by omega, by omega, h.2.1, hp, h.2.2⟩

def ApRel (old d : List UInt8) (most : Int) (w0 : World) (dv ov rv : Value) (wr : World) : Prop :=
  ∃ (dl lo : List UInt8) (room : Int), BS wr w0.heap.size dv dl ∧ OB wr w0.heap.size ov lo ∧ rv = .int .u64 room ∧ 0 ≤ room ∧ room < 9223372036854775808 ∧ Below w0.heap.size w0 wr ∧ dl.length ≤ d.length ∧ lo.length + dl.length * 1048576 ≤ d.length * 1048576 ∧ applyF old d.length dl room.toNat lo = applyL old d most

theorem ap_err {old d dl lo : List UInt8} {most room : Int} {w wr : World} {e : Nat} {c : Int} (hap : applyF old d.length dl room.toNat lo = applyL old d most) (h : applyF old d.length dl room.toNat lo = ([], e)) (hc : c = (e : Int)) (hb : Below w.heap.size w wr) :
    ApplyPost old d most w (.returned (.tuple #[.slice none 0 0, .int .i64 c])) wr := by
  unfold ApplyPost
  rw [← hap, h, hc]
  exact ⟨_, rfl, BS.nil _ _, hb⟩
theorem toNat_half (x : Int) (h : 0 ≤ x) : x.toNat / 2 = (x / 2).toNat := by omega
theorem toNat_odd (x : Int) (h0 : 0 ≤ x) (h : x % 2 = 1) : x.toNat % 2 = 1 := by omega
theorem toNat_even (x : Int) (h0 : 0 ≤ x) (h : x % 2 = 0) : x.toNat % 2 = 0 := by omega

set_option maxHeartbeats 4000000 in
set_option maxRecDepth 100000 in
theorem applyr_any (v1 v2 : Value) (old d : List UInt8) (most : Int) (w : World) (h1 : BS w w.heap.size v1 old) (h2 : BS w w.heap.size v2 d) (hl1 : old.length ≤ 1048576) (hl2 : d.length ≤ 1048576) (hm0 : -9223372036854775808 ≤ most) (hm1 : most < 9223372036854775808) :
    Calls Try.prog 12 #[v1, v2, .int .i64 most] w (ApplyPost old d most w) := by
  have HO := Lib.hid h1
  have HD := Lib.hid h2
  obtain ⟨A1, c1, rfl, g1, g2, -⟩ := h1.at_
  obtain ⟨A2, c2, rfl, g3, g4, -⟩ := h2.at_
  unfold maxLen at g2 g4
  clear h1 h2
  obtain ⟨R, hR⟩ : ∃ R, (if most < 0 then 0 else most) = R := ⟨_, rfl⟩
  have R0 : 0 ≤ R := by split at hR <;> omega
  have R1 : R < 9223372036854775808 := by split at hR <;> omega
  have HR0 : Hid (R.toNat = most.toNat) := by
    show R.toNat = most.toNat
    split at hR <;> omega
  go_enter Try.func12, Try.ntmps12
  go_wp2
  clear hR
  go_loopw [1, 8, 9] (fun dv ov rv wr => ApRel old d most w dv ov rv wr) (fun dv _ _ _ => match dv with | .slice _ n _ => n | _ => 0)
  case atStart => exact ⟨d, [], R, HD.out, OB.nil _ _, rfl, by omega, by omega, Below.refl _ _, Nat.le_refl _, by simp, by rw [HR0.out]; rfl⟩
  case round =>
    obtain ⟨dl, lo, room, hd, ho, rfl, r0, r1, hbel, hdl, hlo, hap⟩ := hrel
    obtain ⟨A3, c3, rfl, g5, g6, -⟩ := hd.at_
    unfold maxLen at g6
    by_cases hlt : 0 < dl.length
    · obtain ⟨x, k, er, hr, x0, x1, hk, hk1, her⟩ := readL_ex dl
      have hread := readr_at hd (by omega) x0 hr
      have HD2 := Lib.hid hd
      have HOO := Lib.hid ho
      have HAP := Lib.hid hap
      have HR := Lib.hid hr
      have HK1 := Lib.hid hk1
      clear hd ho hap hr hk1
      by_cases he : er = 0
      · subst he
        have hk1 := HK1.out rfl
        obtain ⟨A4, hif⟩ : ∃ A4, (if c3 = k then A3 else Option.map (fun x => x.add k) A3) = A4 := ⟨_, rfl⟩
        have hd1 : BS wr w.heap.size (.slice A4 (dl.length - k) (c3 - k)) (dl.drop k) := by
          have h := HD2.out.cut k (dl.length - k) (dl.length - k) (by omega) rfl
          rw [hif, List.take_of_length_le (by simp)] at h
          exact h
        have hdle : (dl.drop k).length = dl.length - k := by simp
        by_cases hodd : x % 2 = 1
        · have hodd0 := toNat_odd x x0 hodd
          obtain ⟨y, k2, er2, hr2, y0, y1, hk2, -, her2⟩ := readL_ex (dl.drop k)
          have hread2 := readr_at hd1 (by simp; omega) y0 hr2
          rw [hdle] at hk2
          have HR2 := Lib.hid hr2
          have HOD := Lib.hid hodd0
          have HD3 := Lib.hid hd1
          clear hr2 hodd0 hd1 hdle
          by_cases he2 : er2 = 0
          · subst he2
            have hst := applyF_odd old d.length dl room.toNat lo x.toNat k y.toNat k2 hdl HR.out HOD.out HR2.out
            rw [toNat_half x x0] at hst
            obtain ⟨A5, hif5⟩ : ∃ A5, (if c3 - k = k2 then A4 else Option.map (fun x => x.add k2) A4) = A5 := ⟨_, rfl⟩
            by_cases n0 : x / 2 = 0
            · rw [if_pos (by omega)] at hst
              have HST := Lib.hid hst
              clear hst
              go_wp2_with (first
                | (go_at_call 21; (with_reducible refine hread.mono ?_); rintro e w1 ⟨rfl, rfl⟩)
                | (go_at_call 21; (with_reducible refine hread2.mono ?_); rintro e w1 ⟨rfl, rfl⟩))
              go_ret2
              exact ap_err HAP.out HST.out rfl hbel
            rw [if_neg (by omega)] at hst
            have n0' : (x / 2 == 0) = false := beq_eq_false_iff_ne.2 n0
            have n1 : 0 < x / 2 := by omega
            clear n0
            by_cases hrm : room < x / 2
            · rw [if_pos (by omega)] at hst
              have HST := Lib.hid hst
              clear hst
              go_wp2_with (first
                | (go_at_call 21; (with_reducible refine hread.mono ?_); rintro e w1 ⟨rfl, rfl⟩)
                | (go_at_call 21; (with_reducible refine hread2.mono ?_); rintro e w1 ⟨rfl, rfl⟩))
              go_ret2
              exact ap_err HAP.out HST.out rfl hbel
            rw [if_neg (by omega)] at hst
            have hrm' : decide (room < x / 2) = false := by simp; omega
            by_cases hy : (old.length : Int) < y
            · rw [if_pos (by omega)] at hst
              have HST := Lib.hid hst
              clear hst
              go_wp2_with (first
                | (go_at_call 21; (with_reducible refine hread.mono ?_); rintro e w1 ⟨rfl, rfl⟩)
                | (go_at_call 21; (with_reducible refine hread2.mono ?_); rintro e w1 ⟨rfl, rfl⟩))
              go_ret2
              exact ap_err HAP.out HST.out rfl hbel
            have hy' : decide ((old.length : Int) < y) = false := by simp; omega
            by_cases hy2 : (old.length : Int) - y < x / 2
            · rw [if_pos (by omega)] at hst
              have HST := Lib.hid hst
              clear hst
              go_wp2_with (first
                | (go_at_call 21; (with_reducible refine hread.mono ?_); rintro e w1 ⟨rfl, rfl⟩)
                | (go_at_call 21; (with_reducible refine hread2.mono ?_); rintro e w1 ⟨rfl, rfl⟩))
              go_ret2
              exact ap_err HAP.out HST.out rfl hbel
            rw [if_neg (by omega)] at hst
            have hy2' : decide ((old.length : Int) - y < x / 2) = false := by simp; omega
            clear y1
            obtain ⟨a, rfl⟩ : ∃ a : Nat, y = (a : Int) := ⟨y.toNat, by omega⟩
            obtain ⟨n, hn⟩ : ∃ n : Nat, x / 2 = (n : Int) := ⟨(x / 2).toNat, by omega⟩
            rw [hn] at hst n0' n1 hrm hrm' hy2 hy2'
            rw [Int.toNat_natCast, Int.toNat_natCast] at hst
            have hn1 : a + n ≤ old.length := by omega
            have hrr : room.toNat - n = (room - (n : Int)).toNat := by omega
            rw [hrr] at hst
            have HST := Lib.hid hst
            clear hst hrr
            have hd5 : BS wr w.heap.size (.slice A5 (dl.length - k - k2) (c3 - k - k2)) ((dl.drop k).drop k2) := by
              have h := HD3.out.cut k2 (dl.length - k - k2) (dl.length - k - k2) (by simp; omega) rfl
              rw [hif5, List.take_of_length_le (by simp; omega)] at h
              exact h
            obtain ⟨A6, hif6⟩ : ∃ A6, (if c1 = a then A1 else Option.map (fun x => x.add a) A1) = A6 := ⟨_, rfl⟩
            have ho6 : BS wr w.heap.size (.slice A6 n (c1 - a)) ((old.drop a).take n) := by
              have h := (HO.out.below hbel).cut a n n (by omega) rfl
              rw [hif6] at h
              exact h
            have HD5 := Lib.hid hd5
            have HO6 := Lib.hid ho6
            clear hd5 ho6
            have hln : ((old.drop a).take n).length ≤ 1048576 := by simp; omega
            go_wp2_with (first
              | (go_at_call 21; (with_reducible refine hread.mono ?_); rintro e w1 ⟨rfl, rfl⟩)
              | (go_at_call 21; (with_reducible refine hread2.mono ?_); rintro e w1 ⟨rfl, rfl⟩)
              | (at_builtin; refine wpl_app _ rfl (.tmp 102) (.tmp 108) rfl w.heap.size _ _ (.slice A6 n (c1 - a)) lo ((old.drop a).take n) rfl (by go_simp) HOO.out HO6.out (by omega) hbel.size ?_; intro v3 w3 ho3 hg3 hb3 _))
            go_roundw
            case rel => exact ⟨(dl.drop k).drop k2, lo ++ (old.drop a).take n, room - (n : Int), HD5.out.below hb3, ho3, rfl, by omega, by omega, hbel.trans hb3, by simp; omega, by simp only [List.length_append, List.length_drop]; omega, HST.out.symm.trans HAP.out⟩
            case measure =>
              show dl.length - k - k2 < dl.length
              omega
          · have HST := Lib.hid (applyF_odd_err old d.length dl room.toNat lo x.toNat k y.toNat k2 er2 hdl HR.out HOD.out HR2.out he2)
            have e1 : ((er2 : Int) != 0) = true := by simp; omega
            go_wp2_with (first
                | (go_at_call 21; (with_reducible refine hread.mono ?_); rintro e w1 ⟨rfl, rfl⟩)
                | (go_at_call 21; (with_reducible refine hread2.mono ?_); rintro e w1 ⟨rfl, rfl⟩))
            go_ret2
            exact ap_err HAP.out HST.out rfl hbel
        · have hev : x % 2 = 0 := by omega
          clear hodd
          have hst := applyF_even old d.length dl room.toNat lo x.toNat k hdl HR.out (toNat_even x x0 hev)
          rw [toNat_half x x0, hdle] at hst
          have HD3 := Lib.hid hd1
          clear hd1 hdle
          by_cases n0 : x / 2 = 0
          · rw [if_pos (by omega)] at hst
            have HST := Lib.hid hst
            clear hst
            go_wp2_with (go_at_call 21; (with_reducible refine hread.mono ?_); rintro e w1 ⟨rfl, rfl⟩)
            go_ret2
            exact ap_err HAP.out HST.out rfl hbel
          rw [if_neg (by omega)] at hst
          have n0' : (x / 2 == 0) = false := beq_eq_false_iff_ne.2 n0
          have n1 : 0 < x / 2 := by omega
          clear n0
          by_cases hrm : room < x / 2
          · rw [if_pos (by omega)] at hst
            have HST := Lib.hid hst
            clear hst
            go_wp2_with (go_at_call 21; (with_reducible refine hread.mono ?_); rintro e w1 ⟨rfl, rfl⟩)
            go_ret2
            exact ap_err HAP.out HST.out rfl hbel
          rw [if_neg (by omega)] at hst
          have hrm' : decide (room < x / 2) = false := by simp; omega
          by_cases hy : ((dl.length - k : Nat) : Int) < x / 2
          · rw [if_pos (by omega)] at hst
            have HST := Lib.hid hst
            clear hst
            go_wp2_with (go_at_call 21; (with_reducible refine hread.mono ?_); rintro e w1 ⟨rfl, rfl⟩)
            go_ret2
            exact ap_err HAP.out HST.out rfl hbel
          rw [if_neg (by omega)] at hst
          have hy' : decide (((dl.length - k : Nat) : Int) < x / 2) = false := by simp; omega
          obtain ⟨n, hn⟩ : ∃ n : Nat, x / 2 = (n : Int) := ⟨(x / 2).toNat, by omega⟩
          rw [hn] at hst n0' n1 hrm hrm' hy hy'
          rw [Int.toNat_natCast] at hst
          have hn1 : n ≤ dl.length - k := by omega
          have hck : ¬ c3 = k := by omega
          rw [if_neg hck] at hif
          have hy'' : decide (dl.length - k < n) = false := by simp; omega
          have hrr : room.toNat - n = (room - (n : Int)).toNat := by omega
          rw [hrr] at hst
          have HST := Lib.hid hst
          clear hst hrr
          obtain ⟨A5, hif5⟩ : ∃ A5, (if c3 - k = n then A4 else Option.map (fun x => x.add n) A4) = A5 := ⟨_, rfl⟩
          have hd5 : BS wr w.heap.size (.slice A5 (dl.length - k - n) (c3 - k - n)) ((dl.drop k).drop n) := by
            have h := HD3.out.cut n (dl.length - k - n) (dl.length - k - n) (by simp; omega) rfl
            rw [hif5, List.take_of_length_le (by simp; omega)] at h
            exact h
          have ho6 : BS wr w.heap.size (.slice A4 n (c3 - k)) ((dl.drop k).take n) := HD3.out.cutH n n (by simp; omega) rfl
          have HD5 := Lib.hid hd5
          have HO6 := Lib.hid ho6
          clear hd5 ho6
          have hln : ((dl.drop k).take n).length ≤ 1048576 := by simp; omega
          go_wp2_with (first
            | (go_at_call 21; (with_reducible refine hread.mono ?_); rintro e w1 ⟨rfl, rfl⟩)
            | (at_builtin; refine wpl_app _ rfl (.tmp 94) (.tmp 97) rfl w.heap.size _ _ (.slice A4 n (c3 - k)) lo ((dl.drop k).take n) rfl (by go_simp) HOO.out HO6.out (by omega) hbel.size ?_; intro v3 w3 ho3 hg3 hb3 _))
          go_roundw
          case rel => exact ⟨(dl.drop k).drop n, lo ++ (dl.drop k).take n, room - (n : Int), HD5.out.below hb3, ho3, rfl, by omega, by omega, hbel.trans hb3, by simp; omega, by simp only [List.length_append, List.length_drop]; omega, HST.out.symm.trans HAP.out⟩
          case measure =>
            show dl.length - k - n < dl.length
            omega
      · have HST := Lib.hid (applyF_err old d.length dl room.toNat lo x.toNat k er hlt hdl HR.out he)
        have e1 : ((er : Int) != 0) = true := by simp; omega
        go_wp2_with (go_at_call 21; (with_reducible refine hread.mono ?_); rintro e w1 ⟨rfl, rfl⟩)
        go_ret2
        exact ap_err HAP.out HST.out rfl hbel
    · have hnil : dl = [] := List.eq_nil_of_length_eq_zero (by omega)
      subst hnil
      rw [applyF_nil] at hap
      have HAP := Lib.hid hap
      clear hap
      go_wp2
      go_ret2
      exact ⟨_, by rw [← HAP.out]; rfl, by rw [← HAP.out]; exact ho.bs, hbel⟩
end Go.Proofs.Ytmggknoaiaeojaa
