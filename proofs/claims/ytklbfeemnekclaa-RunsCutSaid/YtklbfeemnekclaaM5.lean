/- What is proved here: a contract of the document's function that reads cells out of bytes: in new memory. -/
import Derived.Test.YtklbfeemnekclaaM3
import Derived.Test.YtklbfeemnekclaaM4
import Derived.Deep.CutRange
import Derived.Deep.RegionWith
namespace Go.Proofs.Ytklbfeemnekclaa
open Go.RowKit
set_option linter.unusedVariables false
set_option linter.unusedSimpArgs false

theorem readr_at6 {v : Value} {l : List UInt8} {B : Nat} {w : World} (h : BS w B v l) (hl : l.length ≤ 1099511627776) {x : Int} {k er : Nat} (hx : 0 ≤ x) (hr : readL l = (x.toNat, k, er)) :
    Calls Try.prog 26 #[v] w fun e w' => e = .returned (.tuple #[.int .u64 x, .int .i64 (k : Int), .int .i64 (er : Int)]) ∧ w = w' := by
  refine (readr_any v l B w h hl).mono ?_
  rintro e w' ⟨rfl, rfl⟩
  refine ⟨?_, rfl⟩
  rw [hr, tup]
  simp
  omega
theorem readL_ex6 (l : List UInt8) : ∃ (x : Int) (k er : Nat), readL l = (x.toNat, k, er) ∧ 0 ≤ x ∧ x < 18446744073709551616 ∧ k ≤ l.length ∧ (er = 0 ∨ er = 21 ∨ er = 22) := by
  have h := readL_bd l
  exact ⟨((readL l).1 : Int), (readL l).2.1, (readL l).2.2, by rw [Int.toNat_natCast], by omega, by omega, h.2.1, h.2.2⟩
def ReadCPost (b : List UInt8) (n : Int) (w : World) (e : Ending) (w' : World) : Prop :=
  ∃ u, e = .returned (.tuple #[u, .int .i64 ((readCL b n).2.1 : Int), .int .i64 ((readCL b n).2.2 : Int)]) ∧ OC w' w.heap.size u (readCL b n).1 ∧ Below w.heap.size w w'
/-- At the loop's head: so many cells, so many bytes. -/
def RcRel (b : List UInt8) (n : Int) (w0 : World) (o a : Value) (wr : World) : Prop :=
  ∃ (out : List Cl) (at_ : Nat), at_ ≤ b.length ∧ a = .int .i64 (at_ : Int) ∧ OC wr w0.heap.size o out ∧ Below w0.heap.size w0 wr ∧ (out.length : Int) ≤ max n 0 ∧ readF n.toNat n.toNat (b.drop at_) out at_ = readCL b n
theorem cell3 {w : World} {g : Nat} {xs : Array Value} {t : TypeId} (h : w.heap[g]? = some (.cells xs t)) (i : Nat) {v : Value} (hv : xs[i]? = some v) : w.cell? ⟨g, i, none⟩ = some v ∧ w.frozen? ⟨g, i, none⟩ = false :=
  ⟨by rw [cell_of_row w g i _ t _ h]; exact hv, by simp [World.frozen?, h]⟩
theorem lt3 {w : World} {b : Nat} {o : Obj} (h : w.heap[b]? = some o) : b < w.heap.size := by
  rcases Nat.lt_or_ge b w.heap.size with c | c
  · exact c
  · rw [Array.getElem?_eq_none c] at h; cases h
/-- So many of the three numbers have been read. -/
def Num3 (b : List UInt8) (at_ i a : Nat) (y1 y2 y3 : Int) : Prop :=
  (i = 0 ∧ a = at_ ∧ y1 = 0 ∧ y2 = 0 ∧ y3 = 0) ∨
  (i = 1 ∧ y2 = 0 ∧ y3 = 0 ∧ ∃ k1, readL (b.drop at_) = (y1.toNat, k1, 0) ∧ a = at_ + k1) ∨
  (i = 2 ∧ y3 = 0 ∧ ∃ k1 k2, readL (b.drop at_) = (y1.toNat, k1, 0) ∧ readL ((b.drop at_).drop k1) = (y2.toNat, k2, 0) ∧ a = at_ + k1 + k2) ∨
  (i = 3 ∧ ∃ k1 k2 k3, readL (b.drop at_) = (y1.toNat, k1, 0) ∧ readL ((b.drop at_).drop k1) = (y2.toNat, k2, 0) ∧ readL ((b.drop at_).drop (k1 + k2)) = (y3.toNat, k3, 0) ∧ a = at_ + k1 + k2 + k3)
def NumRel (b : List UInt8) (at_ : Nat) (w5 : World) (av iv : Value) (wr : World) : Prop :=
  ∃ (i a : Nat) (y1 y2 y3 : Int), i ≤ 3 ∧ iv = .int .i64 (i : Int) ∧ av = .int .i64 (a : Int) ∧ a ≤ b.length ∧ 0 ≤ y1 ∧ y1 < 18446744073709551616 ∧ 0 ≤ y2 ∧ y2 < 18446744073709551616 ∧ 0 ≤ y3 ∧ y3 < 18446744073709551616 ∧ Num3 b at_ i a y1 y2 y3 ∧ wr.heap[w5.heap.size]? = some (.cells #[.int .u64 y1, .int .u64 y2, .int .u64 y3] 68) ∧ Below w5.heap.size w5 wr
theorem num_err {b : List UInt8} {at_ i a : Nat} {y1 y2 y3 : Int} {v k e : Nat} (h : Num3 b at_ i a y1 y2 y3) (hi : i < 3) (hr : readL (b.drop a) = (v, k, e)) (he : e ≠ 0) : run3 (b.drop at_) = ((0, 0, 0), 0, e) := by
  rcases h with ⟨rfl, rfl, -⟩ | ⟨rfl, -, -, k1, h1, rfl⟩ | ⟨rfl, -, k1, k2, h1, h2, rfl⟩ | ⟨rfl, -⟩
  · exact run3_e1 hr he
  · rw [← List.drop_drop] at hr
    exact run3_e2 h1 hr he
  · rw [Nat.add_assoc, ← List.drop_drop] at hr
    exact run3_e3 h1 h2 hr he
  · omega
theorem num_next {b : List UInt8} {at_ i a : Nat} {y1 y2 y3 x : Int} {k : Nat} (h : Num3 b at_ i a y1 y2 y3) (hi : i < 3) (hr : readL (b.drop a) = (x.toNat, k, 0)) : Num3 b at_ (i + 1) (a + k) (if i = 0 then x else y1) (if i = 1 then x else y2) (if i = 2 then x else y3) := by
  rcases h with ⟨rfl, rfl, r1, r2, r3⟩ | ⟨rfl, r2, r3, k1, h1, rfl⟩ | ⟨rfl, r3, k1, k2, h1, h2, rfl⟩ | ⟨rfl, -⟩
  · exact .inr (.inl ⟨rfl, by simpa using r2, by simpa using r3, k, by simpa using hr, rfl⟩)
  · rw [← List.drop_drop] at hr
    exact .inr (.inr (.inl ⟨rfl, by simpa using r3, k1, k, by simpa using h1, by simpa using hr, rfl⟩))
  · rw [Nat.add_assoc, ← List.drop_drop] at hr
    exact .inr (.inr (.inr ⟨rfl, k1, k2, k, by simpa using h1, by simpa using h2, by simpa using hr, rfl⟩))
  · omega
theorem num_done {b : List UInt8} {at_ a : Nat} {y1 y2 y3 : Int} (h : Num3 b at_ 3 a y1 y2 y3) : ∃ k, run3 (b.drop at_) = ((y1.toNat, y2.toNat, y3.toNat), k, 0) ∧ a = at_ + k := by
  rcases h with ⟨h, -⟩ | ⟨h, -⟩ | ⟨h, -⟩ | ⟨-, k1, k2, k3, h1, h2, h3, h4⟩
  · omega
  · omega
  · omega
  · exact ⟨k1 + k2 + k3, run3_ok h1 h2 h3, by omega⟩
/-- A cell has been appended so often. -/
def ApC (out : List Cl) (c : Cl) (Y : Nat) (w : World) (vb cb : Nat) (V C : Obj) (ov iv : Value) (wr : World) : Prop :=
  ∃ m : Nat, m ≤ Y ∧ iv = .int .u64 (m : Int) ∧ OC wr w.heap.size ov (out ++ List.replicate m c) ∧ ov.ownBlock ≠ some cb ∧ wr.heap[vb]? = some V ∧ wr.heap[cb]? = some C ∧ Below w.heap.size w wr
theorem oneC (w : World) (c : Cl) : CS (w.alloc (.cells #[.int .i32 c.r, .int .u16 (c.a : Int), .int .u8 (c.h : Int)] 41)) (w.heap.size + 1) (.slice (some ⟨w.heap.size, 0, none⟩) 1 1) [c] := by
  have hk : (w.alloc (.cells #[.int .i32 c.r, .int .u16 (c.a : Int), .int .u8 (c.h : Int)] 41)).heap[w.heap.size]? = some (.cells #[.int .i32 c.r, .int .u16 (c.a : Int), .int .u8 (c.h : Int)] 41) := by
    show (w.heap.push _)[w.heap.size]? = _
    simp
  refine ⟨_, 1, rfl, by simp, by simp [maxLen], fun _ => ⟨_, rfl, by simp, fun j x hj => ?_⟩⟩
  match j, hj with
  | 0, hj =>
    simp at hj
    subst hj
    exact ⟨(cell3 hk 0 rfl).1, (cell3 hk 1 rfl).1, (cell3 hk 2 rfl).1⟩
theorem apC_next {out : List Cl} {c : Cl} {Y m vb cb : Nat} {w wr w3 : World} {V C o : Obj} {ov v' : Value} {xs : Array Value} (hV : V = .cells xs 68) (hm : m < Y) (ho : OC wr w.heap.size ov (out ++ List.replicate m c)) (hne : ov.ownBlock ≠ some cb) (kv : wr.heap[vb]? = some V) (kc : wr.heap[cb]? = some C) (hb : Below w.heap.size w wr)
    (h1 : OC w3 w.heap.size v' (out ++ List.replicate m c ++ [c])) (hg : (wr.alloc o).grownBy w3 ov.ownBlock) (hb3 : Below w.heap.size (wr.alloc o) w3) (hat : v'.ownBlock = ov.ownBlock ∨ v'.ownBlock = some (wr.alloc o).heap.size) : ApC out c Y w vb cb V C v' (.int .u64 ((m + 1 : Nat) : Int)) w3 := by
  have lv := lt3 kv
  have lc := lt3 kc
  have hz : (wr.alloc o).heap.size = wr.heap.size + 1 := by simp
  have hvne : some vb ≠ ov.ownBlock := by
    intro e
    unfold OC World.ownsRow at ho
    rcases ho.2 with ⟨rfl, _⟩ | ⟨g', cap, cur, rfl, hbg, hg', -⟩
    · cases e
    · simp only [Value.ownBlock, Option.some.injEq] at e
      subst e
      rw [kv, hV] at hg'
      injection hg' with hg'
      injection hg' with _ e2
      exact absurd e2 (by decide)
  refine ⟨m + 1, hm, rfl, ?_, ?_, (hg.block vb (by rw [hz]; omega) hvne).trans ((Below.heap_alloc wr o vb lv).trans kv), (hg.block cb (by rw [hz]; omega) (Ne.symm hne)).trans ((Below.heap_alloc wr o cb lc).trans kc), (hb.alloc hb.size o).trans hb3⟩
  · rw [List.replicate_succ', ← List.append_assoc]
    exact h1
  · rcases hat with e | e
    · rw [e]; exact hne
    · rw [e, hz]
      intro e2
      injection e2 with e2
      omega
theorem any_still_from {P : Program} {md : Region.Mode} {l : List Oper} {w : World} {Q' : Exit → Act → World → Prop} (k : Nat) {fuel : Nat} {listed : Array Bool} {a : Act} (hs : Region.noSelect l.toArray = true) (hf : fuel = (l.drop k).length) (hB : Region.lexFrom md l.toArray fuel k listed = true)
    (h : wpStill P l.toArray w (fun a => Q' .normal a w) (l.drop k) a) : wpAny P md l.toArray Q' fuel listed a w := by
  subst hf
  exact wpAny_of_still (fun a h => h) _ _ _ (wpAnyS_lex hs _ k _ _ (fun j => by rw [List.getElem?_drop, List.getElem?_toArray]) hB h)
theorem rc_next {b : List UInt8} {n : Int} {w wr : World} {o : Value} {out : List Cl} {at_ a k R Z Y : Nat} {c : Cl} (hrun : run3 (b.drop at_) = (((Y : Int).toNat, (R : Int).toNat, (Z : Int).toNat), k, 0)) (hak : a = at_ + k) (ha : a ≤ b.length) (hrd : readF n.toNat n.toNat (b.drop at_) out at_ = readCL b n) (hco : cellOf R Z = c) (hcb : cellB c = true) (hla : out.getLast? ≠ some c) (hlt : (out.length : Int) < n) (hY : 0 < Y) (hY2 : (Y : Int) ≤ n - (out.length : Int)) (hR : R ≤ 1114111) (hZ : Z < 16384) (ho : OC wr w.heap.size o (out ++ List.replicate Y c)) (hb : Below w.heap.size w wr) : RcRel b n w o (.int .i64 (a : Int)) wr := by
  refine ⟨_, a, ha, rfl, ho, hb, by simp; omega, ?_⟩
  rw [Int.toNat_natCast, Int.toNat_natCast, Int.toNat_natCast] at hrun
  rw [readF_go (by omega) (by omega) hrun (by omega) (by rw [hco, hcb]; rintro (e | e); · cases e
                                                         · exact hla e), hco, List.drop_drop, ← hak] at hrd
  exact hrd
set_option maxHeartbeats 4000000 in
set_option maxRecDepth 100000 in
theorem readCr_any (v : Value) (b : List UInt8) (n : Int) (w : World) (h : BS w w.heap.size v b) (hl : b.length ≤ 1048576) (hn0 : -9223372036854775808 ≤ n) (hn : n ≤ 1048576) : Calls Try.prog 13 #[v, .int .i64 n] w (ReadCPost b n w) := by
  have HB := Lib.hid h
  obtain ⟨A, cp, rfl, g1, g2, -⟩ := h.at_
  unfold maxLen at g2
  clear h
  go_enter Try.func13, Try.ntmps13
  go_wp2
  go_loopw [7, 8] (fun o a wr => RcRel b n w o a wr) (fun o _ _ => match o with | .slice _ k _ => n.toNat - k | _ => 0)
  case atStart => exact ⟨[], 0, Nat.zero_le _, rfl, OC.nil _ _, Below.refl _ _, by simp; omega, rfl⟩
  case round =>
    obtain ⟨out, at_, hat, rfl, ho, hbel, hol, hrd⟩ := hrel
    obtain ⟨Ao, co, rfl, p1, p2⟩ := ho.cs.form
    have hle := hbel.size
    by_cases hlt : (out.length : Int) < n
    · have HOO := Lib.hid ho
      have HBE := Lib.hid hbel
      have HRD := Lib.hid hrd
      clear ho hbel hrd
      go_wp2
      generalize wr = w5 at *
      go_loopw [8, 10] (fun av iv wr => NumRel b at_ w5 av iv wr) (fun _ iv _ => 3 - (intOf iv).toNat)
      case atStart => exact ⟨0, at_, 0, 0, 0, by omega, rfl, rfl, hat, by omega, by omega, by omega, by omega, by omega, by omega, .inl ⟨rfl, rfl, rfl, rfl, rfl⟩, by show (w5.heap.push _)[w5.heap.size]? = _; simp, (Below.refl _ _).alloc (Nat.le_refl _) _⟩
      case round =>
        obtain ⟨i, a, y1, y2, y3, hi, rfl, rfl, ha, q1, q2, q3, q4, q5, q6, hnum, kv, hb⟩ := hrel
        have HNUM := Lib.hid hnum
        have KV := Lib.hid kv
        have HBR := Lib.hid (HBE.out.trans (hb.mono hle))
        have HBW := Lib.hid hb
        clear hnum kv hb
        by_cases hi3 : i < 3
        · obtain ⟨x, k, er, hr, x0, x1, hk, her⟩ := readL_ex6 (b.drop a)
          rw [List.length_drop] at hk
          obtain ⟨A2, hif2⟩ : ∃ A2, (if cp = a then A else Option.map (fun x => x.add a) A) = A2 := ⟨_, rfl⟩
          have hc1 := (HB.out.below HBR.out).cut a (b.length - a) (b.length - a) (by omega) rfl
          rw [hif2, List.take_of_length_le (by simp)] at hc1
          have hread := readr_at6 hc1 (by simp; omega) x0 hr
          have HR := Lib.hid hr
          have hi3' : (i : Int) < 3 := by omega
          clear hr hc1
          by_cases he : er = 0
          · subst he
            have HNX := Lib.hid (num_next HNUM.out hi3 HR.out)
            obtain ⟨c0, f0⟩ := cell3 KV.out 0 rfl
            obtain ⟨c1, f1⟩ := cell3 KV.out 1 rfl
            obtain ⟨c2, f2⟩ := cell3 KV.out 2 rfl
            have hi4 : i = 0 ∨ i = 1 ∨ i = 2 := by omega
            rcases hi4 with rfl | rfl | rfl
            · go_wp2_with (first
                | (go_at_call 26; refine hread.mono ?_; rintro e w1 ⟨rfl, rfl⟩))
              go_roundw
              case rel => exact ⟨1, a + k, x, y2, y3, by omega, rfl, by go_num, by omega, x0, x1, q3, q4, q5, q6, HNX.out, by rw [heap_setCell_same _ _ 0 _ _ _ KV.out]; rfl, HBW.out.setCell (p := ⟨w5.heap.size, 0, none⟩) (Nat.le_refl _) _⟩
              case measure => simp [intOf]
            · go_wp2_with (first
                | (go_at_call 26; refine hread.mono ?_; rintro e w1 ⟨rfl, rfl⟩))
              go_roundw
              case rel => exact ⟨2, a + k, y1, x, y3, by omega, rfl, by go_num, by omega, q1, q2, x0, x1, q5, q6, HNX.out, by rw [heap_setCell_same _ _ 1 _ _ _ KV.out]; rfl, HBW.out.setCell (p := ⟨w5.heap.size, 1, none⟩) (Nat.le_refl _) _⟩
              case measure => simp [intOf]
            · go_wp2_with (first
                | (go_at_call 26; refine hread.mono ?_; rintro e w1 ⟨rfl, rfl⟩))
              go_roundw
              case rel => exact ⟨3, a + k, y1, y2, x, by omega, rfl, by go_num, by omega, q1, q2, q3, q4, x0, x1, HNX.out, by rw [heap_setCell_same _ _ 2 _ _ _ KV.out]; rfl, HBW.out.setCell (p := ⟨w5.heap.size, 2, none⟩) (Nat.le_refl _) _⟩
              case measure => simp [intOf]
          · have e1 : ((er : Int) != 0) = true := by simp; omega
            have HER := Lib.hid (readF_err (n := n.toNat) (f := n.toNat) (out := out) (at_ := at_) (by omega) (by omega) (num_err HNUM.out hi3 HR.out he) he)
            go_wp2_with (first
              | (go_at_call 26; refine hread.mono ?_; rintro e w1 ⟨rfl, rfl⟩))
            go_ret3
            exact ⟨_, by rw [← HRD.out, HER.out]; rfl, by rw [← HRD.out, HER.out]; exact OC.nil _ _, HBR.out⟩
        · obtain rfl : i = 3 := by omega
          generalize wr = wn at *
          obtain ⟨c0, f0⟩ := cell3 KV.out 0 rfl
          obtain ⟨c1, f1⟩ := cell3 KV.out 1 rfl
          obtain ⟨c2, f2⟩ := cell3 KV.out 2 rfl
          obtain ⟨k, hrun, hak⟩ := num_done HNUM.out
          have HRUN := Lib.hid hrun
          have HAK := Lib.hid hak
          clear hrun hak
          by_cases b1 : y1 = 0
          · subst b1
            have HBAD := Lib.hid (readF_bad (n := n.toNat) (f := n.toNat) (out := out) (at_ := at_) (by omega) (by omega) HRUN.out (.inl (.inl rfl)))
            go_wp2
            go_ret3
            exact ⟨_, by rw [← HRD.out, HBAD.out]; rfl, by rw [← HRD.out, HBAD.out]; exact OC.nil _ _, HBR.out⟩
          have b1' : (y1 == 0) = false := beq_eq_false_iff_ne.2 b1
          have s0 : 0 ≤ n - (out.length : Int) := by omega
          have s1 : n - (out.length : Int) ≤ 1048576 := by omega
          by_cases b2 : n - (out.length : Int) < y1
          · have b2' : decide (n - (out.length : Int) < y1) = true := by simpa using b2
            have HBAD := Lib.hid (readF_bad (n := n.toNat) (f := n.toNat) (out := out) (at_ := at_) (by omega) (by omega) HRUN.out (.inl (.inr (.inl (by omega)))))
            go_wp2
            go_ret3
            exact ⟨_, by rw [← HRD.out, HBAD.out]; rfl, by rw [← HRD.out, HBAD.out]; exact OC.nil _ _, HBR.out⟩
          have b2' : decide (n - (out.length : Int) < y1) = false := by simpa using b2
          by_cases b3 : 1114111 < y2
          · have b3' : decide (1114111 < y2) = true := by simpa using b3
            have HBAD := Lib.hid (readF_bad (n := n.toNat) (f := n.toNat) (out := out) (at_ := at_) (by omega) (by omega) HRUN.out (.inl (.inr (.inr (.inl (by omega))))))
            go_wp2
            go_ret3
            exact ⟨_, by rw [← HRD.out, HBAD.out]; rfl, by rw [← HRD.out, HBAD.out]; exact OC.nil _ _, HBR.out⟩
          have b3' : decide (1114111 < y2) = false := by simpa using b3
          by_cases b4 : 16384 ≤ y3
          · have b4' : decide (16384 ≤ y3) = true := by simpa using b4
            have HBAD := Lib.hid (readF_bad (n := n.toNat) (f := n.toNat) (out := out) (at_ := at_) (by omega) (by omega) HRUN.out (.inl (.inr (.inr (.inr (by omega))))))
            go_wp2
            go_ret3
            exact ⟨_, by rw [← HRD.out, HBAD.out]; rfl, by rw [← HRD.out, HBAD.out]; exact OC.nil _ _, HBR.out⟩
          have b4' : decide (16384 ≤ y3) = false := by simpa using b4
          obtain ⟨R, rfl⟩ : ∃ R : Nat, y2 = (R : Int) := ⟨y2.toNat, by omega⟩
          obtain ⟨Z, rfl⟩ : ∃ Z : Nat, y3 = (Z : Int) := ⟨y3.toNat, by omega⟩
          obtain ⟨Y, rfl⟩ : ∃ Y : Nat, y1 = (Y : Int) := ⟨y1.toNat, by omega⟩
          have hR : R ≤ 1114111 := by omega
          have hZ : Z < 16384 := by omega
          have hY : 0 < Y := by omega
          have hY2 : (Y : Int) ≤ n - (out.length : Int) := by omega
          clear q1 q2 q3 q4 q5 q6 b1 b2 b3 b4
          obtain ⟨a4, ha4⟩ : ∃ a4 : Nat, (Z : Int) / 4 = (a4 : Int) := ⟨Z / 4, by omega⟩
          obtain ⟨h4, hh4⟩ : ∃ h4 : Nat, (Z : Int) % 4 = (h4 : Int) := ⟨Z % 4, by omega⟩
          have HCO := Lib.hid (show cellOf R Z = ⟨(R : Int), a4, h4⟩ by unfold cellOf; rw [show Z / 4 = a4 by omega, show Z % 4 = h4 by omega])
          have a4l : a4 < 4096 := by omega
          have h4l : h4 < 4 := by omega
          go_wp2
          clear ha4 hh4
          have hcb : (wn.alloc (.cells #[.int .i32 (R : Int), .int .u16 (a4 : Int), .int .u8 (h4 : Int)] 41)).heap[wn.heap.size]? = some (.cells #[.int .i32 (R : Int), .int .u16 (a4 : Int), .int .u8 (h4 : Int)] 41) := by
            show (wn.heap.push _)[wn.heap.size]? = _
            simp
          have hbW : Below wn.heap.size wn (wn.alloc (.cells #[.int .i32 (R : Int), .int .u16 (a4 : Int), .int .u8 (h4 : Int)] 41)) := (Below.refl _ _).alloc (Nat.le_refl _) _
          have hzW : (wn.alloc (.cells #[.int .i32 (R : Int), .int .u16 (a4 : Int), .int .u8 (h4 : Int)] 41)).heap.size = wn.heap.size + 1 := by simp
          generalize World.alloc wn _ = W at hcb hbW hzW ⊢
          have hltR : w5.heap.size < wn.heap.size := lt3 KV.out
          have KC := Lib.hid (show W.drew.heap[wn.heap.size]? = _ from hcb)
          have KVW := Lib.hid (show W.drew.heap[w5.heap.size]? = _ from (hbW.block _ hltR).trans KV.out)
          have HBX := Lib.hid (show Below w.heap.size w W.drew from (HBR.out.trans (hbW.mono HBR.out.size)).drew)
          have HOX := Lib.hid (show OC W.drew w.heap.size (.slice Ao out.length co) out from (((HOO.out.below HBW.out).below hbW).below (Below.drew (Below.refl _ _))))
          have HZW := Lib.hid (show W.drew.heap.size = wn.heap.size + 1 from hzW)
          clear hcb hbW hzW c0 f0 c1 f1 c2 f2
          have hS : ∀ x : World, Below W.drew.heap.size W.drew x → x.cell? ⟨wn.heap.size, 0, none⟩ = some (.int .i32 (R : Int)) ∧ x.cell? ⟨wn.heap.size, 1, none⟩ = some (.int .u16 (a4 : Int)) ∧ x.cell? ⟨wn.heap.size, 2, none⟩ = some (.int .u8 (h4 : Int)) := fun x hx => by
            have hk := (hx.block wn.heap.size (by rw [HZW.out]; omega)).trans KC.out
            exact ⟨(cell3 hk 0 rfl).1, (cell3 hk 1 rfl).1, (cell3 hk 2 rfl).1⟩
          have HS := Lib.hid hS
          have bD : Below W.drew.heap.size W.drew W.drew := Below.refl _ _
          have hcr := cellr_any ⟨(R : Int), a4, h4⟩ (by show (-2147483648 : Int) ≤ (R : Int); omega) (by show (R : Int) ≤ 2147483647; omega) (by show h4 < 256; omega) W.drew
          unfold aC at hcr
          simp only at hcr
          clear hS
          by_cases hcB : cellB ⟨(R : Int), a4, h4⟩ = false
          · have HBAD := Lib.hid (readF_bad (n := n.toNat) (f := n.toNat) (out := out) (at_ := at_) (by omega) (by omega) HRUN.out (.inr (.inl (by rw [Int.toNat_natCast, Int.toNat_natCast, HCO.out]; exact hcB))))
            rw [hcB] at hcr
            have HCR := Lib.hid hcr
            clear hcr hcB
            obtain ⟨d0, d1, d2⟩ := HS.out _ bD
            refine wp_region_any (by kernel_rfl) ?_
            try (change wpAny _ _ _ _ _ _ _ (World.drew _))
            refine wpAny_ready (rs := [0]) (by kernel_rfl) (by simp) ?_
            refine AllReady.cons rfl (fun K hK => ?_) AllReady.nil
            go_simp
            refine hK _ _ ?_
            clear hK K
            refine wpAny_ready (rs := [1]) (by kernel_rfl) (by simp) ?_
            refine AllReady.cons rfl (fun K hK => ?_) AllReady.nil
            go_simp
            refine HCR.out.mono ?_
            rintro e wx ⟨rfl, bx⟩
            refine hK _ _ ?_
            clear hK K
            refine wpAny_ready (rs := [2]) (by kernel_rfl) (by simp) ?_
            refine AllReady.cons rfl (fun K hK => ?_) AllReady.nil
            go_simp
            refine hK _ _ ?_
            clear hK K
            refine wpAny_ready (rs := [3]) (by kernel_rfl) (by simp) ?_
            refine AllReady.cons rfl (fun K hK => ?_) AllReady.nil
            go_simp
            refine hK _ _ ?_
            clear hK K
            refine wpAny_take (i := 4) (v := undef) rfl (by kernel_rfl) (by kernel_rfl) (by kernel_rfl) (fun _ _ _ h => h) (Or.inr ⟨by rfl, rfl⟩) ?_
            go_simp
            refine wpAny_take (i := 5) (v := undef) rfl (by kernel_rfl) (by kernel_rfl) (by kernel_rfl) (fun _ _ _ h => h) (Or.inr ⟨by rfl, rfl⟩) ?_
            go_simp
            refine wpAny_take (i := 6) (v := undef) rfl (by kernel_rfl) (by kernel_rfl) (by kernel_rfl) (fun _ _ _ h => h) (Or.inr ⟨by rfl, rfl⟩) ?_
            go_simp
            refine wpAny_take (i := 7) (v := undef) rfl (by kernel_rfl) (by kernel_rfl) (by kernel_rfl) (fun _ _ _ h => h) (Or.inr ⟨by rfl, rfl⟩) ?_
            go_simp
            refine wpAny_take (i := 8) (v := undef) rfl (by kernel_rfl) (by kernel_rfl) (by kernel_rfl) (fun _ _ _ h => h) (Or.inr ⟨by rfl, rfl⟩) ?_
            go_simp
            refine wpAny_take (i := 9) (v := undef) rfl (by kernel_rfl) (by kernel_rfl) (by kernel_rfl) (fun _ _ _ h => h) (Or.inr ⟨by rfl, rfl⟩) ?_
            go_simp
            refine wpAny_take (i := 10) (v := undef) rfl (by kernel_rfl) (by kernel_rfl) (by kernel_rfl) (fun _ _ _ h => h) (Or.inr ⟨by rfl, rfl⟩) ?_
            go_simp
            refine wpAny_take (i := 11) (v := undef) rfl (by kernel_rfl) (by kernel_rfl) (by kernel_rfl) (fun _ _ _ h => h) (Or.inr ⟨by rfl, rfl⟩) ?_
            go_simp
            refine wpAny_take (i := 12) (v := undef) rfl (by kernel_rfl) (by kernel_rfl) (by kernel_rfl) (fun _ _ _ h => h) (Or.inr ⟨by rfl, rfl⟩) ?_
            go_simp
            refine wpAny_take (i := 13) (v := undef) rfl (by kernel_rfl) (by kernel_rfl) (by kernel_rfl) (fun _ _ _ h => h) (Or.inr ⟨by rfl, rfl⟩) ?_
            go_simp
            refine wpAny_take (i := 14) (v := undef) rfl (by kernel_rfl) (by kernel_rfl) (by kernel_rfl) (fun _ _ _ h => h) (Or.inr ⟨by rfl, rfl⟩) ?_
            go_simp
            refine wpAny_take (i := 15) (v := undef) rfl (by kernel_rfl) (by kernel_rfl) (by kernel_rfl) (fun _ _ _ h => h) (Or.inr ⟨by rfl, rfl⟩) ?_
            go_simp
            refine wpAny_take (i := 16) (v := undef) rfl (by kernel_rfl) (by kernel_rfl) (by kernel_rfl) (fun _ _ _ h => h) (Or.inr ⟨by rfl, rfl⟩) ?_
            go_simp
            refine wpAny_take (i := 17) (v := .bool true) rfl (by kernel_rfl) (by kernel_rfl) (by kernel_rfl) (fun _ _ _ h => h) (Or.inl ⟨by rfl, fun w => by go_simp⟩) ?_
            go_simp
            refine wpAny_done (by kernel_rfl) ?_ _
            go_simp
            go_wp2
            go_ret3
            exact ⟨_, by rw [← HRD.out, HBAD.out]; rfl, by rw [← HRD.out, HBAD.out]; exact OC.nil _ _, HBX.out.trans (bx.mono HBX.out.size)⟩
          · have hcB : cellB ⟨(R : Int), a4, h4⟩ = true := by simpa using hcB
            rw [hcB] at hcr
            have HCR := Lib.hid hcr
            have HCB := Lib.hid hcB
            clear hcr hcB
            by_cases hout : out.length = 0
            · have hd0 : decide (0 < out.length) = false := decide_eq_false (by omega)
              have hd1 : ¬ 0 < out.length := by omega
              have HOUT := Lib.hid hout
              clear hout
              obtain ⟨d0, d1, d2⟩ := HS.out _ bD
              refine wp_region_any (by kernel_rfl) ?_
              try (change wpAny _ _ _ _ _ _ _ (World.drew _))
              refine wpAny_ready (rs := [0]) (by kernel_rfl) (by simp) ?_
              refine AllReady.cons rfl (fun K hK => ?_) AllReady.nil
              go_simp
              refine hK _ _ ?_
              clear hK K
              refine wpAny_ready (rs := [1]) (by kernel_rfl) (by simp) ?_
              refine AllReady.cons rfl (fun K hK => ?_) AllReady.nil
              go_simp
              refine HCR.out.mono ?_
              rintro e wx ⟨rfl, bx⟩
              refine hK _ _ ?_
              clear hK K
              refine wpAny_ready (rs := [2]) (by kernel_rfl) (by simp) ?_
              refine AllReady.cons rfl (fun K hK => ?_) AllReady.nil
              go_simp
              refine hK _ _ ?_
              clear hK K
              refine wpAny_ready (rs := [3]) (by kernel_rfl) (by simp) ?_
              refine AllReady.cons rfl (fun K hK => ?_) AllReady.nil
              go_simp
              refine hK _ _ ?_
              clear hK K
              refine wpAny_take (i := 4) (v := .slice Ao out.length co) rfl (by kernel_rfl) (by kernel_rfl) (by kernel_rfl) (fun _ _ _ h => h) (Or.inl ⟨by rfl, fun w => by go_simp⟩) ?_
              go_simp
              refine wpAny_take (i := 5) (v := .int .i64 (out.length : Int)) rfl (by kernel_rfl) (by kernel_rfl) (by kernel_rfl) (fun _ _ _ h => h) (Or.inl ⟨by rfl, fun w => by go_simp⟩) ?_
              go_simp
              refine wpAny_take (i := 6) (v := .bool false) rfl (by kernel_rfl) (by kernel_rfl) (by kernel_rfl) (fun _ _ _ h => h) (Or.inl ⟨by rfl, fun w => by go_simp⟩) ?_
              go_simp
              refine wpAny_take (i := 7) (v := .bool false) rfl (by kernel_rfl) (by kernel_rfl) (by kernel_rfl) (fun _ _ _ h => h) (Or.inl ⟨by rfl, fun w => by go_simp⟩) ?_
              go_simp
              refine wpAny_take (i := 8) (v := undef) rfl (by kernel_rfl) (by kernel_rfl) (by kernel_rfl) (fun _ _ _ h => h) (Or.inr ⟨by rfl, rfl⟩) ?_
              go_simp
              refine wpAny_take (i := 9) (v := undef) rfl (by kernel_rfl) (by kernel_rfl) (by kernel_rfl) (fun _ _ _ h => h) (Or.inr ⟨by rfl, rfl⟩) ?_
              go_simp
              refine wpAny_take (i := 10) (v := undef) rfl (by kernel_rfl) (by kernel_rfl) (by kernel_rfl) (fun _ _ _ h => h) (Or.inr ⟨by rfl, rfl⟩) ?_
              go_simp
              refine wpAny_take (i := 11) (v := undef) rfl (by kernel_rfl) (by kernel_rfl) (by kernel_rfl) (fun _ _ _ h => h) (Or.inr ⟨by rfl, rfl⟩) ?_
              go_simp
              refine wpAny_take (i := 12) (v := undef) rfl (by kernel_rfl) (by kernel_rfl) (by kernel_rfl) (fun _ _ _ h => h) (Or.inr ⟨by rfl, rfl⟩) ?_
              go_simp
              refine wpAny_take (i := 13) (v := undef) rfl (by kernel_rfl) (by kernel_rfl) (by kernel_rfl) (fun _ _ _ h => h) (Or.inr ⟨by rfl, rfl⟩) ?_
              go_simp
              refine wpAny_take (i := 14) (v := undef) rfl (by kernel_rfl) (by kernel_rfl) (by kernel_rfl) (fun _ _ _ h => h) (Or.inr ⟨by rfl, rfl⟩) ?_
              go_simp
              refine wpAny_take (i := 15) (v := undef) rfl (by kernel_rfl) (by kernel_rfl) (by kernel_rfl) (fun _ _ _ h => h) (Or.inr ⟨by rfl, rfl⟩) ?_
              go_simp
              refine wpAny_take (i := 16) (v := .bool false) rfl (by kernel_rfl) (by kernel_rfl) (by kernel_rfl) (fun _ _ _ h => h) (Or.inl ⟨by rfl, fun w => by go_simp⟩) ?_
              go_simp
              refine wpAny_take (i := 17) (v := .bool false) rfl (by kernel_rfl) (by kernel_rfl) (by kernel_rfl) (fun _ _ _ h => h) (Or.inl ⟨by rfl, fun w => by go_simp⟩) ?_
              go_simp
              refine wpAny_done (by kernel_rfl) ?_ _
              go_simp
              have HBx := Lib.hid (HBX.out.trans (bx.mono HBX.out.size))
              have KCx := Lib.hid ((bx.block wn.heap.size (by rw [HZW.out]; omega)).trans KC.out)
              have KVx := Lib.hid ((bx.block w5.heap.size (by rw [HZW.out]; omega)).trans KVW.out)
              have HOx := Lib.hid (HOX.out.below bx)
              have HNEx : Hid ((Value.slice Ao out.length co).ownBlock ≠ some wn.heap.size) := fun e => Nat.lt_irrefl _ ((World.ownsRow.lt (HOO.out.below HBW.out) _ e).2)
              clear bx d0 d1 d2
              go_wp2
              go_loopw [7, 15] (fun ov iv wy => ApC out ⟨(R : Int), a4, h4⟩ Y w w5.heap.size wn.heap.size (.cells #[.int .u64 (Y : Int), .int .u64 (R : Int), .int .u64 (Z : Int)] 68) (.cells #[.int .i32 (R : Int), .int .u16 (a4 : Int), .int .u8 (h4 : Int)] 41) ov iv wy) (fun _ iv _ => Y - (intOf iv).toNat)
              case atStart => exact ⟨0, Nat.zero_le _, rfl, by simpa using HOx.out, HNEx.out, KVx.out, KCx.out, HBx.out⟩
              case round =>
                obtain ⟨m, hm, rfl, ho, hne, kv, kc, hb⟩ := hrel
                obtain ⟨A9, c9, rfl, g7, g8⟩ := ho.cs.form
                obtain ⟨c0, f0⟩ := cell3 kv 0 rfl
                obtain ⟨c3, -⟩ := cell3 kc 0 rfl
                obtain ⟨c4, -⟩ := cell3 kc 1 rfl
                obtain ⟨c5, -⟩ := cell3 kc 2 rfl
                have hle9 := hb.size
                have HO9 := Lib.hid ho
                have HNE9 := Lib.hid hne
                have KV9 := Lib.hid kv
                have KC9 := Lib.hid kc
                have HB9 := Lib.hid hb
                have hm1 : (m : Int) ≤ 1048576 := by omega
                clear ho hne kv kc hb
                by_cases hmY : m < Y
                · have hmY' : (m : Int) < (Y : Int) := by omega
                  have hlen : (out ++ List.replicate m (⟨(R : Int), a4, h4⟩ : Cl)).length ≤ 1048576 := by simp; omega
                  go_wp2_with (first
                    | (at_builtin; refine wpl_appC _ rfl (.tmp 100) (.tmp 102) rfl w.heap.size _ _ _ (out ++ List.replicate m ⟨(R : Int), a4, h4⟩) [⟨(R : Int), a4, h4⟩] rfl rfl (HO9.out.alloc _) (oneC wr ⟨(R : Int), a4, h4⟩) (by simp only [List.length_cons, List.length_nil]; omega) (by simp; omega) ?_; intro v3 w3 ho3 hg3 hb3 hat3))
                  go_roundw
                  case rel =>
                    have h := apC_next rfl hmY HO9.out HNE9.out KV9.out KC9.out HB9.out ho3 hg3 hb3 hat3
                    rw [show ((m + 1 : Nat) : Int) = (m : Int) + 1 by omega] at h
                    exact h
                  case measure => simp [intOf]; omega
                · obtain rfl : m = Y := by omega
                  go_wp2

                  refine ⟨rc_next HRUN.out HAK.out ha HRD.out HCO.out HCB.out (by rw [List.length_eq_zero_iff.1 HOUT.out]; simp) hlt hY hY2 hR hZ HO9.out HB9.out, ?_⟩
                  simp
                  omega
            · obtain ⟨L, hLn⟩ : ∃ L, out.length = L + 1 := ⟨out.length - 1, by omega⟩
              obtain ⟨c2, hc2⟩ : ∃ c2, out[L]? = some c2 := ⟨_, List.getElem?_eq_getElem (by omega)⟩
              have HGL := Lib.hid (show out.getLast? = some c2 by rw [List.getLast?_eq_getElem?, show out.length - 1 = L by omega]; exact hc2)
              have HC2 := Lib.hid hc2
              have hLi : (out.length : Int) - 1 = (L : Int) := by omega
              have hLl : L < out.length := by omega
              have hLw : IntKind.i64.wrap (L : Int) = (L : Int) := by rw [IntKind.wrap_i64]; omega
              have hd0 : decide (0 < out.length) = true := decide_eq_true (by omega)
              have hd1 : 0 < out.length := by omega
              obtain ⟨ad, hAd, -, -⟩ := HOX.out.cs.get L c2 hc2
              subst hAd
              clear hout hc2 hLn
              obtain ⟨d0, d1, d2⟩ := HS.out _ bD
              by_cases hsame : c2 = ⟨(R : Int), a4, h4⟩
              · have HBAD := Lib.hid (readF_bad (n := n.toNat) (f := n.toNat) (out := out) (at_ := at_) (by omega) (by omega) HRUN.out (.inr (.inr (by rw [Int.toNat_natCast, Int.toNat_natCast, HCO.out, HGL.out, hsame]))))
                refine wp_region_any (by kernel_rfl) ?_
                try (change wpAny _ _ _ _ _ _ _ (World.drew _))
                refine wpAny_ready (rs := [0]) (by kernel_rfl) (by simp) ?_
                refine AllReady.cons rfl (fun K hK => ?_) AllReady.nil
                go_simp
                refine hK _ _ ?_
                clear hK K
                refine wpAny_ready (rs := [1]) (by kernel_rfl) (by simp) ?_
                refine AllReady.cons rfl (fun K hK => ?_) AllReady.nil
                go_simp
                refine HCR.out.mono ?_
                rintro e wx ⟨rfl, bx⟩
                refine hK _ _ ?_
                clear hK K d0 d1 d2
                obtain ⟨d0, d1, d2⟩ := HS.out _ bx
                obtain ⟨ad2, hAd2, -, t0, t1, t2⟩ := (HOX.out.below bx).cs.get L c2 HC2.out
                injection hAd2 with hAd2
                subst hAd2
                rw [hsame] at t0 t1 t2
                simp only at t0 t1 t2
                refine any_still_from 2 (by kernel_rfl) (by kernel_rfl) (by kernel_rfl) ?_
                simp only [List.drop_succ_cons, List.drop_zero]
                repeat still_step
                try refine wpStill_nil ?_
                go_wp2
                go_ret3
                exact ⟨_, by rw [← HRD.out, HBAD.out]; rfl, by rw [← HRD.out, HBAD.out]; exact OC.nil _ _, HBX.out.trans (bx.mono HBX.out.size)⟩
              · have hk : ((c2.r == (R : Int)) = false) ∨ (c2.r = (R : Int) ∧ ((c2.a : Int) == (a4 : Int)) = false) ∨ (c2.r = (R : Int) ∧ c2.a = a4 ∧ ((c2.h : Int) == (h4 : Int)) = false) := by
                  by_cases e1 : c2.r = (R : Int)
                  · by_cases e2 : c2.a = a4
                    · refine .inr (.inr ⟨e1, e2, beq_eq_false_iff_ne.2 fun e => hsame ?_⟩)
                      obtain ⟨r', a', h'⟩ := c2
                      simp only at e1 e2 e
                      rw [e1, e2, show h' = h4 by omega]
                    · exact .inr (.inl ⟨e1, beq_eq_false_iff_ne.2 (by omega)⟩)
                  · exact .inl (beq_eq_false_iff_ne.2 e1)
                have HNL := Lib.hid (show out.getLast? ≠ some ⟨(R : Int), a4, h4⟩ by rw [HGL.out]; exact fun e => hsame (Option.some.inj e))
                clear hsame
                rcases hk with hbq | ⟨hrq, hbq⟩ | ⟨hrq, haq, hbq⟩
                all_goals
                  refine wp_region_any (by kernel_rfl) ?_
                  try (change wpAny _ _ _ _ _ _ _ (World.drew _))
                  refine wpAny_ready (rs := [0]) (by kernel_rfl) (by simp) ?_
                  refine AllReady.cons rfl (fun K hK => ?_) AllReady.nil
                  go_simp
                  refine hK _ _ ?_
                  clear hK K
                  refine wpAny_ready (rs := [1]) (by kernel_rfl) (by simp) ?_
                  refine AllReady.cons rfl (fun K hK => ?_) AllReady.nil
                  go_simp
                  refine HCR.out.mono ?_
                  rintro e wx ⟨rfl, bx⟩
                  refine hK _ _ ?_
                  clear hK K d0 d1 d2
                  obtain ⟨d0, d1, d2⟩ := HS.out _ bx
                  obtain ⟨ad2, hAd2, -, t0, t1, t2⟩ := (HOX.out.below bx).cs.get L c2 HC2.out
                  injection hAd2 with hAd2
                  subst hAd2
                  try rw [hrq] at t0
                  try rw [haq] at t1
                  refine any_still_from 2 (by kernel_rfl) (by kernel_rfl) (by kernel_rfl) ?_
                  simp only [List.drop_succ_cons, List.drop_zero]
                  repeat still_step
                  try refine wpStill_nil ?_
                  have HBx := Lib.hid (HBX.out.trans (bx.mono HBX.out.size))
                  have KCx := Lib.hid ((bx.block wn.heap.size (by rw [HZW.out]; omega)).trans KC.out)
                  have KVx := Lib.hid ((bx.block w5.heap.size (by rw [HZW.out]; omega)).trans KVW.out)
                  have HOx := Lib.hid (HOX.out.below bx)
                  have HNEx : Hid ((Value.slice (some ad) out.length co).ownBlock ≠ some wn.heap.size) := fun e => Nat.lt_irrefl _ ((World.ownsRow.lt (HOO.out.below HBW.out) _ e).2)
                  clear bx d0 d1 d2 t0 t1 t2
                  go_wp2
                  go_loopw [7, 15] (fun ov iv wy => ApC out ⟨(R : Int), a4, h4⟩ Y w w5.heap.size wn.heap.size (.cells #[.int .u64 (Y : Int), .int .u64 (R : Int), .int .u64 (Z : Int)] 68) (.cells #[.int .i32 (R : Int), .int .u16 (a4 : Int), .int .u8 (h4 : Int)] 41) ov iv wy) (fun _ iv _ => Y - (intOf iv).toNat)
                  case atStart => exact ⟨0, Nat.zero_le _, rfl, by simpa using HOx.out, HNEx.out, KVx.out, KCx.out, HBx.out⟩
                  case round =>
                    obtain ⟨m, hm, rfl, ho, hne, kv, kc, hb⟩ := hrel
                    obtain ⟨A9, c9, rfl, g7, g8⟩ := ho.cs.form
                    obtain ⟨c0, f0⟩ := cell3 kv 0 rfl
                    obtain ⟨c3, -⟩ := cell3 kc 0 rfl
                    obtain ⟨c4, -⟩ := cell3 kc 1 rfl
                    obtain ⟨c5, -⟩ := cell3 kc 2 rfl
                    have hle9 := hb.size
                    have HO9 := Lib.hid ho
                    have HNE9 := Lib.hid hne
                    have KV9 := Lib.hid kv
                    have KC9 := Lib.hid kc
                    have HB9 := Lib.hid hb
                    have hm1 : (m : Int) ≤ 1048576 := by omega
                    clear ho hne kv kc hb
                    by_cases hmY : m < Y
                    · have hmY' : (m : Int) < (Y : Int) := by omega
                      have hlen : (out ++ List.replicate m (⟨(R : Int), a4, h4⟩ : Cl)).length ≤ 1048576 := by simp; omega
                      go_wp2_with (first
                        | (at_builtin; refine wpl_appC _ rfl (.tmp 100) (.tmp 102) rfl w.heap.size _ _ _ (out ++ List.replicate m ⟨(R : Int), a4, h4⟩) [⟨(R : Int), a4, h4⟩] rfl rfl (HO9.out.alloc _) (oneC wr ⟨(R : Int), a4, h4⟩) (by simp only [List.length_cons, List.length_nil]; omega) (by simp; omega) ?_; intro v3 w3 ho3 hg3 hb3 hat3))
                      go_roundw
                      case rel =>
                        have h := apC_next rfl hmY HO9.out HNE9.out KV9.out KC9.out HB9.out ho3 hg3 hb3 hat3
                        rw [show ((m + 1 : Nat) : Int) = (m : Int) + 1 by omega] at h
                        exact h
                      case measure => simp [intOf]; omega
                    · obtain rfl : m = Y := by omega
                      go_wp2

                      refine ⟨rc_next HRUN.out HAK.out ha HRD.out HCO.out HCB.out HNL.out hlt hY hY2 hR hZ HO9.out HB9.out, ?_⟩
                      simp
                      omega
    · have HE := Lib.hid (readF_end n.toNat n.toNat (b.drop at_) out at_ (by omega))
      rw [HE.out] at hrd
      have HRD := Lib.hid hrd
      have hd : decide ((out.length : Int) < n) = false := by simp; omega
      go_wp2
      go_ret3
      exact ⟨_, by rw [← HRD.out]; rfl, by rw [← HRD.out]; exact ho, hbel⟩
end Go.Proofs.Ytklbfeemnekclaa
