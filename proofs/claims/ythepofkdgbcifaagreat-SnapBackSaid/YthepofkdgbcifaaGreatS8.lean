/- What is proved here: parts of layer 10's proofs. -/
import Derived.Test.YthepofkdgbcifaaGreatS7
import Derived.StillTailTactics
namespace Go.Proofs.YthepofkdgbcifaaGreat
open Go.RowKit
set_option linter.unusedVariables false
set_option linter.unusedSimpArgs false
set_option maxHeartbeats 4000000
set_option maxRecDepth 100000
abbrev Ru := Nat × Cl
def vU (x : Ru) : List Value := [.int .u64 (x.1 : Int), .int .i32 x.2.r, .int .u16 (x.2.a : Int), .int .u8 (x.2.h : Int)]
def vUs (l : List Ru) : List Value := l.flatMap vU
theorem vUs_len (l : List Ru) : (vUs l).length = l.length * 4 := by
 induction l with
 | nil => rfl
 | cons c l ih => simp only [vUs, List.flatMap_cons, List.length_append] at ih ⊢; rw [ih]; simp [vU]; omega
theorem vUs_app (l m : List Ru) : vUs (l ++ m) = vUs l ++ vUs m := by simp [vUs, List.flatMap_append]
theorem vUs_get (l : List Ru) (k : Nat) (c : Ru) (h : l[k]? = some c) : (vUs l)[k * 4]? = some (.int .u64 (c.1 : Int)) ∧ (vUs l)[k * 4 + 1]? = some (.int .i32 c.2.r) ∧ (vUs l)[k * 4 + 2]? = some (.int .u16 (c.2.a : Int)) ∧ (vUs l)[k * 4 + 3]? = some (.int .u8 (c.2.h : Int)) := by
 induction l generalizing k with
 | nil => simp at h
 | cons d l ih =>
  have e : vUs (d :: l) = vU d ++ vUs l := rfl
  rw [e]
  match k, h with
  | 0, h =>
   simp at h
   subst h
   simp [vU]
  | k + 1, h =>
   have h' : l[k]? = some c := by simpa using h
   obtain ⟨a1, a2, a3, a4⟩ := ih k h'
   have hl : (vU d).length = 4 := rfl
   rw [List.getElem?_append_right (by omega), List.getElem?_append_right (by omega), List.getElem?_append_right (by omega), List.getElem?_append_right (by omega), hl]
   rw [show (k + 1) * 4 - 4 = k * 4 by omega, show (k + 1) * 4 + 1 - 4 = k * 4 + 1 by omega, show (k + 1) * 4 + 2 - 4 = k * 4 + 2 by omega, show (k + 1) * 4 + 3 - 4 = k * 4 + 3 by omega]
   exact ⟨a1, a2, a3, a4⟩
theorem vUs_one (l : List Ru) : ∀ u ∈ vUs l, u.oneCell' = true := by
 intro u hu
 unfold vUs at hu
 rw [List.mem_flatMap] at hu
 obtain ⟨c, _, hc⟩ := hu
 simp only [vU, List.mem_cons, List.not_mem_nil, or_false] at hc
 rcases hc with rfl | rfl | rfl | rfl <;> rfl
def OU (w : World) (base : Nat) (v : Value) (l : List Ru) : Prop := w.ownsRow base 123 4 v l.length (vUs l)
section
variable {w w' : World} {base g n cap : Nat} {v : Value} {l : List Ru}
theorem OU.nil (w : World) (base : Nat) : OU w base (.slice none 0 0) [] := World.ownsRow_nil w base _ _
theorem OU.alloc (h : OU w base v l) (o : Obj) : OU (w.alloc o) base v l := World.ownsRow.alloc h o
theorem OU.kept {row : Option Nat} (h : OU w base v l) (hg : w.grownBy w' row) (hne : v.ownBlock = none ∨ v.ownBlock ≠ row) : OU w' base v l := World.ownsRow.kept h hg hne
theorem OU.below (h : OU w base v l) (hb : Below w.heap.size w w') : OU w' base v l := by
 have hg : w.grownBy w' none := ⟨hb.os, hb.tape, hb.output, hb.size, fun i hi _ => hb.block i hi⟩
 refine h.kept hg ?_
 cases hv : v.ownBlock with
 | none => exact Or.inl rfl
 | some k => exact Or.inr (by simp)
theorem OU.form (h : OU w base v l) : ∃ A c, v = .slice A l.length c ∧ l.length ≤ c ∧ c ≤ 9223372036854775807 := by
 unfold OU at h
 rcases h.2 with ⟨rfl, hn⟩ | ⟨g, cap, cur, rfl, hbg, hg, hnc, hcm, hcs, htake⟩
 ·exact ⟨none, 0, by rw [hn], by omega, by omega⟩
 ·unfold maxLen at hcm
  exact ⟨_, cap, rfl, hnc, by omega⟩
theorem OU.get (h : OU w base v l) (k : Nat) (c : Ru) (hc : l[k]? = some c) : ∃ g cap, v = .slice (some ⟨g, 0, none⟩) l.length cap ∧ base ≤ g ∧ g < w.heap.size ∧ l.length ≤ cap ∧ cap ≤ 9223372036854775807 ∧ w.cell? ⟨g, k * 4, none⟩ = some (.int .u64 (c.1 : Int)) ∧ w.cell? ⟨g, k * 4 + 1, none⟩ = some (.int .i32 c.2.r) ∧ w.cell? ⟨g, k * 4 + 2, none⟩ = some (.int .u16 (c.2.a : Int)) ∧ w.cell? ⟨g, k * 4 + 3, none⟩ = some (.int .u8 (c.2.h : Int)) := by
 have hh := h
 have hk : k < l.length := (List.getElem?_eq_some_iff.1 hc).1
 obtain ⟨e0, e1, e2, e3⟩ := vUs_get l k c hc
 unfold OU at h
 rcases h.2 with ⟨rfl, hn⟩ | ⟨g, cap, cur, rfl, hbg, hg, hnc, hcm, hcs, htake⟩
 ·omega
 ·unfold maxLen at hcm
  exact ⟨g, cap, rfl, hbg, (World.ownsRow.lt hh g rfl).2, hnc, by omega, (World.ownsRow.cellAt h _ (by omega)).trans e0, (World.ownsRow.cellAt h _ (by omega)).trans e1, (World.ownsRow.cellAt h _ (by omega)).trans e2, (World.ownsRow.cellAt h _ (by omega)).trans e3⟩
end
theorem runInfo : (Tryz.prog.info? 123).map (fun i => (i.zero, i.size, i.bytes)) = some (some (.agg #[.int .u64 0, .int .i32 0, .int .u16 0, .int .u8 0]), 4, 16) := by kernel_rfl
theorem run_appU (w : World) (ty : TypeId) {base : Nat} {v : Value} {l : List Ru} {x : Ru} {ad : Addr} (hown : OU w base v l) (hr : ∀ j u, (vU x)[j]? = some u → w.cell? (ad.add j) = some u) (hlen : l.length + 1 ≤ 1099511627776) (hbase : base ≤ w.heap.size) :
  ∃ v' w', (Builtin.append_ #[149, 149] ty #[v, .slice (some ad) 1 1]).run Tryz.prog w = .ok v' w' ∧ OU w' base v' (l ++ [x]) ∧ w.grownBy w' v.ownBlock ∧ Below base w w' ∧ (v'.ownBlock = v.ownBlock ∨ v'.ownBlock = some w.heap.size) := by
 obtain ⟨i0, hi0, hz0, hz1, hz2⟩ := info_parts runInfo
 have hlt := World.ownsRow.lt hown
 have e : vUs [x] = vU x := by simp [vUs]
 obtain ⟨v', w', hrun, h4, h5, _, h6⟩ := run_append_own_at (P := Tryz.prog) w base 149 ty 123 i0 _ 4 16 Tryz.underlying149 hi0 hz0 hz1 hz2 rfl (by omega) v l.length (vUs l) hown ad 1 1 (vUs [x]) (by rw [vUs_len]; rfl) (by rw [e]; exact hr)
  (vUs_one [x]) (by simp only [maxLen]; omega) (by omega) hbase
 refine ⟨v', w', hrun, ?_, h5, (Below.refl _ _).grown h5 hbase (fun k hk => (hlt k hk).1), h6⟩
 unfold OU
 rw [List.length_append, vUs_app]
 exact h4
theorem wpl_appU (w : World) {ops : Array Oper} {rest : List Oper} {o : Oper} {a : Act} {Q : Exit → Act → World → Prop} (hgd : o.guard = none) (s y : Operand)
  (ho : o.op = .call { callee := .builtin .append, args := #[s, y], argTypes := #[149, 149] })
  (base : Nat) (v : Value) (ad : Addr) (l : List Ru) (x : Ru) (hs : a.eval s = v) (hx : a.eval y = .slice (some ad) 1 1) (hown : OU w base v l) (hr : ∀ j u, (vU x)[j]? = some u → w.cell? (ad.add j) = some u) (hlen : l.length + 1 ≤ 1099511627776) (hbase : base ≤ w.heap.size)
  (h : ∀ v' w', OU w' base v' (l ++ [x]) → w.grownBy w' v.ownBlock → Below base w w' → (v'.ownBlock = v.ownBlock ∨ v'.ownBlock = some w.heap.size) → wpList Tryz.prog ops Q rest (a.put o.dst v') w') :
  wpList Tryz.prog ops Q (o :: rest) a w := by
 refine wpList_plain hgd fun K hK => ?_
 obtain ⟨v', w', hrun, h2, h3, h4, h5⟩ := run_appU w o.type hown hr hlen hbase
 unfold Oper.wp execOp
 simp only [ho, resolve, invoke, builtin, Sem.run_bind, Sem.run_pure, Result.andThen_ok, List.map_toArray, List.map_cons, List.map_nil, hs, hx, hrun]
 exact hK _ _ (h v' w' h2 h3 h4 h5)
theorem oneU (w : World) (x : Ru) (t : TypeId) : ∀ j u, (vU x)[j]? = some u → (w.alloc (.cells #[.int .u64 (x.1 : Int), .int .i32 x.2.r, .int .u16 (x.2.a : Int), .int .u8 (x.2.h : Int)] t)).cell? ((⟨w.heap.size, 0, none⟩ : Addr).add j) = some u := by
 intro j u hj
 have hk := heap_one w (.cells #[.int .u64 (x.1 : Int), .int .i32 x.2.r, .int .u16 (x.2.a : Int), .int .u8 (x.2.h : Int)] t)
 have e : (⟨w.heap.size, 0, none⟩ : Addr).add j = ⟨w.heap.size, j, none⟩ := by unfold Addr.add; split <;> simp_all
 rw [e]
 refine (cell3 hk j ?_).1
 rw [← hj]
 simp [vU]
/-! ### the cells of runs -/
def expL (l : List Ru) : List Cl := l.flatMap fun x => List.replicate x.1 x.2
theorem expL_app (l m : List Ru) : expL (l ++ m) = expL l ++ expL m := by simp [expL, List.flatMap_append]
theorem expL_one (x : Ru) : expL [x] = List.replicate x.1 x.2 := by simp [expL]
theorem expL_len (l : List Ru) (h : ∀ x ∈ l, 0 < x.1) : l.length ≤ (expL l).length := by
 induction l with
 | nil => simp
 | cons x l ih =>
  have := ih (fun y hy => h y (List.mem_cons_of_mem _ hy))
  have h0 := h x (by simp)
  simp only [expL, List.flatMap_cons, List.length_append, List.length_replicate, List.length_cons] at this ⊢
  omega
theorem expL_last (l : List Ru) (h : ∀ x ∈ l, 0 < x.1) : (expL l).getLast? = l.getLast?.map (·.2) := by
 rcases List.eq_nil_or_concat l with rfl | ⟨m, x, rfl⟩
 ·rfl
 ·have h0 := h x (by simp)
  rw [List.concat_eq_append, expL_app, expL_one, List.getLast?_append, List.getLast?_append]
  obtain ⟨n, hn⟩ : ∃ n, x.1 = n + 1 := ⟨x.1 - 1, by omega⟩
  rw [hn, List.replicate_succ', List.getLast?_append]
  simp
theorem run3_len {b : List UInt8} {x : Nat × Nat × Nat} {k : Nat} (h : run3 b = (x, k, 0)) : k ≤ b.length := by
 have h1 := (readL_bd b).2.1
 have h2 := (readL_bd (b.drop (readL b).2.1)).2.1
 have h3 := (readL_bd (b.drop ((readL b).2.1 + (readL (b.drop (readL b).2.1)).2.1))).2.1
 rw [List.length_drop] at h2 h3
 unfold run3 at h
 split at h
 ·simp only [Prod.mk.injEq] at h; omega
 ·split at h
  ·simp only [Prod.mk.injEq] at h; omega
  ·split at h
   ·simp only [Prod.mk.injEq] at h; omega
   ·simp only [Prod.mk.injEq] at h; omega
theorem rr_cases (n : Nat) (b : List UInt8) (left : Nat) :
  (∃ e, e ≠ 0 ∧ rrL b left = ((0, ⟨0, 0, 0⟩), 0, e) ∧ ∀ f out at_, out.length < n → n - out.length = left → left ≤ f → readF n f b out at_ = ([], 0, e)) ∨
  (∃ v1 c k, rrL b left = ((v1, c), k, 0) ∧ 0 < v1 ∧ v1 ≤ left ∧ k ≤ b.length ∧ ∀ f out at_, out.length < n → n - out.length = left → left ≤ f → (out.getLast? = some c → readF n f b out at_ = ([], 0, 21)) ∧ (out.getLast? ≠ some c → readF n f b out at_ = readF n f (b.drop k) (out ++ List.replicate v1 c) (at_ + k))) := by
 obtain ⟨⟨⟨v1, v2, v3⟩, k, e⟩, hr⟩ : ∃ X, run3 b = X := ⟨_, rfl⟩
 by_cases he : e = 0
 ·subst he
  by_cases hb : v1 = 0 ∨ left < v1 ∨ (cofL v2 v3).2 = false
  ·refine .inl ⟨21, by decide, rrL_bad hr hb, fun f out at_ h1 h2 h3 => readF_bad (by omega) h1 hr ?_⟩
   rcases hb with h | h | h
   ·exact .inl (.inl h)
   ·exact .inl (.inr (.inl (by omega)))
   ·unfold cofL at h
    by_cases hx : 1114111 < v2 ∨ 16384 ≤ v3
    ·exact .inl (.inr (.inr hx))
    ·rw [if_neg hx] at h
     exact .inr (.inl h)
  ·refine .inr ⟨v1, (cofL v2 v3).1, k, rrL_ok hr hb, by omega, by omega, run3_len hr, fun f out at_ h1 h2 h3 => ?_⟩
   have hx : ¬ (1114111 < v2 ∨ 16384 ≤ v3) := by
    intro hx
    apply hb
    right; right
    unfold cofL
    rw [if_pos hx]
   have hc : cofL v2 v3 = (cellOf v2 v3, cellB (cellOf v2 v3)) := by unfold cofL; rw [if_neg hx]
   rw [hc] at hb ⊢
   simp only at hb ⊢
   refine ⟨fun h => readF_bad (by omega) h1 hr (.inr (.inr h)), fun h => readF_go (by omega) h1 hr (by omega) ?_⟩
   rintro (g | g)
   ·exact hb (.inr (.inr g))
   ·exact h g
 ·exact .inl ⟨e, he, rrL_err hr he, fun f out at_ h1 h2 h3 => readF_err (by omega) h1 hr he⟩
def RsRel (b : List UInt8) (n : Nat) (w0 : World) (o a lv : Value) (wr : World) : Prop :=
 ∃ (rs : List Ru) (at_ left : Nat), at_ ≤ b.length ∧ a = .int .i64 (at_ : Int) ∧ lv = .int .u64 (left : Int) ∧ OU wr w0.heap.size o rs ∧ Below w0.heap.size w0 wr ∧ (∀ x ∈ rs, 0 < x.1) ∧ (expL rs).length + left = n ∧ readF n n (b.drop at_) (expL rs) at_ = readCL b (n : Int)
def RsPost (b : List UInt8) (n : Nat) (w : World) (e : Ending) (w' : World) : Prop :=
 ∃ (u : Value) (rs : List Ru), e = .returned (.tuple #[u, .int .i64 ((readCL b (n : Int)).2.1 : Int), .int .i64 ((readCL b (n : Int)).2.2 : Int)]) ∧ OU w' w.heap.size u rs ∧ Below w.heap.size w w' ∧ (∀ x ∈ rs, 0 < x.1) ∧ expL rs = (readCL b (n : Int)).1
theorem readRuns_any (v : Value) (b : List UInt8) (n : Nat) (w : World) (h : BS w w.heap.size v b) (hl : b.length ≤ 1048576) (hn : n ≤ 1048576) : Calls Tryz.prog 121 #[v, .int .u64 (n : Int)] w (RsPost b n w) := by
 have HB := Lh h
 obtain ⟨A, cp, rfl, g1, g2, -⟩ := h.at_
 unfold maxLen at g2
 clear h
 go_enter Tryz.func121, Tryz.ntmps121
 go_wp2
 go_loopw [7, 8, 9] (fun o a lv wr => RsRel b n w o a lv wr) (fun _ _ lv _ => (intOf lv).toNat)
 case atStart => exact ⟨[], 0, n, Nat.zero_le _, rfl, rfl, OU.nil _ _, Below.refl _ _, by simp, by simp [expL], by rw [List.drop_zero]; unfold readCL; rw [Int.toNat_natCast]; rfl⟩
 case round =>
  obtain ⟨rs, at_, left, hat, rfl, rfl, ho, hbel, hpos, hlen, hrd⟩ := hrel
  obtain ⟨Ao, co, rfl, p1, p2⟩ := ho.form
  have hle := hbel.size
  have hrl := expL_len rs hpos
  have HOO := Lh ho
  have HBE := Lh hbel
  have HRD := Lh hrd
  have HPO := Lh hpos
  have HLE := Lh hlen
  have lb : left ≤ 1048576 := by omega
  have lbi : (left : Int) ≤ 1048576 := by omega
  have rb : rs.length ≤ 1048576 := by omega
  clear ho hbel hrd hpos hlen
  by_cases hlt : 0 < left
  ·have hlti : 0 < (left : Int) := by omega
   obtain ⟨A2, hif2⟩ : ∃ A2, (if cp = at_ then A else Option.map (fun x => x.add at_) A) = A2 := ⟨_, rfl⟩
   have hc1 := (HB.out.below HBE.out).cut at_ (b.length - at_) (b.length - at_) (by omega) rfl
   rw [hif2, List.take_of_length_le (by simp)] at hc1
   have hrr := readRun_any _ (b.drop at_) (left : Int) wr w.heap.size hle hc1 (by simp; omega) (by omega) (by omega)
   unfold RrPost at hrr
   rw [Int.toNat_natCast] at hrr
   rcases rr_cases n (b.drop at_) left with ⟨er, he, hx, hrf⟩ | ⟨v1, c, k, hx, v0, v2, hk, hrf⟩
   ·rw [hx] at hrr
    have e1 : ((er : Int) != 0) = true := by simp; omega
    have HF := Lh (hrf n (expL rs) at_ (by have := HLE.out; omega) (by have := HLE.out; omega) (by have := HLE.out; omega))
    clear hrf hx hc1
    go_wp2_with (first
     | (go_at_call 133; refine hrr.mono ?_; rintro e w1 ⟨rfl, b1⟩))
    go_ret3
    exact ⟨_, [], by rw [← HRD.out, HF.out]; rfl, OU.nil _ _, (HBE.out.trans (b1.mono hle)).alloc (HBE.out.trans (b1.mono hle)).size _, by simp, by rw [← HRD.out, HF.out]; rfl⟩
   ·rw [hx] at hrr
    have HF := Lh (hrf n (expL rs) at_ (by have := HLE.out; omega) (by have := HLE.out; omega) (by have := HLE.out; omega))
    have HLA := Lh (expL_last rs HPO.out)
    rw [List.length_drop] at hk
    clear hrf hx hc1
    go_wp2_with fail
    refine hrr.mono ?_
    rintro e w1 ⟨rfl, b1⟩
    have KC := Lh (heap_one w1 (.cells #[.int .u64 (v1 : Int), .int .i32 c.r, .int .u16 (c.a : Int), .int .u8 (c.h : Int)] 123))
    have HOW := Lh ((HOO.out.below b1).alloc (.cells #[.int .u64 (v1 : Int), .int .i32 c.r, .int .u16 (c.a : Int), .int .u8 (c.h : Int)] 123))
    have HBW := Lh ((HBE.out.trans (b1.mono hle)).alloc (HBE.out.trans (b1.mono hle)).size (.cells #[.int .u64 (v1 : Int), .int .i32 c.r, .int .u16 (c.a : Int), .int .u8 (c.h : Int)] 123))
    have HNE := Lh (show (Value.slice Ao rs.length co).ownBlock ≠ some w1.heap.size from fun e => by have := (World.ownsRow.lt HOO.out _ e).2; have := b1.size; omega)
    have HZW := Lh (show w1.heap.size < (w1.alloc (.cells #[.int .u64 (v1 : Int), .int .i32 c.r, .int .u16 (c.a : Int), .int .u8 (c.h : Int)] 123)).heap.size by simp)
    clear b1 hrr
    go_upto_region 8 with fail
    generalize World.alloc w1 _ = W at KC HOW HBW HZW ⊢
    obtain ⟨m0, -⟩ := cell3 KC.out 0 rfl
    obtain ⟨m1, -⟩ := cell3 KC.out 1 rfl
    obtain ⟨m2, -⟩ := cell3 KC.out 2 rfl
    obtain ⟨m3, -⟩ := cell3 KC.out 3 rfl
    by_cases hrs : rs.length = 0
    ·have hd0 : decide (0 < rs.length) = false := decide_eq_false (by omega)
     have HRS := Lh (List.length_eq_zero_iff.1 hrs)
     have HNL := Lh (show (expL rs).getLast? ≠ some c by rw [HRS.out]; simp [expL])
     clear hrs
     go_quiet (fail)
     have HOD := Lh (HOW.out.below (below_drewP (Below.refl _ _) nq))
     have HBD := Lh (below_drewP HBW.out nq)
     have KCD := Lh (show (World.drewN W nq).heap[w1.heap.size]? = _ from KC.out)
     have HZD := Lh (show w1.heap.size < (World.drewN W nq).heap.size from HZW.out)
     generalize World.drewN W nq = D at HOD HBD KCD HZD ⊢
     clear m0 m1 m2 m3
     obtain ⟨m0, -⟩ := cell3 KCD.out 0 rfl
     obtain ⟨m1, -⟩ := cell3 KCD.out 1 rfl
     obtain ⟨m2, -⟩ := cell3 KCD.out 2 rfl
     obtain ⟨m3, -⟩ := cell3 KCD.out 3 rfl
     have hzd : w.heap.size ≤ D.heap.size := HBD.out.size
     have hza : w.heap.size ≤ (D.alloc (.cells #[.int .u64 (v1 : Int), .int .i32 c.r, .int .u16 (c.a : Int), .int .u8 (c.h : Int)] 123)).heap.size := by simp; omega
     have v2i : (v1 : Int) ≤ (left : Int) := by omega
     have ki : (at_ : Int) + (k : Int) ≤ 1048576 := by omega
     go_wp2_with (first
      | (at_builtin; refine wpl_appU _ rfl (.tmp 43) (.tmp 45) rfl w.heap.size _ _ rs (v1, c) rfl rfl (HOD.out.alloc _) (oneU D (v1, c) _) (by omega) hza ?_; intro vb wb ob gb bb _; have HKB := Lh ((gb.block w1.heap.size (by have := HZD.out; simp; omega) (Ne.symm HNE.out)).trans ((Below.heap_alloc D _ w1.heap.size HZD.out).trans KCD.out)); have HOB := Lh ob; have HBB := Lh ((HBD.out.alloc hzd _).trans bb); clear ob gb bb m0 m1 m2 m3; obtain ⟨m0, -⟩ := cell3 HKB.out 0 rfl))
     go_roundw
     case rel =>
      refine ⟨rs ++ [(v1, c)], at_ + k, left - v1, by omega, by go_num, by rw [show ((left - v1 : Nat) : Int) = (left : Int) - (v1 : Int) by omega], HOB.out, HBB.out, ?_, ?_, ?_⟩
      ·intro x hx
       rw [List.mem_append] at hx
       rcases hx with hx | hx
       ·exact HPO.out x hx
       ·simp at hx
        rw [hx]
        exact v0
      ·have := HLE.out
       rw [expL_app, expL_one, List.length_append, List.length_replicate]
       simp only
       omega
      ·rw [expL_app, expL_one, ← HRD.out, HF.out.2 HNL.out, List.drop_drop]
     case measure => simp [intOf]; omega
    ·obtain ⟨L, hL⟩ : ∃ L, rs.length = L + 1 := ⟨rs.length - 1, by omega⟩
     obtain ⟨x, hx⟩ : ∃ x, rs[L]? = some x := ⟨_, List.getElem?_eq_getElem (by omega)⟩
     obtain ⟨g, cap, hgv, q1, q2, q3, q4, t0, t1, t2, t3⟩ := HOW.out.get L x hx
     simp only [Value.slice.injEq] at hgv
     obtain ⟨rfl, -, rfl⟩ := hgv
     have HGL := Lh (show (expL rs).getLast? = some x.2 by rw [HLA.out, List.getLast?_eq_getElem?, show rs.length - 1 = L by omega, hx]; rfl)
     have hLi : (rs.length : Int) - 1 = (L : Int) := by omega
     have hLl : L < rs.length := by omega
     have hLw : IntKind.i64.wrap (L : Int) = (L : Int) := by rw [IntKind.wrap_i64]; omega
     have hd0 : decide (0 < rs.length) = true := decide_eq_true (by omega)
     obtain ⟨xn, c2⟩ := x
     simp only at t0 t1 t2 t3 HGL
     have t2' : W.cell? ⟨g, L * 4 + 1 + 1, none⟩ = some (.int .u16 (c2.a : Int)) := t2
     have t3' : W.cell? ⟨g, L * 4 + 1 + 2, none⟩ = some (.int .u8 (c2.h : Int)) := t3
     clear hrs hx hL
     by_cases hsame : c2 = c
     ·subst hsame
      have HBAD := Lh (HF.out.1 HGL.out)
      go_quiet (fail)
      have HBD := Lh (below_drewP HBW.out nq)
      go_wp2
      go_ret3
      exact ⟨_, [], by rw [← HRD.out, HBAD.out]; rfl, OU.nil _ _, HBD.out, by simp, by rw [← HRD.out, HBAD.out]; rfl⟩
     ·have HNL := Lh (show (expL rs).getLast? ≠ some c by rw [HGL.out]; exact fun e => hsame (Option.some.inj e))
      have hk3 : ((c2.r == c.r) = false) ∨ (c2.r = c.r ∧ ((c2.a : Int) == (c.a : Int)) = false) ∨ (c2.r = c.r ∧ c2.a = c.a ∧ ((c2.h : Int) == (c.h : Int)) = false) := by
       by_cases e1 : c2.r = c.r
       ·by_cases e2 : c2.a = c.a
        ·refine .inr (.inr ⟨e1, e2, bF fun e => hsame ?_⟩)
         cases c2
         cases c
         simp only at e1 e2 e
         rw [e1, e2]
         congr 1
         omega
        ·exact .inr (.inl ⟨e1, bF (by omega)⟩)
       ·exact .inl (bF e1)
      clear hsame
      rcases hk3 with hbq | ⟨hrq, hbq⟩ | ⟨hrq, haq, hbq⟩
      all_goals
       try rw [hrq] at t1
       try rw [haq] at t2
       try rw [haq] at t2'
       try clear hrq
       try clear haq
       go_quiet (fail)
       clear t0 t1 t2 t3 t2' t3' hLi hLw
       have HOD := Lh (HOW.out.below (below_drewP (Below.refl _ _) nq))
       have HBD := Lh (below_drewP HBW.out nq)
       have KCD := Lh (show (World.drewN W nq).heap[w1.heap.size]? = _ from KC.out)
       have HZD := Lh (show w1.heap.size < (World.drewN W nq).heap.size from HZW.out)
       generalize World.drewN W nq = D at HOD HBD KCD HZD ⊢
       clear m0 m1 m2 m3
       obtain ⟨m0, -⟩ := cell3 KCD.out 0 rfl
       obtain ⟨m1, -⟩ := cell3 KCD.out 1 rfl
       obtain ⟨m2, -⟩ := cell3 KCD.out 2 rfl
       obtain ⟨m3, -⟩ := cell3 KCD.out 3 rfl
       have hzd : w.heap.size ≤ D.heap.size := HBD.out.size
       have hza : w.heap.size ≤ (D.alloc (.cells #[.int .u64 (v1 : Int), .int .i32 c.r, .int .u16 (c.a : Int), .int .u8 (c.h : Int)] 123)).heap.size := by simp; omega
       have v2i : (v1 : Int) ≤ (left : Int) := by omega
       have ki : (at_ : Int) + (k : Int) ≤ 1048576 := by omega
       go_wp2_with (first
        | (at_builtin; refine wpl_appU _ rfl (.tmp 43) (.tmp 45) rfl w.heap.size _ _ rs (v1, c) rfl rfl (HOD.out.alloc _) (oneU D (v1, c) _) (by omega) hza ?_; intro vb wb ob gb bb _; have HKB := Lh ((gb.block w1.heap.size (by have := HZD.out; simp; omega) (Ne.symm HNE.out)).trans ((Below.heap_alloc D _ w1.heap.size HZD.out).trans KCD.out)); have HOB := Lh ob; have HBB := Lh ((HBD.out.alloc hzd _).trans bb); clear ob gb bb m0 m1 m2 m3; obtain ⟨m0, -⟩ := cell3 HKB.out 0 rfl))
       go_roundw
       case rel =>
        refine ⟨rs ++ [(v1, c)], at_ + k, left - v1, by omega, by go_num, by rw [show ((left - v1 : Nat) : Int) = (left : Int) - (v1 : Int) by omega], HOB.out, HBB.out, ?_, ?_, ?_⟩
        ·intro x hx
         rw [List.mem_append] at hx
         rcases hx with hx | hx
         ·exact HPO.out x hx
         ·simp at hx
          rw [hx]
          exact v0
        ·have := HLE.out
         rw [expL_app, expL_one, List.length_append, List.length_replicate]
         simp only
         omega
        ·rw [expL_app, expL_one, ← HRD.out, HF.out.2 HNL.out, List.drop_drop]
       case measure => simp [intOf]; omega
  ·obtain rfl : left = 0 := by omega
   have hlen := HLE.out
   have HE := Lh (readF_end n n (b.drop at_) (expL rs) at_ (by omega))
   clear hlen
   go_wp2
   go_ret3
   exact ⟨_, rs, by rw [← HRD.out, HE.out]; rfl, HOO.out, HBE.out, HPO.out, by rw [← HRD.out, HE.out]⟩
def ApU (out : List Cl) (c : Cl) (Y : Nat) (w : World) (cb : Nat) (C : Obj) (ov iv : Value) (wr : World) : Prop :=
 ∃ m : Nat, m ≤ Y ∧ iv = .int .u64 (m : Int) ∧ OC wr w.heap.size ov (out ++ List.replicate m c) ∧ ov.ownBlock ≠ some cb ∧ wr.heap[cb]? = some C ∧ Below w.heap.size w wr
theorem apU_next {out : List Cl} {c : Cl} {Y m cb : Nat} {w wr w3 : World} {C o : Obj} {ov v' : Value} (hm : m < Y) (hne : ov.ownBlock ≠ some cb) (kc : wr.heap[cb]? = some C) (hb : Below w.heap.size w wr)
  (h1 : OC w3 w.heap.size v' (out ++ List.replicate m c ++ [c])) (hg : (wr.alloc o).grownBy w3 ov.ownBlock) (hb3 : Below w.heap.size (wr.alloc o) w3) (hat : v'.ownBlock = ov.ownBlock ∨ v'.ownBlock = some (wr.alloc o).heap.size) : ApU out c Y w cb C v' (.int .u64 ((m + 1 : Nat) : Int)) w3 := by
 have lc := lt3 kc
 have hz : (wr.alloc o).heap.size = wr.heap.size + 1 := by simp
 refine ⟨m + 1, hm, rfl, ?_, ?_, (hg.block cb (by rw [hz]; omega) (Ne.symm hne)).trans ((Below.heap_alloc wr o cb lc).trans kc), (hb.alloc hb.size o).trans hb3⟩
 ·rw [List.replicate_succ', ← List.append_assoc]
  exact h1
 ·rcases hat with e | e
  ·rw [e]; exact hne
  ·rw [e, hz]
   intro e2
   injection e2 with e2
   omega
def SpRel (rs : List Ru) (w : World) (ov iv : Value) (wr : World) : Prop := ∃ j : Nat, j ≤ rs.length ∧ iv = .int .i64 (j : Int) ∧ OC wr w.heap.size ov (expL (rs.take j)) ∧ Below w.heap.size w wr
def SpPost (rs : List Ru) (w : World) (e : Ending) (w' : World) : Prop := ∃ u, e = .returned u ∧ OC w' w.heap.size u (expL rs) ∧ Below w.heap.size w w'
theorem below_grown {w w' : World} (h : w.grownBy w' none) : Below w.heap.size w w' := ⟨h.os, h.tape, h.output, h.size, fun i hi => h.block i hi (by simp)⟩
theorem spread_any (v : Value) (rs : List Ru) (n : Nat) (base : Nat) (w : World) (h : OU w base v rs) (hl : (expL rs).length ≤ 1048576) (hn : n ≤ 1048576) (hpos : ∀ x ∈ rs, 0 < x.1) : Calls Tryz.prog 122 #[v, .int .i64 (n : Int)] w (SpPost rs w) := by
 have hrl := expL_len rs hpos
 have HOU := Lh h
 obtain ⟨A, cp, rfl, g1, g2⟩ := h.form
 have HL := Lh hl
 clear h hpos hl
 obtain ⟨i0, hi0, hz0, hz1, hz2⟩ := info_parts cellInfo
 obtain ⟨w5, hmk, ho5, hg5⟩ := run_make_own (P := Tryz.prog) w w.heap.size 22 65 i0 _ 3 Tryz.underlying22 hi0 hz0 hz1 .i64 .i64 n (by rw [hz2]; omega) (by unfold maxLen; omega) (Nat.le_refl _)
 have HO5 := Lh (show OC w5 w.heap.size (.slice (some ⟨w.heap.size, 0, none⟩) 0 n) [] from ho5)
 have HB5 := Lh (below_grown hg5)
 clear ho5 hg5 hi0 hz0 hz1 hz2
 go_enter Tryz.func122, Tryz.ntmps122
 go_wp2
 go_loopw [5, 12] (fun ov iv wr => SpRel rs w ov iv wr) (fun _ iv _ => rs.length - (intOf iv).toNat)
 case atStart => exact ⟨0, Nat.zero_le _, rfl, HO5.out, HB5.out⟩
 case round =>
  obtain ⟨j, hj, rfl, ho, hbel⟩ := hrel
  have HOO := Lh ho
  have HBE := Lh hbel
  have hle := hbel.size
  obtain ⟨Ao, co, rfl, p1, p2⟩ := ho.cs.form
  clear ho hbel
  by_cases hlt : j < rs.length
  ·obtain ⟨x, hx⟩ : ∃ x, rs[j]? = some x := ⟨_, List.getElem?_eq_getElem hlt⟩
   obtain ⟨g, cap, hgv, q1, q2, q3, q4, t0, t1, t2, t3⟩ := (HOU.out.below HBE.out).get j x hx
   simp only [Value.slice.injEq] at hgv
   obtain ⟨rfl, -, rfl⟩ := hgv
   have htk : expL (rs.take (j + 1)) = expL (rs.take j) ++ List.replicate x.1 x.2 := by
    rw [List.take_add_one, hx, expL_app]
    exact congrArg (expL (rs.take j) ++ ·) (expL_one x)
   have hlen : (expL (rs.take j)).length + x.1 ≤ 1048576 := by
    have h1 : expL rs = expL (rs.take (j + 1)) ++ expL (rs.drop (j + 1)) := by rw [← expL_app, List.take_append_drop]
    have h2 := HL.out
    rw [h1, htk, List.length_append, List.length_append, List.length_replicate] at h2
    omega
   have HTK := Lh htk
   clear htk hx
   obtain ⟨Y, c⟩ := x
   simp only at t0 t1 t2 t3 hlen HTK
   have KC := Lh (heap_one wr (.cells #[.int .u64 (Y : Int), .int .i32 c.r, .int .u16 (c.a : Int), .int .u8 (c.h : Int)] 123))
   have HOW := Lh (HOO.out.alloc (.cells #[.int .u64 (Y : Int), .int .i32 c.r, .int .u16 (c.a : Int), .int .u8 (c.h : Int)] 123))
   have HBW := Lh (HBE.out.alloc hle (.cells #[.int .u64 (Y : Int), .int .i32 c.r, .int .u16 (c.a : Int), .int .u8 (c.h : Int)] 123))
   have HNE := Lh (show (Value.slice Ao (expL (rs.take j)).length co).ownBlock ≠ some wr.heap.size from fun e => by have := (World.ownsRow.lt HOO.out _ e).2; omega)
   go_upto_region 5 with fail
   generalize World.alloc wr _ = W at KC HOW HBW ⊢
   obtain ⟨m0, -⟩ := cell3 KC.out 0 rfl
   clear t0 t1 t2 t3
   go_wp2
   generalize wr.heap.size = cb at *
   go_loopw [5, 18] (fun ov iv wy => ApU (expL (rs.take j)) c Y w cb (.cells #[.int .u64 (Y : Int), .int .i32 c.r, .int .u16 (c.a : Int), .int .u8 (c.h : Int)] 123) ov iv wy) (fun _ iv _ => Y - (intOf iv).toNat)
   case atStart => exact ⟨0, Nat.zero_le _, rfl, by simpa using HOW.out, HNE.out, KC.out, HBW.out⟩
   case round =>
    obtain ⟨m, hm, rfl, ho, hne, kc, hb⟩ := hrel
    obtain ⟨A9, c9, rfl, g7, g8⟩ := ho.cs.form
    obtain ⟨c1, -⟩ := cell3 kc 1 rfl
    obtain ⟨c2, -⟩ := cell3 kc 2 rfl
    obtain ⟨c3, -⟩ := cell3 kc 3 rfl
    have hle9 := hb.size
    have HO9 := Lh ho
    have HNE9 := Lh hne
    have KC9 := Lh kc
    have HB9 := Lh hb
    have hm1 : (m : Int) ≤ 1048576 := by omega
    clear ho hne kc hb
    by_cases hmY : m < Y
    ·have hmY' : (m : Int) < (Y : Int) := by omega
     have hlen2 : (expL (rs.take j) ++ List.replicate m c).length ≤ 1048576 := by simp; omega
     go_wp2_with (first
      | (at_builtin; refine wpl_appC _ rfl (.tmp 20) (.tmp 23) rfl w.heap.size _ _ _ (expL (rs.take j) ++ List.replicate m c) [c] rfl rfl (HO9.out.alloc _) (oneC _ c) (by simp only [List.length_cons, List.length_nil]; omega) (by simp; omega) ?_; intro v3 w3 ho3 hg3 hb3 hat3))
     go_roundw
     case rel =>
      have h := apU_next hmY HNE9.out KC9.out HB9.out ho3 hg3 hb3 hat3
      rw [show ((m + 1 : Nat) : Int) = (m : Int) + 1 by omega] at h
      exact h
     case measure => simp [intOf]; omega
    ·obtain rfl : m = Y := by omega
     go_wp2
     refine ⟨⟨j + 1, hlt, by go_num, by rw [HTK.out]; exact HO9.out, HB9.out⟩, ?_⟩
     simp [intOf]
     omega
  ·obtain rfl : j = rs.length := by omega
   go_wp2
   go_ret
   refine ⟨_, rfl, ?_, HBE.out⟩
   have := HOO.out
   rw [List.take_length] at this
   simpa using this
theorem CS.cutL {w : World} {B : Nat} {A : Option Addr} {n c : Nat} {l : List Cl} (h : CS w B (.slice A n c) l) (k j : Nat) (hk : k ≤ l.length) (hj : j = l.length - k) :
  CS w B (.slice (if c = k then A else Option.map (fun x => x.add (k * 3)) A) j (c - k)) (l.drop k) := by
 subst hj
 obtain ⟨A', c', hv, h1, h2, h3⟩ := h
 simp only [Value.slice.injEq] at hv
 obtain ⟨rfl, rfl, rfl⟩ := hv
 have hlen : (l.drop k).length = l.length - k := by simp
 refine ⟨_, c - k, by rw [hlen], by rw [hlen]; omega, by omega, fun hl => ?_⟩
 rw [hlen] at hl
 obtain ⟨ad, rfl, hb, hc⟩ := h3 (by omega)
 rw [if_neg (by omega)]
 refine ⟨ad.add (k * 3), rfl, by rw [block_add]; exact hb, fun i b hi => ?_⟩
 rw [List.getElem?_drop] at hi
 have := hc _ b hi
 rw [add_add, show k * 3 + i * 3 = (k + i) * 3 by omega]
 exact this
def P1Rel (l : List Cl) (w0 : World) (i : Value) (wr : World) : Prop := ∃ j : Nat, j ≤ l.length ∧ i = .int .i64 (j : Int) ∧ (∀ x ∈ l.take j, cellB x = true) ∧ Below w0.heap.size w0 wr
def P2Rel (l : List Cl) (w0 : World) (v o : Value) (wr : World) : Prop :=
 ∃ (j : Nat) (lo : List UInt8), j ≤ l.length ∧ CS wr w0.heap.size v (l.drop j) ∧ OB wr w0.heap.size o lo ∧ Below w0.heap.size w0 wr ∧ lo.length ≤ 30 * j ∧ lo ++ bytL (l.drop j) = bytL l
theorem putP_any (v : Value) (l : List Cl) (w : World) (h : CS w w.heap.size v l) (hl : l.length ≤ 1048576) (hf : ∀ x ∈ l, FitC x) : Calls Tryz.prog 52 #[v] w (PutCPost l w) := by
 have HC := Lh h
 obtain ⟨A, cp, rfl, g1, g2⟩ := h.form
 have HF := Lh hf
 clear h hf
 go_enter Tryz.func52, Tryz.ntmps52
 go_wp2
 go_loopw [10] (fun i wr => P1Rel l w i wr) (fun i _ => l.length - (intOf i).toNat)
 case atStart => exact ⟨0, Nat.zero_le _, rfl, by simp, Below.refl _ _⟩
 case round =>
  obtain ⟨j, hj, rfl, hall, hbel⟩ := hrel
  by_cases hlt : j < l.length
  ·obtain ⟨c, hc⟩ : ∃ c, l[j]? = some c := ⟨_, List.getElem?_eq_getElem hlt⟩
   have hmem : c ∈ l := List.mem_of_getElem? hc
   have HFC := Lh (HF.out c hmem)
   obtain ⟨ad, hAd, hadb, t0, t1, t2⟩ := (HC.out.below hbel).get j c hc
   subst hAd
   have hcr (w : World) := right_any c HFC.out w
   unfold aC at hcr
   have HBE := Lh hbel
   have HALL := Lh hall
   have HCJ := Lh hc
   clear hall hc hbel
   cases hcb : cellB c with
   | false =>
    rw [hcb] at hcr
    have HPN := Lh (putCL_no hmem hcb)
    clear hcb
    go_wp2_with (first | (go_at_call 79; refine (hcr _).mono ?_; rintro e w1 ⟨rfl, b1⟩))
    go_ret2
    exact ⟨_, by rw [HPN.out]; rfl, by rw [HPN.out]; exact OB.nil _ _, (HBE.out.alloc HBE.out.size _).trans (b1.mono (HBE.out.alloc HBE.out.size _).size)⟩
   | true =>
    rw [hcb] at hcr
    have HCB := Lh hcb
    clear hcb
    go_wp2_with (first | (go_at_call 79; refine (hcr _).mono ?_; rintro e w1 ⟨rfl, b1⟩))
    go_roundw
    case rel =>
     refine ⟨j + 1, hlt, by go_num, ?_, (HBE.out.alloc HBE.out.size _).trans (b1.mono (HBE.out.alloc HBE.out.size _).size)⟩
     intro x hx
     rw [List.take_add_one, HCJ.out, List.mem_append] at hx
     rcases hx with hx | hx
     ·exact HALL.out x hx
     ·simp at hx
      rw [hx]
      exact HCB.out
    case measure => simp [intOf]; omega
  ·obtain rfl : j = l.length := by omega
   rw [List.take_length] at hall
   have HPY := Lh (putCL_yes (l := l) hall)
   have HALL := Lh hall
   have HBE := Lh hbel
   clear hall hbel hlt hj
   go_wp2
   generalize wr = w5 at *
   go_loopw [0, 6] (fun v o wr => P2Rel l w v o wr) (fun v _ _ => match v with | .slice _ n _ => n | _ => 0)
   case atStart => exact ⟨0, [], Nat.zero_le _, HC.out.below HBE.out, OB.nil _ _, HBE.out, by simp, rfl⟩
   case round =>
    obtain ⟨j, lo, hj, hcs, ho, hbel, hlo, hby⟩ := hrel
    obtain ⟨A3, c3, rfl, g5, g6⟩ := hcs.form
    have hdl : (l.drop j).length = l.length - j := by simp
    have hle := hbel.size
    by_cases hlt : j < l.length
    ·obtain ⟨c, hc⟩ : ∃ c, l[j]? = some c := ⟨_, List.getElem?_eq_getElem hlt⟩
     have hcb := HALL.out c (List.mem_of_getElem? hc)
     obtain ⟨N, hN⟩ : ∃ N, sameN c (l.drop j) = N := ⟨_, rfl⟩
     obtain ⟨n1, n2, hbd⟩ := bytL_drop l j N c hc hN
     have hfr := firstRun_any _ (l.drop j) c N wr (hcs.more hle) (by omega) (by rw [List.getElem?_drop]; exact hc) hN
     have hpr (w : World) := putRun_any N c w (by omega) hcb
     have HCS := Lh hcs
     have HOO := Lh ho
     have HBW := Lh hbel
     have HBY := Lh hby
     have HBD := Lh hbd
     have hrl := (runB_len N c).2
     have hd0 : 0 < l.length - j := by omega
     rw [hdl] at g5 hfr ⊢
     rw [hdl] at HCS
     obtain ⟨M, hM⟩ : ∃ M, l.length - j = M := ⟨_, rfl⟩
     rw [hM] at g5 hfr hd0 HCS ⊢
     have HM := Lh hM
     have nM : N ≤ M := by omega
     have nI : (N : Int) ≤ (M : Int) := by omega
     have cM : (M : Int) ≤ 1048576 := by omega
     obtain ⟨A4, hif⟩ : ∃ A4, (if c3 = N then A3 else Option.map (fun x => x.add (N * 3)) A3) = A4 := ⟨_, rfl⟩
     have hcut := HCS.out.cutL N (M - N) (by omega) (by omega)
     rw [hif] at hcut
     have HCUT := Lh hcut
     clear hcs ho hbel hby hbd hc hcb hN hdl hM hcut
     go_wp2_with (first
      | (go_at_call 84; refine hfr.mono ?_; rintro e w1 ⟨rfl, b1⟩))
     refine (hpr _).mono ?_
     rintro e wa ⟨va, rfl, oa, ba⟩
     have hz : (w1.alloc (.cells #[.int .u64 (N : Int), .int .i32 c.r, .int .u16 (c.a : Int), .int .u8 (c.h : Int)] 123)).heap.size = w1.heap.size + 1 := by simp
     have hk1 : (w1.alloc (.cells #[.int .u64 (N : Int), .int .i32 c.r, .int .u16 (c.a : Int), .int .u8 (c.h : Int)] 123)).heap[w1.heap.size]? = some (.cells #[.int .u64 (N : Int), .int .i32 c.r, .int .u16 (c.a : Int), .int .u8 (c.h : Int)] 123) := by
      show (w1.heap.push _)[w1.heap.size]? = _
      simp
     have hka := (ba.block w1.heap.size (by rw [hz]; omega)).trans hk1
     have hwa : Below wr.heap.size wr wa := ((b1.alloc b1.size _).trans (ba.mono (b1.alloc b1.size _).size))
     have hoa := HOO.out.below hwa
     have hva := oa.bs
     have hza : w.heap.size ≤ wa.heap.size := Nat.le_trans hle hwa.size
     have hlt1 : w1.heap.size < wa.heap.size := by have := ba.size; rw [hz] at this; omega
     have HWA := Lh hwa
     have HKA := Lh hka
     have HNE := Lh (show some w1.heap.size ≠ Value.ownBlock u6 from fun e => by have := (World.ownsRow.lt HOO.out _ e.symm).2; have := b1.size; omega)
     clear hz hk1 hka hwa oa ba
     go_wp2_with (first
      | (at_builtin; refine wpl_app _ rfl (.tmp 23) (.tmp 25) rfl w.heap.size _ _ _ lo (runB N c) rfl rfl hoa hva (by omega) hza ?_; intro vb wb ob gb bb _; have HKB := Lh ((gb.block w1.heap.size hlt1 HNE.out).trans HKA.out); have HOB := Lh ob; have HBB := Lh ((HWA.out.mono hle).trans bb); clear ob gb bb hoa hva; obtain ⟨c0, -⟩ := cell3 HKB.out 0 rfl))
     go_roundw
     case rel =>
      refine ⟨j + N, lo ++ runB N c, n2, ?_, HOB.out, HBW.out.trans HBB.out, by rw [List.length_append]; omega, ?_⟩
      ·rw [← List.drop_drop]
       exact HCUT.out.below HBB.out
      ·rw [← HBY.out, HBD.out, List.append_assoc]
     case measure => simp; omega
    ·have hj2 : j = l.length := by omega
     rw [hdl] at g5 ⊢
     have hM : l.length - j = 0 := by omega
     rw [hM] at g5 ⊢
     rw [hj2, List.drop_length] at hby
     have HBY := Lh hby
     clear hby hM hj2 hdl
     go_wp2
     go_ret2
     refine ⟨_, by rw [HPY.out]; rfl, ?_, hbel⟩
     rw [HPY.out]
     have e : lo = bytL l := by rw [← HBY.out]; simp [bytL, bytF]
     rw [← e]
     exact ho
theorem readF_len (n f : Nat) (b : List UInt8) (out : List Cl) (at_ : Nat) (h : out.length ≤ n) : (readF n f b out at_).1.length ≤ n := by
 induction f generalizing b out at_ with
 | zero => exact h
 | succ f ih =>
  unfold readF
  split
  ·split
   ·simp
   ·split
    ·simp
    ·split
     ·simp
     ·rename_i h1 h2 _
      exact ih _ _ _ (by rw [List.length_append, List.length_replicate]; omega)
  ·exact h
theorem readF_bad0 (n f : Nat) (b : List UInt8) (out : List Cl) (at_ : Nat) (h : (readF n f b out at_).2.2 ≠ 0) : (readF n f b out at_).1 = [] ∧ (readF n f b out at_).2.1 = 0 := by
 induction f generalizing b out at_ with
 | zero => exact absurd rfl h
 | succ f ih =>
  unfold readF at h ⊢
  split at h
  ·rename_i g
   rw [if_pos g]
   split at h
   ·rename_i g1; rw [if_pos g1]; exact ⟨rfl, rfl⟩
   ·rename_i g1
    rw [if_neg g1]
    split at h
    ·rename_i g2; rw [if_pos g2]; exact ⟨rfl, rfl⟩
    ·rename_i g2
     rw [if_neg g2]
     split at h
     ·rename_i g3; rw [if_pos g3]; exact ⟨rfl, rfl⟩
     ·rename_i g3
      rw [if_neg g3]
      exact ih _ _ _ h
  ·exact absurd rfl h
theorem readCL_len (b : List UInt8) (n : Int) : (readCL b n).1.length ≤ n.toNat := readF_len _ _ _ _ _ (by simp)
theorem readP_any (v : Value) (b : List UInt8) (n : Int) (w : World) (h : BS w w.heap.size v b) (hl : b.length ≤ 1048576) (hn0 : -9223372036854775808 ≤ n) (hn : n ≤ 1048576) : Calls Tryz.prog 92 #[v, .int .i64 n] w (ReadCPost b n w) := by
 obtain ⟨N, hN⟩ : ∃ N : Nat, (if n < 0 then 0 else n) = (N : Int) := ⟨n.toNat, by split <;> omega⟩
 have N1 : (N : Int) ≤ 1048576 := by split at hN <;> omega
 have HRC := Lh (show readCL b (N : Int) = readCL b n by unfold readCL; rw [show ((N : Int)).toNat = n.toNat by split at hN <;> omega])
 have hrs := readRuns_any v b N w h hl (by omega)
 have hlen := readCL_len b (N : Int)
 rw [Int.toNat_natCast] at hlen
 have hbd := readF_bad0 N N b [] 0
 have hcl : readF N N b [] 0 = readCL b (N : Int) := by unfold readCL; rw [Int.toNat_natCast]
 rw [hcl] at hbd
 obtain ⟨⟨C, K, E⟩, hX⟩ : ∃ X, readCL b (N : Int) = X := ⟨_, rfl⟩
 have HX := Lh hX
 unfold RsPost at hrs
 rw [hX] at hrs hlen hbd
 simp only at hrs hlen hbd
 clear h hX hcl
 by_cases hE : E = 0
 ·subst hE
  go_enter Tryz.func92, Tryz.ntmps92
  go_wp2_with fail
  refine hrs.mono ?_
  rintro e w1 ⟨u, rs, rfl, hou, hb1, hpos, hex⟩
  have hsp := spread_any u rs N w.heap.size w1 hou (by rw [hex]; omega) (by omega) hpos
  have HB1 := Lh hb1
  have HEX := Lh hex
  clear hrs hou hb1 hpos hex
  go_wp2_with fail
  refine hsp.mono ?_
  rintro e w2 ⟨u2, rfl, hoc, hb2⟩
  have HOC := Lh (hoc.lower HB1.out.size)
  have HB2 := Lh (HB1.out.trans (hb2.mono HB1.out.size))
  clear hsp hoc hb2
  go_wp2
  go_ret3
  refine ⟨u2, ?_, ?_, HB2.out⟩
  ·rw [← HRC.out, HX.out]; rfl
  ·rw [← HRC.out, HX.out]
   have := HOC.out
   rw [HEX.out] at this
   exact this
 ·obtain ⟨rfl, rfl⟩ := hbd hE
  have e1 : ((E : Int) != 0) = true := by simp; omega
  go_enter Tryz.func92, Tryz.ntmps92
  go_wp2_with fail
  refine hrs.mono ?_
  rintro e w1 ⟨u, rs, rfl, hou, hb1, hpos, hex⟩
  clear hrs hou hpos hex
  go_wp2
  go_ret3
  refine ⟨.slice none 0 0, ?_, ?_, hb1⟩
  ·rw [← HRC.out, HX.out]; rfl
  ·rw [← HRC.out, HX.out]
   exact OC.nil _ _
theorem own_fr {w w' : World} {base size n g : Nat} {e : TypeId} {v : Value} {xs : List Value} (h : w.ownsRow base e size v n xs) (hg : g < base) (hf : FrG g w w') : w'.ownsRow base e size v n xs :=
 own_keep h (fun b hb => hf.block b (World.ownsRow.lt h b hb).2 (fun e => by have := (World.ownsRow.lt h b hb).1; omega))
theorem FrG.low {g : Nat} {w w1 w2 : World} (h : FrG g w w1) (hb : Below w.heap.size w1 w2) : FrG g w w2 := ⟨hb.os.trans h.os, hb.tape.trans h.tape, hb.output.trans h.output, Nat.le_trans h.size hb.size, fun k hk hn => (hb.block k hk).trans (h.block k hk hn)⟩
theorem RD.low {w w' : World} {B g : Nat} {q : Rd} (h : RD w g q) (hg : g < B) (hb : Below B w w') : RD w' g q := by
 obtain ⟨A, c, h1, h2⟩ := h
 exact ⟨A, c, (hb.block g hg).trans h1, h2.keep (fun p hp => hb.cell (by omega))⟩
def TabPost (g : Nat) (l : List Bool) (q : Rd) (w : World) (e : Ending) (w' : World) : Prop := ∃ v, e = .returned v ∧ OT w' w.heap.size v l ∧ RD w' g q ∧ FrG g w w'
def SnTabRel (n g : Nat) (q : Rd) (w : World) (ov iv : Value) (wr : World) : Prop :=
 ∃ (k : Nat) (done : List Bool) (qk : Rd), k ≤ n ∧ iv = .int .i64 (k : Int) ∧ OT wr w.heap.size ov done ∧ RD wr g qk ∧ FrG g w wr ∧ qk.1.length ≤ q.1.length ∧ done.length = k ∧ tabsR n q = (done ++ (tabsR (n - k) qk).1, (tabsR (n - k) qk).2)
theorem tab_next {n k : Nat} {q qk : Rd} {done : List Bool} (hk : k < n) (h : tabsR n q = (done ++ (tabsR (n - k) qk).1, (tabsR (n - k) qk).2)) : tabsR n q = ((done ++ [decide ((numR 1 qk).1 = 1)]) ++ (tabsR (n - (k + 1)) (numR 1 qk).2).1, (tabsR (n - (k + 1)) (numR 1 qk).2).2) := by
 rw [h, show n - k = (n - (k + 1)) + 1 by omega]
 simp [tabsR]
theorem tabs_any (g n : Nat) (q : Rd) (w : World) (h : RD w g q) (hl : q.1.length ≤ 1048576) (hn : n ≤ 1000) : Calls Tryz.prog 61 #[.pointer (some ⟨g, 0, none⟩), .int .i64 (n : Int)] w (TabPost g (tabsR n q).1 (tabsR n q).2 w) := by
 have hg := h.lt
 have H := Lh h
 clear h
 go_enter Tryz.func61, Tryz.ntmps61
 go_wp2
 go_loopw [5, 7] (fun ov iv wr => SnTabRel n g q w ov iv wr) (fun _ iv _ => n - (intOf iv).toNat)
 case atStart => exact ⟨0, [], q, Nat.zero_le _, rfl, OT.nil _ _, H.out, FrG.refl _ _, Nat.le_refl _, rfl, by simp⟩
 case round =>
  obtain ⟨k, done, qk, hk, rfl, ho, hr, hf, hq, rfl, ht⟩ := hrel
  have hsz := hf.size
  obtain ⟨Ao, co, rfl, p1, p2⟩ := ho.bs.at_
  have HO := Lh ho
  have HF := Lh hf
  have HT := Lh ht
  have HR := Lh hr
  have HNUM : Hid (Calls Tryz.prog 60 #[.pointer (some ⟨g, 0, none⟩), .int .u64 1] wr (NumPost g ((numR 1 qk).1 : Int) (numR 1 qk).2 wr)) := number_any g 1 qk wr hr (by omega) (by omega)
  have hq2 := numR_rest 1 qk
  clear ho hr hf ht
  by_cases hlt : done.length < n
  ·have HT2 := Lh (tab_next hlt HT.out)
   have hb : (((numR 1 qk).1 : Int) == 1) = decide ((numR 1 qk).1 = 1) := by
    rw [Bool.eq_iff_iff]
    simp
    omega
   generalize decide ((numR 1 qk).1 = 1) = bb at *
   generalize (numR 1 qk).1 = nn at *
   generalize (numR 1 qk).2 = q2 at *
   go_wp2_with first
    | (go_at_call 60; refine HNUM.out.mono ?_; rintro e w1 ⟨rfl, r1, f1⟩; have HO1 := Lh (own_fr HO.out (by omega) f1); have R1 := Lh r1; have F1 := Lh (HF.out.trans f1); have hs1 := f1.size; clear r1 f1)
    | (at_builtin; refine wpl_appT _ rfl (.tmp 9) (.tmp 13) rfl w.heap.size _ _ _ done [bb] rfl rfl (OT.alloc HO1.out _) (TS.one _ bb _) (by simp; omega) (by simp; omega) ?_; intro v3 w3 ho3 hg3 hb3 hat3)
   go_roundw
   case rel => exact ⟨done.length + 1, done ++ [bb], q2, by omega, by go_num, ho3, (R1.out.keep (Below.alloc (Below.refl _ _) (Nat.le_refl _) _)).low (by omega) hb3, (F1.out.low (Below.alloc (Below.refl _ _) (by omega) _)).low hb3, by omega, by simp, HT2.out⟩
   case measure => simp [intOf]; omega
  ·obtain rfl : done.length = n := by omega
   go_wp2
   go_ret
   have ht := HT.out
   rw [Nat.sub_self] at ht
   rw [ht]
   exact ⟨_, rfl, by simpa [tabsR] using HO.out, HR.out, HF.out⟩
def CelPost (g : Nat) (l : List Cl) (q : Rd) (w : World) (e : Ending) (w' : World) : Prop := ∃ v, e = .returned v ∧ OC w' w.heap.size v l ∧ RD w' g q ∧ FrG g w w'
theorem cellsRd_yes {n k : Nat} {l : List UInt8} {f : Bool} {c : List Cl} (h : readCL l (n : Int) = (c, k, 0)) : cellsR n (l, f) = (c, l.drop k, f) := by
 unfold cellsR
 simp only [h]
 rw [if_pos trivial]
theorem cellsRd_no {n k e : Nat} {l : List UInt8} {f : Bool} {c : List Cl} (h : readCL l (n : Int) = (c, k, e)) (he : e ≠ 0) : cellsR n (l, f) = ([], [], true) := by
 unfold cellsR
 simp only [h]
 rw [if_neg he]
theorem readL_k {l : List UInt8} {v k : Nat} (h : readL l = (v, k, 0)) : k ≤ l.length := by
 have := (readL_bd l).2.1
 rw [h] at this
 exact this
theorem run3_k {b : List UInt8} {n v2 v3 k : Nat} (h : run3 b = ((n, v2, v3), k, 0)) : k ≤ b.length := by
 obtain ⟨x1, k1, e1, h1⟩ := readL_split b
 obtain ⟨x2, k2, e2, h2⟩ := readL_split (b.drop k1)
 obtain ⟨x3, k3, e3, h3⟩ := readL_split (b.drop (k1 + k2))
 by_cases c1 : e1 = 0
 ·subst c1
  by_cases c2 : e2 = 0
  ·subst c2
   by_cases c3 : e3 = 0
   ·subst c3
    rw [run3_ok h1 h2 h3] at h
    simp only [Prod.mk.injEq, and_true] at h
    obtain ⟨-, rfl⟩ := h
    have q1 := readL_k h1
    have q2 := readL_k h2
    have q3 := readL_k h3
    simp only [List.length_drop] at q2 q3
    omega
   ·rw [run3_e3 h1 h2 h3 c3] at h; simp only [Prod.mk.injEq] at h; omega
  ·rw [run3_e2 h1 h2 c2] at h; simp only [Prod.mk.injEq] at h; omega
 ·rw [run3_e1 h1 c1] at h; simp only [Prod.mk.injEq] at h; omega
theorem readF_bd (n f : Nat) : ∀ (b : List UInt8) (out : List Cl) (at_ : Nat), (readF n f b out at_).2.1 ≤ at_ + b.length := by
 induction f with
 | zero => intro b out at_; simp [readF]
 | succ f ih =>
  intro b out at_
  rw [readF]
  split
  ·split
   ·simp
   ·split
    ·simp
    ·split
     ·simp
     ·rename_i h0 _ _
      obtain ⟨⟨⟨v1, v2, v3⟩, k, e⟩, hr⟩ : ∃ x, run3 b = x := ⟨_, rfl⟩
      have he : e = 0 := by rw [hr] at h0; simpa using h0
      subst he
      refine Nat.le_trans (ih _ _ _) ?_
      rw [hr]
      simp only [List.length_drop]
      have := run3_k hr
      omega
  ·simp
theorem readCL_bd (b : List UInt8) (n : Int) : (readCL b n).2.1 ≤ b.length := by
 have := readF_bd n.toNat n.toNat b [] 0
 unfold readCL
 omega
theorem cells_any (g n : Nat) (q : Rd) (w : World) (h : RD w g q) (hl : q.1.length ≤ 1048576) (hn : n ≤ 1048576) : Calls Tryz.prog 62 #[.pointer (some ⟨g, 0, none⟩), .int .i64 (n : Int)] w (CelPost g (cellsR n q).1 (cellsR n q).2 w) := by
 obtain ⟨l, fl⟩ := q
 have hgl := h.lt
 have H := Lh h
 obtain ⟨A, c, hg, hq⟩ := h
 simp only at hl hg hq
 obtain ⟨⟨cs, k, er⟩, hr⟩ : ∃ x, readCL l (n : Int) = x := ⟨_, rfl⟩
 have hk : k ≤ l.length := by have := readCL_bd l (n : Int); rw [hr] at this; exact this
 have hcl : l.length ≤ c ∧ c ≤ 9223372036854775807 := by
  obtain ⟨A', c', hv, h1, h2, -⟩ := hq
  simp only [Value.slice.injEq] at hv
  obtain ⟨rfl, -, rfl⟩ := hv
  exact ⟨h1, h2⟩
 obtain ⟨c1, c2⟩ := hcl
 have HRD : Hid (Calls Tryz.prog 92 #[.slice A l.length c, .int .i64 (n : Int)] w fun e w' => ∃ u, e = .returned (.tuple #[u, .int .i64 (k : Int), .int .i64 (er : Int)]) ∧ OC w' w.heap.size u cs ∧ Below w.heap.size w w') := by
  refine (readP_any (.slice A l.length c) l (n : Int) w (hq.more (by omega)) hl (by omega) (by omega)).mono ?_
  rintro e w' ⟨u, he, ho, hb⟩
  rw [hr] at he ho
  exact ⟨u, he, ho, hb⟩
 have her : er = 0 ∨ cellsR n (l, fl) = ([], [], true) := by
  by_cases he : er = 0
  ·exact .inl he
  ·exact .inr (cellsRd_no hr he)
 obtain ⟨d0, i0⟩ := cellR (v := .slice A l.length c) hg 0 rfl
 have HG := Lh hg
 have HQ := Lh hq
 have HR := Lh hr
 clear hg hq hr
 by_cases he : er = 0
 ·subst he
  rw [cellsRd_yes HR.out]
  obtain ⟨A4, hif⟩ : ∃ A4, (if c = k then A else Option.map (fun x => x.add k) A) = A4 := ⟨_, rfl⟩
  have hq2 : BS w g (.slice A4 (l.length - k) (c - k)) (l.drop k) := by
   have h1 := HQ.out.cut k (l.length - k) (l.length - k) (by omega) rfl
   rw [hif, List.take_of_length_le (by simp)] at h1
   exact h1
  have HQ2 := Lh hq2
  clear hq2 her
  go_enter Tryz.func62, Tryz.ntmps62
  go_wp2_with (go_at_call 92; refine HRD.out.mono ?_; rintro e w1 ⟨u, rfl, ho, hb⟩; have hg1 := (hb.block g hgl).trans HG.out; obtain ⟨d1, i1⟩ := cellR (v := .slice A l.length c) hg1 0 rfl; have HG1 := Lh hg1; have HO := Lh ho; have HB := Lh hb; have hs1 := hb.size; clear hg1 ho hb)
  go_ret
  refine ⟨_, rfl, own_fr HO.out hgl ((FrG.refl g w1).setCell (.inl rfl) _), ⟨A4, c - k, ?_, ?_⟩, FrG.alloc HB.out ((FrG.refl g w1).setCell (.inl rfl) _)⟩
  ·rw [List.length_drop]; exact (heap_setCell_same _ _ 0 _ _ _ HG1.out).trans rfl
  ·rw [List.length_drop]; exact (HQ2.out.below (HB.out.mono (by omega))).below ((Below.refl g w1).setCell (by simp) _)
 ·have hne : ((er : Int) != 0) = true := by simp; omega
  rw [her.resolve_left he]
  clear he her
  go_enter Tryz.func62, Tryz.ntmps62
  go_wp2_with first
   | (go_at_call 92; refine HRD.out.mono ?_; rintro e w1 ⟨u, rfl, ho, hb⟩; have HB := Lh hb; clear hb ho)
   | (go_at_call 91; refine (fail_any g (l, fl) _ (H.out.keep HB.out)).mono ?_; rintro e w2 ⟨rfl, r2, f2⟩)
  go_ret
  exact ⟨_, rfl, World.ownsRow_nil _ _ _ _, r2, FrG.alloc HB.out f2⟩
def BytPost (g : Nat) (l : List UInt8) (q : Rd) (w : World) (e : Ending) (w' : World) : Prop := ∃ v, e = .returned v ∧ OB w' w.heap.size v l ∧ RD w' g q ∧ FrG g w w'
theorem bytesRd_yes {k : Nat} {l u : List UInt8} {f : Bool} (h : readB l (l.length : Int) = (u, k, 0)) : bytesR (l, f) = (u, l.drop k, f) := by
 unfold bytesR
 simp only [h]
 rw [if_pos trivial]
theorem bytesRd_no {k e : Nat} {l u : List UInt8} {f : Bool} (h : readB l (l.length : Int) = (u, k, e)) (he : e ≠ 0) : bytesR (l, f) = ([], [], true) := by
 unfold bytesR
 simp only [h]
 rw [if_neg he]
theorem readB_bd (l : List UInt8) (m : Int) : (readB l m).2.1 ≤ l.length := by
 unfold readB
 split
 ·simp
 ·split
  ·simp
  ·split
   ·simp
   ·have := (readL_bd l).2.1
    simp only
    omega
theorem bytes_any (g : Nat) (q : Rd) (w : World) (h : RD w g q) (hl : q.1.length ≤ 1048576) : Calls Tryz.prog 93 #[.pointer (some ⟨g, 0, none⟩)] w (BytPost g (bytesR q).1 (bytesR q).2 w) := by
 obtain ⟨l, fl⟩ := q
 have hgl := h.lt
 have H := Lh h
 obtain ⟨A, c, hg, hq⟩ := h
 simp only at hl hg hq
 obtain ⟨⟨cs, k, er⟩, hr⟩ : ∃ x, readB l (l.length : Int) = x := ⟨_, rfl⟩
 have hk : k ≤ l.length := by have := readB_bd l (l.length : Int); rw [hr] at this; exact this
 have hcl : l.length ≤ c ∧ c ≤ 9223372036854775807 := by
  obtain ⟨A', c', hv, h1, h2, -⟩ := hq
  simp only [Value.slice.injEq] at hv
  obtain ⟨rfl, -, rfl⟩ := hv
  exact ⟨h1, h2⟩
 obtain ⟨c1, c2⟩ := hcl
 have HRD : Hid (Calls Tryz.prog 123 #[.slice A l.length c, .int .i64 (l.length : Int)] w.drew fun e w' => ∃ u, e = .returned (.tuple #[u, .int .i64 (k : Int), .int .i64 (er : Int)]) ∧ OB w' w.heap.size u cs ∧ Below w.heap.size w w') := by
  refine (readbytesO_any (.slice A l.length c) l (l.length : Int) w.drew (show BS w w.heap.size (.slice A l.length c) l from hq.more (by omega)) hl (by omega) (by omega)).mono ?_
  rintro e w' ⟨u, he, ho, hb⟩
  rw [hr] at he ho
  exact ⟨u, he, ho, ⟨hb.os, hb.tape, hb.output, hb.size, hb.block⟩⟩
 have her : er = 0 ∨ bytesR (l, fl) = ([], [], true) := by
  by_cases he : er = 0
  ·exact .inl he
  ·exact .inr (bytesRd_no hr he)
 obtain ⟨d0, i0⟩ := cellR (v := .slice A l.length c) hg 0 rfl
 have HG := Lh hg
 have HQ := Lh hq
 have HR := Lh hr
 clear hg hq hr
 by_cases he : er = 0
 ·subst he
  rw [bytesRd_yes HR.out]
  obtain ⟨A4, hif⟩ : ∃ A4, (if c = k then A else Option.map (fun x => x.add k) A) = A4 := ⟨_, rfl⟩
  have hq2 : BS w g (.slice A4 (l.length - k) (c - k)) (l.drop k) := by
   have h1 := HQ.out.cut k (l.length - k) (l.length - k) (by omega) rfl
   rw [hif, List.take_of_length_le (by simp)] at h1
   exact h1
  have HQ2 := Lh hq2
  clear hq2 her
  go_enter Tryz.func93, Tryz.ntmps93
  go_upto_region 1 with fail
  go_region_with (go_at_call 123; refine HRD.out.mono ?_; rintro e w1 ⟨u, rfl, ho, hb⟩; have hg1 := (hb.block g hgl).trans HG.out; obtain ⟨d1, i1⟩ := cellR (v := .slice A l.length c) hg1 0 rfl; have HO := Lh ho; have HG1 := Lh hg1; have HB := Lh hb; have hs1 := hb.size; clear hg1 ho hb)
  all_goals
   go_wp2
   go_ret
   refine ⟨_, rfl, own_fr HO.out hgl ((FrG.refl g w1).setCell (.inl rfl) _), ⟨A4, c - k, ?_, ?_⟩, FrG.alloc HB.out ((FrG.refl g w1).setCell (.inl rfl) _)⟩
   ·rw [List.length_drop]; exact (heap_setCell_same _ _ 0 _ _ _ HG1.out).trans rfl
   ·rw [List.length_drop]; exact (HQ2.out.below (HB.out.mono (by omega))).below ((Below.refl g w1).setCell (by simp) _)
 ·have hne : ((er : Int) != 0) = true := by simp; omega
  rw [her.resolve_left he]
  clear he her
  go_enter Tryz.func93, Tryz.ntmps93
  go_upto_region 1 with fail
  go_region_with (go_at_call 123; refine HRD.out.mono ?_; rintro e w1 ⟨u, rfl, ho, hb⟩; have HB := Lh hb; clear hb ho)
  all_goals
   go_wp2_with (go_at_call 91; refine (fail_any g (l, fl) _ (H.out.keep HB.out)).mono ?_; rintro e w2 ⟨rfl, r2, f2⟩)
   go_ret
   exact ⟨_, rfl, OB.nil _ _, r2, FrG.alloc HB.out f2⟩
theorem step_appN {ops : Array Oper} {o : Oper} {a : Act} {w : World} {K : Act → World → Prop} {Q : Exit → Act → World → Prop} {E : Prop} (hgd : o.guard = none) (s x : Operand)
  (ho : o.op = .call { callee := .builtin .append, args := #[s, x], argTypes := #[25, 25] })
  (base B : Nat) (v u : Value) (l m : List Int) (hs : a.eval s = v) (hx : a.eval x = u) (hown : OI w base v l) (hr : IS w B u m) (hlen : l.length + m.length ≤ 1099511627776) (hbase : base ≤ w.heap.size)
  (h : ∀ v' w', OI w' base v' (l ++ m) → w.grownBy w' v.ownBlock → Below base w w' → K (a.put o.dst v') w') :
  if Region.wanted o (yielded ops a.tmps) = true then Oper.wp Tryz.prog o a w K Q else E := by
 have hw : Region.wanted o (yielded ops a.tmps) = true := by simp [Region.wanted, hgd]
 rw [if_pos hw]
 obtain ⟨v', w', hrun, h2, h3, h4, h5⟩ := run_appI w o.type hown hr hlen hbase
 unfold Oper.wp execOp
 simp only [ho, resolve, invoke, builtin, Sem.run_bind, Sem.run_pure, Result.andThen_ok, List.map_toArray, List.map_cons, List.map_nil, hs, hx, hrun]
 exact h v' w' h2 h3 h4
theorem own_set {w : World} {base size n : Nat} {e : TypeId} {v : Value} {xs : List Value} (h : w.ownsRow base e size v n xs) {p : Addr} (hp : p.block < base) (u : Value) : (w.setCell p u).ownsRow base e size v n xs :=
 ownsRow_setCell_other h (fun e => by have := (World.ownsRow.lt h _ e).1; omega) u
theorem own_lowS {w : World} {base b2 size n : Nat} {e : TypeId} {v : Value} {xs : List Value} (h : w.ownsRow base e size v n xs) (hb : b2 ≤ base) : w.ownsRow b2 e size v n xs := by
 obtain ⟨a1, a2⟩ := h
 refine ⟨a1, ?_⟩
 rcases a2 with a2 | ⟨g, cap, cur, hv, hg, hr⟩
 ·exact .inl a2
 ·exact .inr ⟨g, cap, cur, hv, Nat.le_trans hb hg, hr⟩
@[reducible] def pO (m pv : Int) (vp vi vu : Value) : Obj := .cells #[.int .i64 m, .int .u8 pv, vp, vi, vu] 28
structure PBox (w : World) (g : Nat) (q : Rd) (m pv : Int) (vp vi vu : Value) (wr : World) : Prop where
 z : wr.heap[w.heap.size]? = some (pO 0 0 (.slice none 0 0) (.slice none 0 0) (.slice none 0 0))
 b : wr.heap[w.heap.size + 1]? = some (pO m pv vp vi vu)
 s : w.heap.size + 2 ≤ wr.heap.size
 r : RD wr g q
 f : FrG g w wr
theorem PBox.fr {w wr w2 : World} {g : Nat} {q q2 : Rd} {m pv : Int} {vp vi vu : Value} (h : PBox w g q m pv vp vi vu wr) (hg : g < w.heap.size) (hr : RD w2 g q2) (hf : FrG g wr w2) : PBox w g q2 m pv vp vi vu w2 := by
 have := h.s
 exact ⟨(hf.block _ (by omega) (by omega)).trans h.z, (hf.block _ (by omega) (by omega)).trans h.b, Nat.le_trans h.s hf.size, hr, h.f.trans hf⟩
theorem PBox.set {w wr : World} {g : Nat} {q : Rd} {m pv m' pv' : Int} {vp vi vu vp' vi' vu' u : Value} (i : Nat) (h : PBox w g q m pv vp vi vu wr) (hg : g < w.heap.size) (hu : (#[Value.int .i64 m, .int .u8 pv, vp, vi, vu] : Array Value).setIfInBounds i u = #[.int .i64 m', .int .u8 pv', vp', vi', vu']) : PBox w g q m' pv' vp' vi' vu' (wr.setCell ⟨w.heap.size + 1, i, none⟩ u) := by
 refine ⟨(Below.heap_setCell _ _ _ _ (by simp)).trans h.z, ?_, by simpa using h.s, h.r.set (by simp; omega) _, Fr.setCell h.f (.inr (by simp)) _⟩
 rw [heap_setCell_same _ _ i _ _ u h.b, hu]
theorem PBox.low {w wr w2 : World} {g : Nat} {q : Rd} {m pv : Int} {vp vi vu : Value} (h : PBox w g q m pv vp vi vu wr) (hg : g < w.heap.size) (hb : Below (w.heap.size + 2) wr w2) : PBox w g q m pv vp vi vu w2 :=
 ⟨(hb.block _ (by omega)).trans h.z, (hb.block _ (by omega)).trans h.b, Nat.le_trans h.s hb.size, h.r.low (by omega) hb, h.f.low (hb.mono (by omega))⟩
theorem pbox0 {w : World} {g : Nat} {q : Rd} (h : RD w g q) : PBox w g q 0 0 (.slice none 0 0) (.slice none 0 0) (.slice none 0 0) ((w.alloc (pO 0 0 (.slice none 0 0) (.slice none 0 0) (.slice none 0 0))).alloc (pO 0 0 (.slice none 0 0) (.slice none 0 0) (.slice none 0 0))) := by
 have hl := h.lt
 have h2 := two_new w (pO 0 0 (.slice none 0 0) (.slice none 0 0) (.slice none 0 0)) (pO 0 0 (.slice none 0 0) (.slice none 0 0) (.slice none 0 0))
 obtain ⟨k0, k1⟩ := two_keptB (w := w) (x := pO 0 0 (.slice none 0 0) (.slice none 0 0) (.slice none 0 0)) (y := pO 0 0 (.slice none 0 0) (.slice none 0 0) (.slice none 0 0)) (Below.refl _ _)
 exact ⟨k0, k1, by rw [h2.2]; omega, h.keep h2.1, Fr.of h2.1 _⟩
theorem PBox.drew {w wr : World} {g : Nat} {q : Rd} {m pv : Int} {vp vi vu : Value} (h : PBox w g q m pv vp vi vu wr) : PBox w g q m pv vp vi vu wr.drew := ⟨h.z, h.b, h.s, h.r, Fr.drew h.f⟩
def ParPost (g : Nat) (p : Pr) (q : Rd) (w : World) (e : Ending) (w' : World) : Prop := ∃ vp vi vu, e = .returned (.agg #[.int .i64 (p.mode : Int), .int .u8 (p.priv : Int), vp, vi, vu]) ∧ OI w' w.heap.size vp p.params ∧ OB w' w.heap.size vi p.inter ∧ OB w' w.heap.size vu p.utf ∧ RD w' g q ∧ FrG g w w'
theorem par_next {n k : Nat} {q qk : Rd} {done : List Int} (hk : k < n) (h : paramsR n q = (done ++ (paramsR (n - k) qk).1, (paramsR (n - k) qk).2)) : paramsR n q = ((done ++ [((numR 65535 qk).1 : Int)]) ++ (paramsR (n - (k + 1)) (numR 65535 qk).2).1, (paramsR (n - (k + 1)) (numR 65535 qk).2).2) := by
 rw [h, show n - k = (n - (k + 1)) + 1 by omega]
 simp [paramsR]
def ParRel (n g : Nat) (q : Rd) (m pv : Int) (w : World) (iv : Value) (wr : World) : Prop :=
 ∃ (done : List Int) (qk : Rd) (vp : Value), done.length ≤ n ∧ iv = .int .i64 (done.length : Int) ∧ OI wr (w.heap.size + 2) vp done ∧ PBox w g qk m pv vp (.slice none 0 0) (.slice none 0 0) wr ∧ qk.1.length ≤ q.1.length ∧ paramsR n q = (done ++ (paramsR (n - done.length) qk).1, (paramsR (n - done.length) qk).2)
theorem bytesR_rest (q : Rd) : (bytesR q).2.1.length ≤ q.1.length := by
 unfold bytesR
 split <;> simp
theorem paramsR_rest (n : Nat) : ∀ q : Rd, (paramsR n q).2.1.length ≤ q.1.length := by
 induction n with
 | zero => intro q; simp [paramsR]
 | succ n ih => intro q; exact Nat.le_trans (ih _) (numR_rest _ _)
theorem parser_any (g : Nat) (q : Rd) (w : World) (h : RD w g q) (hl : q.1.length ≤ 1048576) : Calls Tryz.prog 63 #[.pointer (some ⟨g, 0, none⟩)] w (ParPost g (parserR q).1 (parserR q).2 w) := by
 have hg := h.lt
 have H := Lh h
 have N : Hid (∀ (W : World) (Q : Rd) (most : Nat), RD W g Q → Q.1.length ≤ 1048576 → most ≤ 9223372036854775807 → Calls Tryz.prog 60 #[.pointer (some ⟨g, 0, none⟩), .int .u64 (most : Int)] W (NumPost g ((numR most Q).1 : Int) (numR most Q).2 W)) := fun W Q most h h1 h2 => number_any g most Q W h h1 h2
 obtain ⟨a, ha⟩ : ∃ x, numR 7 q = x := ⟨_, rfl⟩
 obtain ⟨b, hb⟩ : ∃ x, numR 255 a.2 = x := ⟨_, rfl⟩
 obtain ⟨k, hk⟩ : ∃ x, numR 16 b.2 = x := ⟨_, rfl⟩
 obtain ⟨ps, hps⟩ : ∃ x, paramsR k.1 k.2 = x := ⟨_, rfl⟩
 obtain ⟨is, his⟩ : ∃ x, bytesR ps.2 = x := ⟨_, rfl⟩
 obtain ⟨us, hus⟩ : ∃ x, bytesR is.2 = x := ⟨_, rfl⟩
 have hp : parserR q = (⟨a.1, b.1, ps.1, is.1, us.1⟩, us.2) := by
  unfold parserR
  simp only [ha, hb, hk, hps, his, hus]
 rw [hp]
 have la : a.2.1.length ≤ 1048576 := by have := numR_rest 7 q; rw [ha] at this; omega
 have lb : b.2.1.length ≤ 1048576 := by have := numR_rest 255 a.2; rw [hb] at this; omega
 have lk : k.2.1.length ≤ 1048576 := by have := numR_rest 16 b.2; rw [hk] at this; omega
 have lp : ps.2.1.length ≤ 1048576 := by have := paramsR_rest k.1 k.2; rw [hps] at this; omega
 have li : is.2.1.length ≤ 1048576 := by have := bytesR_rest ps.2; rw [his] at this; omega
 have a7 : a.1 ≤ 7 := by have := numR_le 7 q; rw [ha] at this; exact this
 have b255 : b.1 ≤ 255 := by have := numR_le 255 a.2; rw [hb] at this; exact this
 have k16 : k.1 ≤ 16 := by have := numR_le 16 b.2; rw [hk] at this; exact this
 have N7 : Hid (∀ W, RD W g q → Calls Tryz.prog 60 #[.pointer (some ⟨g, 0, none⟩), .int .u64 7] W (NumPost g (a.1 : Int) a.2 W)) := fun W h => by have := number_any g 7 q W h hl (by omega); rw [ha] at this; exact this
 have N255 : Hid (∀ W, RD W g a.2 → Calls Tryz.prog 60 #[.pointer (some ⟨g, 0, none⟩), .int .u64 255] W (NumPost g (b.1 : Int) b.2 W)) := fun W h => by have := number_any g 255 a.2 W h la (by omega); rw [hb] at this; exact this
 have N16 : Hid (∀ W, RD W g b.2 → Calls Tryz.prog 60 #[.pointer (some ⟨g, 0, none⟩), .int .u64 16] W (NumPost g (k.1 : Int) k.2 W)) := fun W h => by have := number_any g 16 b.2 W h lb (by omega); rw [hk] at this; exact this
 have NI : Hid (∀ W, RD W g ps.2 → Calls Tryz.prog 93 #[.pointer (some ⟨g, 0, none⟩)] W (BytPost g is.1 is.2 W)) := fun W h => by have := bytes_any g ps.2 W h lp; rw [his] at this; exact this
 have NU : Hid (∀ W, RD W g is.2 → Calls Tryz.prog 93 #[.pointer (some ⟨g, 0, none⟩)] W (BytPost g us.1 us.2 W)) := fun W h => by have := bytes_any g is.2 W h li; rw [hus] at this; exact this
 have HPS := Lh hps
 have B0 := Lh (pbox0 h)
 clear hps his hus ha hb hk hp h H N la lb lp li hl
 go_enter Tryz.func63, Tryz.ntmps63
 go_wp2_with fail
 refine (N7.out _ B0.out.r).mono ?_
 rintro e w1 ⟨rfl, r1, f1⟩
 have B1 := Lh (B0.out.fr hg r1 f1)
 obtain ⟨d0, i0⟩ := cellR (v := .int .i64 0) B1.out.b 0 rfl
 clear r1 f1 B0
 go_wp2_with fail
 have B2 := Lh (B1.out.set (m' := a.1) (pv' := 0) (vp' := .slice none 0 0) (vi' := .slice none 0 0) (vu' := .slice none 0 0) 0 hg rfl)
 clear d0 i0 B1
 generalize World.setCell _ _ _ = W1 at B2 ⊢
 refine (N255.out _ B2.out.r).mono ?_
 rintro e w2 ⟨rfl, r1, f1⟩
 have B3 := Lh (B2.out.fr hg r1 f1)
 obtain ⟨d0, i0⟩ := cellR (v := .int .u8 0) B3.out.b 1 rfl
 have hcv : IntKind.u8.wrap (b.1 : Int) = (b.1 : Int) := by
  have : IntKind.u8.wrap (b.1 : Int) = ((b.1 : Int) % 256) := rfl
  omega
 clear r1 f1 B2
 go_wp2_with fail
 have B4 := Lh (B3.out.set (m' := a.1) (pv' := b.1) (vp' := .slice none 0 0) (vi' := .slice none 0 0) (vu' := .slice none 0 0) 1 hg rfl)
 clear d0 i0 B3
 generalize World.setCell _ _ _ = W2 at B4 ⊢
 refine (N16.out _ B4.out.r).mono ?_
 rintro e w3 ⟨rfl, r1, f1⟩
 have B5 := Lh (B4.out.fr hg r1 f1)
 clear r1 f1 B4
 go_wp2
 go_loopw [13] (fun iv wr => ParRel k.1 g k.2 a.1 b.1 w iv wr) (fun iv _ => k.1 - (intOf iv).toNat)
 case atStart => exact ⟨[], k.2, _, Nat.zero_le _, rfl, OI.nil _ _, B5.out, Nat.le_refl _, by simp⟩
 case round =>
  obtain ⟨done, qk, vp, hd, rfl, ho, hB, hq, ht⟩ := hrel
  obtain ⟨Ap, cp, rfl, p1, p2⟩ := ho.sl.form
  have HT := Lh ht
  have HO := Lh ho
  have BB := Lh hB
  have hq2 := numR_rest 65535 qk
  by_cases hlt : done.length < k.1
  ·have HT2 := Lh (par_next hlt HT.out)
   have HN : Hid (Calls Tryz.prog 60 #[.pointer (some ⟨g, 0, none⟩), .int .u64 65535] wr.drew (NumPost g ((numR 65535 qk).1 : Int) (numR 65535 qk).2 wr.drew)) := number_any g 65535 qk wr.drew hB.r (by omega) (by omega)
   obtain ⟨d2, i2⟩ := cellR (v := .slice Ap done.length cp) hB.b 2 rfl
   generalize (numR 65535 qk).1 = x at *
   generalize (numR 65535 qk).2 = q2 at *
   have HL1 := Lh (show (done ++ [(x : Int)]).length = done.length + 1 by simp)
   clear ho hB ht
   go_upto_region 6 with fail
   go_region_law (first
    | (go_simp; go_at_call 60; refine HN.out.mono ?_; rintro e w4 ⟨rfl, r4, f4⟩; have B6 := Lh (BB.out.drew.fr hg r4 f4); have HO6 := Lh (own_fr (w := wr.drew) HO.out (by omega) f4); have s6 := B6.out.s; obtain ⟨d6, i6⟩ := cellR (v := .slice Ap done.length cp) B6.out.b 2 rfl; have d8 := (World.cell?_alloc_lt w4 (.cells #[.int .i64 (x : Int)] 3) ⟨w.heap.size + 1, 2, none⟩ (by simp; omega)).trans d6; clear r4 f4)
    | (refine step_appN rfl (.tmp 16) (.tmp 19) rfl (w.heap.size + 2) _ _ _ done [(x : Int)] ?_ ?_ (OI.alloc HO6.out _) (IS.one _ (x : Int) _) (by simp; omega) (by simp; omega) ?_; go_simp; go_simp; intro v3 w5 ho3 hg3 hb3; have B7 := Lh ((B6.out.low hg (Below.alloc (Below.refl _ _) (by omega) _)).low hg hb3); obtain ⟨d7, i7⟩ := cellR (v := .slice Ap done.length cp) B7.out.b 2 rfl; obtain ⟨A9, c9, hv9, p9, q9⟩ := ho3.sl.form; rw [HL1.out] at hv9 p9; subst hv9; have HO7 := Lh ho3; clear ho3 hg3 hb3))
   all_goals
    have B8 := B7.out.set (m' := a.1) (pv' := b.1) (vp' := .slice A9 (done.length + 1) c9) (vi' := .slice none 0 0) (vu' := .slice none 0 0) 2 hg rfl
    have HO8 := own_set HO7.out (p := ⟨w.heap.size + 1, 2, none⟩) (by simp) (.slice A9 (done.length + 1) c9)
    go_wp2
    refine ⟨⟨done ++ [(x : Int)], q2, _, by simp; omega, by simp, HO8, B8, by omega, by rw [HT2.out]; simp⟩, ?_⟩
    simp [intOf]
    omega
  ·have hdk : done.length = k.1 := by omega
   rw [hdk, Nat.sub_self] at ht
   simp only [paramsR, List.append_nil, HPS.out] at ht
   subst ht
   clear hB ho
   go_wp2_with fail
   refine (NI.out _ BB.out.r).mono ?_
   rintro e w4 ⟨v4, rfl, s4, r4, f4⟩
   obtain ⟨Ai, ci, rfl, -, -⟩ := s4.sl.form
   have C1 := Lh (BB.out.fr hg r4 f4)
   have SP1 := Lh (own_fr HO.out (by omega) f4)
   have SI1 := Lh (own_lowS s4 BB.out.s)
   obtain ⟨d0, i0⟩ := cellR (v := .slice none 0 0) C1.out.b 3 rfl
   clear s4 r4 f4
   go_wp2_with fail
   have C2 := Lh (C1.out.set (m' := a.1) (pv' := b.1) (vp' := .slice Ap done.length cp) (vi' := .slice Ai is.1.length ci) (vu' := .slice none 0 0) 3 hg rfl)
   have SP2 := Lh (own_set SP1.out (p := ⟨w.heap.size + 1, 3, none⟩) (by simp) (.slice Ai is.1.length ci))
   have SI2 := Lh (own_set SI1.out (p := ⟨w.heap.size + 1, 3, none⟩) (by simp) (.slice Ai is.1.length ci))
   clear C1 SP1 SI1 d0 i0
   generalize World.setCell _ _ _ = W4 at C2 SP2 SI2 ⊢
   refine (NU.out _ C2.out.r).mono ?_
   rintro e w5 ⟨v5, rfl, s5, r5, f5⟩
   obtain ⟨Au, cu, rfl, -, -⟩ := s5.sl.form
   have C3 := Lh (C2.out.fr hg r5 f5)
   have SP3 := Lh (own_fr SP2.out (by omega) f5)
   have SI3 := Lh (own_fr SI2.out (by omega) f5)
   have SU3 := Lh (own_lowS s5 C2.out.s)
   obtain ⟨d0, i0⟩ := cellR (v := .slice none 0 0) C3.out.b 4 rfl
   clear s5 r5 f5 C2 SP2 SI2
   go_upto_region 10 with fail
   have C4 := Lh (C3.out.set (m' := a.1) (pv' := b.1) (vp' := .slice Ap done.length cp) (vi' := .slice Ai is.1.length ci) (vu' := .slice Au us.1.length cu) 4 hg rfl)
   have SP4 := Lh (own_set SP3.out (p := ⟨w.heap.size + 1, 4, none⟩) (by simp) (.slice Au us.1.length cu))
   have SI4 := Lh (own_set SI3.out (p := ⟨w.heap.size + 1, 4, none⟩) (by simp) (.slice Au us.1.length cu))
   have SU4 := Lh (own_set SU3.out (p := ⟨w.heap.size + 1, 4, none⟩) (by simp) (.slice Au us.1.length cu))
   clear C3 SP3 SI3 SU3 d0 i0
   generalize World.setCell _ _ _ = W5 at C4 SP4 SI4 SU4 ⊢
   obtain ⟨x0, j0⟩ := cellR (v := .int .i64 a.1) C4.out.b 0 rfl
   obtain ⟨x1, j1⟩ := cellR (v := .int .u8 b.1) C4.out.b 1 rfl
   obtain ⟨x2, j2⟩ := cellR (v := .slice Ap done.length cp) C4.out.b 2 rfl
   obtain ⟨x3, j3⟩ := cellR (v := .slice Ai is.1.length ci) C4.out.b 3 rfl
   obtain ⟨x4, j4⟩ := cellR (v := .slice Au us.1.length cu) C4.out.b 4 rfl
   obtain ⟨y0, l0⟩ := cellR (v := .int .i64 0) C4.out.z 0 rfl
   obtain ⟨y1, l1⟩ := cellR (v := .int .u8 0) C4.out.z 1 rfl
   obtain ⟨y2, l2⟩ := cellR (v := .slice none 0 0) C4.out.z 2 rfl
   obtain ⟨y3, l3⟩ := cellR (v := .slice none 0 0) C4.out.z 3 rfl
   obtain ⟨y4, l4⟩ := cellR (v := .slice none 0 0) C4.out.z 4 rfl
   go_wp2
   refine bodyPost_ret (v := .agg #[.int .i64 (a.1 : Int), .int .u8 (b.1 : Int), .slice Ap k.1 cp, .slice Ai is.1.length ci, .slice Au us.1.length cu]) (by simp [results, Tryz.results63, go_sem, y0, y1, y2, y3, y4]) rfl ?_
   have ob {size n : Nat} {e : TypeId} {v : Value} {xs : List Value} (h : W5.ownsRow (w.heap.size + 2) e size v n xs) := own_lowS (b2 := w.heap.size) (own_set (p := ⟨w.heap.size, 4, none⟩) (own_set (p := ⟨w.heap.size, 3, none⟩) (own_set (p := ⟨w.heap.size, 2, none⟩) (own_set (p := ⟨w.heap.size, 1, none⟩) (own_set (p := ⟨w.heap.size, 0, none⟩) h (by simp) (.int .i64 a.1)) (by simp) (.int .u8 b.1)) (by simp) (.slice Ap k.1 cp)) (by simp) (.slice Ai is.1.length ci)) (by simp) (.slice Au us.1.length cu)) (by omega)
   rw [← hdk]
   rw [← hdk] at ob
   exact ⟨_, _, _, rfl, ob SP4.out, ob SI4.out, ob SU4.out, ((((C4.out.r.set (by simp; omega) _).set (by simp; omega) _).set (by simp; omega) _).set (by simp; omega) _).set (by simp; omega) _, ((((C4.out.f.setCell (.inr (by simp)) _).setCell (.inr (by simp)) _).setCell (.inr (by simp)) _).setCell (.inr (by simp)) _).setCell (.inr (by simp)) _⟩
end Go.Proofs.YthepofkdgbcifaaGreat
