/- What is proved here: parts of the proofs of the laws of layer 10. -/
import Derived.Test.YthncoigjfhmldaaGreatRows
import Derived.Test.YthncoigjfhmldaaGreatS1
import Derived.Laws.OwnMore
import Derived.Laws.MakeOwn
import Derived.Deep.OwnRows
import Derived.WalkKit
import Derived.WalkSpells
import Derived.WalkLawsBesides
import Derived.Below
import Derived.Lib.Hide
import Derived.Maps.AppendAt
import Derived.Deep.AppendLies
import Derived.Deep.Draws
import Derived.OwnWalk
import Derived.Laws.BytesArg
import Derived.OpenShut
import Derived.Lib.SlBytesConst
import Derived.Test.YthncoigjfhmldaaGreatS2
import Derived.Deep.DeepCutAuto
import Derived.Deep.CutRange
import Derived.Test.YthncoigjfhmldaaGreatS7
import Derived.Test.YthncoigjfhmldaaGreatS3
import Derived.Deep.WholeRow
import Derived.Laws.ResultCell
namespace Go.Proofs.YthncoigjfhmldaaGreat
open Go.RowKit
set_option linter.unusedVariables false
set_option linter.unusedSimpArgs false
set_option maxHeartbeats 2000000
set_option maxRecDepth 100000
def vT (b : Bool) : Value := .bool b
def vTs (l : List Bool) : List Value := l.map vT
def OT (w : World) (base : Nat) (v : Value) (l : List Bool) : Prop := w.ownsRow base 4 1 v l.length (vTs l)
def TS (w : World) (B : Nat) (v : Value) (l : List Bool) : Prop :=
 ∃ A c, v = .slice A l.length c ∧ l.length ≤ c ∧ c ≤ maxLen ∧
  (0 < l.length → ∃ ad, A = some ad ∧ ad.block < B ∧ ∀ j b, l[j]? = some b → w.cell? (ad.add j) = some (vT b))
theorem vTs_one (l : List Bool) : ∀ u ∈ vTs l, u.oneCell' = true := by
 intro u hu
 unfold vTs at hu
 rw [List.mem_map] at hu
 obtain ⟨b, _, rfl⟩ := hu
 rfl
section
variable {w w' : World} {B B' base : Nat} {v : Value} {l : List Bool}
theorem TS.keep (h : TS w B v l) (hk : ∀ p : Addr, p.block < B → w'.cell? p = w.cell? p) : TS w' B v l := by
 obtain ⟨A, c, hv, h1, h2, h3⟩ := h
 refine ⟨A, c, hv, h1, h2, fun hl => ?_⟩
 obtain ⟨ad, hA, hb, hc⟩ := h3 hl
 exact ⟨ad, hA, hb, fun j b hj => (hk _ (by rw [block_add]; exact hb)).trans (hc j b hj)⟩
theorem TS.below (h : TS w B v l) (hb : Below B w w') : TS w' B v l := h.keep fun _ hp => hb.cell hp
theorem TS.more (h : TS w B v l) (hB : B ≤ B') : TS w B' v l := by
 obtain ⟨A, c, hv, h1, h2, h3⟩ := h
 refine ⟨A, c, hv, h1, h2, fun hl => ?_⟩
 obtain ⟨ad, hA, hb, hc⟩ := h3 hl
 exact ⟨ad, hA, by omega, hc⟩
theorem TS.alloc (h : TS w B v l) (hB : B ≤ w.heap.size) (o : Obj) : TS (w.alloc o) B v l := h.keep fun p hp => World.cell?_alloc_lt w o p (by omega)
theorem TS.nil (w : World) (B : Nat) : TS w B (.slice none 0 0) [] := ⟨none, 0, rfl, by simp, by simp [maxLen], fun h => absurd h (by simp)⟩
theorem TS.at_ (h : TS w B v l) : ∃ A c, v = .slice A l.length c ∧ l.length ≤ c ∧ c ≤ maxLen ∧
  ∀ k (hk : k < l.length), ∃ ad, A = some ad ∧ w.cell? (ad.add k) = some (vT (l[k]'hk)) := by
 obtain ⟨A, c, hv, h1, h2, h3⟩ := h
 refine ⟨A, c, hv, h1, h2, fun k hk => ?_⟩
 obtain ⟨ad, hA, _, hc⟩ := h3 (by omega)
 exact ⟨ad, hA, hc k _ (List.getElem?_eq_getElem hk)⟩
theorem OT.nil (w : World) (base : Nat) : OT w base (.slice none 0 0) [] := World.ownsRow_nil w base _ _
theorem OT.below (h : OT w base v l) (hb : Below w.heap.size w w') : OT w' base v l := by
 have hg : w.grownBy w' none := ⟨hb.os, hb.tape, hb.output, hb.size, fun i hi _ => hb.block i hi⟩
 unfold OT at h ⊢
 refine h.kept hg ?_
 cases hv : v.ownBlock with
 | none => exact Or.inl rfl
 | some k => exact Or.inr (by simp)
theorem OT.bs (h : OT w base v l) : TS w w.heap.size v l := by
 unfold OT at h
 rcases h.2 with ⟨rfl, hn⟩ | ⟨g, cap, cur, rfl, hbg, hg, hnc, hcm, hcs, htake⟩
 ·have : l = [] := List.eq_nil_of_length_eq_zero hn
  subst this
  exact TS.nil w _
 ·have hlt : g < w.heap.size := by
   rcases Nat.lt_or_ge g w.heap.size with hh | hh
   ·exact hh
   ·rw [Array.getElem?_eq_none hh] at hg; cases hg
  refine ⟨_, cap, rfl, hnc, hcm, fun _ => ⟨_, rfl, hlt, fun j b hj => ?_⟩⟩
  refine h.cells (g := g) rfl j (vT b) ?_
  unfold vTs
  rw [List.getElem?_map, hj]; rfl
end
theorem TS.cut {w : World} {B : Nat} {A : Option Addr} {n c : Nat} {l : List Bool} (h : TS w B (.slice A n c) l) (k m j : Nat) (hk : k + m ≤ l.length) (hj : j = m) :
  TS w B (.slice (if c = k then A else Option.map (fun x => x.add k) A) j (c - k)) ((l.drop k).take m) := by
 subst hj
 obtain ⟨A', c', hv, h1, h2, h3⟩ := h
 simp only [Value.slice.injEq] at hv
 obtain ⟨rfl, rfl, rfl⟩ := hv
 have hlen : ((l.drop k).take j).length = j := by simp; omega
 refine ⟨_, c - k, by rw [hlen], by rw [hlen]; omega, by omega, fun hl => ?_⟩
 rw [hlen] at hl
 obtain ⟨ad, rfl, hb, hc⟩ := h3 (by omega)
 rw [if_neg (by omega)]
 refine ⟨ad.add k, rfl, by rw [block_add]; exact hb, fun i b hi => ?_⟩
 rw [add_add]
 refine hc _ b ?_
 rw [List.getElem?_take] at hi
 split at hi
 ·rw [List.getElem?_drop] at hi; exact hi
 ·cases hi
theorem TS.cutH {w : World} {B : Nat} {A : Option Addr} {n c : Nat} {l : List Bool} (h : TS w B (.slice A n c) l) (m j : Nat) (hk : m ≤ l.length) (hj : j = m) :
  TS w B (.slice A j c) (l.take m) := by
 obtain ⟨A', c', hv, h1, h2, h3⟩ := h
 simp only [Value.slice.injEq] at hv
 obtain ⟨rfl, rfl, rfl⟩ := hv
 subst hj
 have hlen : (l.take j).length = j := by simp; omega
 refine ⟨A, c, by rw [hlen], by omega, h2, fun hl => ?_⟩
 rw [hlen] at hl
 obtain ⟨ad, rfl, hb, hc⟩ := h3 (by omega)
 refine ⟨ad, rfl, hb, fun i b hi => ?_⟩
 refine hc _ b ?_
 rw [List.getElem?_take] at hi
 split at hi
 ·exact hi
 ·cases hi
theorem TS.one (w : World) (b : Bool) (t : TypeId) : TS (w.alloc (.cells #[vT b] t)) (w.heap.size + 1) (.slice (some ⟨w.heap.size, 0, none⟩) 1 1) [b] := by
 refine ⟨_, 1, rfl, by simp, by simp [maxLen], fun _ => ⟨_, rfl, by simp, fun j c hj => ?_⟩⟩
 match j, hj with
 | 0, hj =>
  simp at hj
  subst hj
  simp [Addr.add]
theorem OT.alloc {w : World} {base : Nat} {v : Value} {l : List Bool} (h : OT w base v l) (o : Obj) : OT (w.alloc o) base v l := World.ownsRow.alloc h o
theorem TS.lit (w : World) (l : List Bool) (n : Nat) (cs : Array Value) (t : TypeId) (hn : n = l.length) (hcs : cs = (vTs l).toArray) (hm : l.length ≤ 1048576) :
  TS (w.alloc (.cells cs t)) (w.heap.size + 1) (.slice (some ⟨w.heap.size, 0, none⟩) n n) l := by
 subst hn
 subst hcs
 refine ⟨_, _, rfl, by simp, by simp [maxLen]; omega, fun _ => ⟨_, rfl, by simp, fun j b hj => ?_⟩⟩
 have h := World.news_of_block (heap_alloc_new w (.cells (vTs l).toArray t)) j (vT b)
 exact h (by simp [vTs, hj])
theorem boolInfo : (Tryz.prog.info? 4).map (fun i => (i.zero, i.size, i.bytes)) = some (some (.bool false), 1, 1) := by kernel_rfl
theorem run_appT (w : World) (ty : TypeId) {base B : Nat} {v u : Value} {l m : List Bool} (hown : OT w base v l) (hr : TS w B u m) (hlen : l.length + m.length ≤ 1099511627776) (hbase : base ≤ w.heap.size) :
  ∃ v' w', (Builtin.append_ #[24, 24] ty #[v, u]).run Tryz.prog w = .ok v' w' ∧ OT w' base v' (l ++ m) ∧ w.grownBy w' v.ownBlock ∧ Below base w w' ∧ (v'.ownBlock = v.ownBlock ∨ v'.ownBlock = some w.heap.size) := by
 obtain ⟨i0, hi0, hz0, hz1, hz2⟩ := info_parts boolInfo
 have hlt := World.ownsRow.lt hown
 have hfin : ∀ v' w', w'.ownsRow base 4 1 v' (l.length + m.length) (vTs l ++ vTs m) → OT w' base v' (l ++ m) := by
  intro v' w' h
  unfold OT vTs
  rw [List.length_append, List.map_append]
  exact h
 obtain ⟨A, c, rfl, h1, h2, h3⟩ := hr
 rcases Nat.eq_zero_or_pos m.length with h0 | h0
 ·have hm : m = [] := List.eq_nil_of_length_eq_zero h0
  subst hm
  refine ⟨v, w, ?_, by simpa using hown, World.grownBy.refl w _, Below.refl _ _, .inl rfl⟩
  rcases hown.2 with ⟨rfl, hn⟩ | ⟨g, cap, cur, rfl, _, _, hnc, _⟩
  ·cases A <;> simp [Builtin.append_, run_underlying Tryz.underlying24, sizeOf, typeInfo, hi0, Builtin.lenOf, Builtin.firstCells, loadCells, loadCellsFrom]
  ·cases A <;> simp [Builtin.append_, run_underlying Tryz.underlying24, sizeOf, typeInfo, hi0, Builtin.lenOf, Builtin.firstCells, hnc, storeCells, loadCells, loadCellsFrom]
 ·obtain ⟨ad, rfl, hb, hc⟩ := h3 h0
  obtain ⟨v', w', hrun, h4, h5, _, h6⟩ := run_append_own_at (P := Tryz.prog) w base 24 ty 4 i0 _ 1 1 Tryz.underlying24 hi0 hz0 hz1 hz2 rfl (by omega) v l.length (vTs l) hown ad m.length c (vTs m) (by simp [vTs])
   (fun j u hj => by
    unfold vTs at hj
    rw [List.getElem?_map] at hj
    cases hmj : m[j]? with
    | none => rw [hmj] at hj; cases hj
    | some b =>
     rw [hmj] at hj
     simp only [Option.map_some, Option.some.injEq] at hj
     subst hj
     exact hc j b hmj)
   (vTs_one m) (by simp only [maxLen]; omega) (by omega) hbase
  exact ⟨v', w', hrun, hfin v' w' h4, h5, (Below.refl _ _).grown h5 hbase (fun k hk => (hlt k hk).1), h6⟩
theorem wpl_appT (w : World) {ops : Array Oper} {rest : List Oper} {o : Oper} {a : Act} {Q : Exit → Act → World → Prop} (hgd : o.guard = none) (s x : Operand)
  (ho : o.op = .call { callee := .builtin .append, args := #[s, x], argTypes := #[24, 24] })
  (base B : Nat) (v u : Value) (l m : List Bool) (hs : a.eval s = v) (hx : a.eval x = u) (hown : OT w base v l) (hr : TS w B u m) (hlen : l.length + m.length ≤ 1099511627776) (hbase : base ≤ w.heap.size)
  (h : ∀ v' w', OT w' base v' (l ++ m) → w.grownBy w' v.ownBlock → Below base w w' → (v'.ownBlock = v.ownBlock ∨ v'.ownBlock = some w.heap.size) → wpList Tryz.prog ops Q rest (a.put o.dst v') w') :
  wpList Tryz.prog ops Q (o :: rest) a w := by
 refine wpList_plain hgd fun K hK => ?_
 obtain ⟨v', w', hrun, h2, h3, h4, h5⟩ := run_appT w o.type hown hr hlen hbase
 unfold Oper.wp execOp
 simp only [ho, resolve, invoke, builtin, Sem.run_bind, Sem.run_pure, Result.andThen_ok, List.map_toArray, List.map_cons, List.map_nil, hs, hx, hrun]
 exact hK _ _ (h v' w' h2 h3 h4 h5)
section
variable {w : World} {base g n cap : Nat} {l : List Bool}
theorem OT.len (h : OT w base (.slice (some ⟨g, 0, none⟩) n cap) l) : n = l.length := by
 unfold OT at h
 rcases h.2 with ⟨hv, _⟩ | ⟨g', cap', cur, hv, _⟩
 ·cases hv
 ·simp only [Value.slice.injEq] at hv
  exact hv.2.1
theorem OT.spot (h : OT w base (.slice (some ⟨g, 0, none⟩) n cap) l) (k : Nat) (hk : k < n) : ∃ x, w.cell? ⟨g, k, none⟩ = some x ∧ w.frozen? ⟨g, k, none⟩ = false := by
 obtain rfl := h.len
 unfold OT at h
 refine ⟨vT l[k], ?_, World.ownsRow.frozenAt h k⟩
 rw [World.ownsRow.cellAt h k (by omega)]
 simp [vTs, hk]
theorem OT.put (h : OT w base (.slice (some ⟨g, 0, none⟩) n cap) l) (k : Nat) (x : Bool) : OT (w.setCell ⟨g, k, none⟩ (.bool x)) base (.slice (some ⟨g, 0, none⟩) n cap) (l.set k x) := by
 obtain rfl := h.len
 have := (World.ownsRow.stored h k (vT x)).1
 unfold OT
 rw [List.length_set]
 have e : vTs (l.set k x) = (vTs l).set k (vT x) := by simp [vTs, List.map_set]
 rw [e]
 exact this
theorem OT.block (h : OT w base (.slice (some ⟨g, 0, none⟩) n cap) l) : base ≤ g ∧ g < w.heap.size := World.ownsRow.lt h g rfl
end
theorem OT.open_ {w : World} {base : Nat} {v : Value} {l : List Bool} (h : OT w base v l) (hl : 0 < l.length) : ∃ g cap, v = .slice (some ⟨g, 0, none⟩) l.length cap ∧ base ≤ g ∧ g < w.heap.size ∧ l.length ≤ cap ∧ cap ≤ 9223372036854775807 := by
 have hh := h
 unfold OT at h
 rcases h.2 with ⟨rfl, hn⟩ | ⟨g, cap, cur, rfl, hbg, hg, hnc, hcm, hcs, htake⟩
 ·omega
 ·unfold maxLen at hcm
  exact ⟨g, cap, rfl, hbg, (World.ownsRow.lt hh g rfl).2, hnc, by omega⟩
theorem madeT (n : Nat) : madeCells #[.bool false] n = (vTs (List.replicate n false)).toArray := by
 apply Array.ext_getElem?
 intro i
 simp only [madeCells, vTs, List.map_replicate, List.getElem?_toArray, Array.getElem?_map]
 by_cases h : i < n
 ·simp [h, vT, Nat.mod_one]
 ·simp [h]
theorem OT.made (w : World) (n : Nat) (hm : n ≤ 1048576) : OT (w.alloc (.cells (madeCells #[.bool false] n) 4)) w.heap.size (.slice (some ⟨w.heap.size, 0, none⟩) n n) (List.replicate n false) := by
 have := World.ownsRow_lit (base := w.heap.size) (e := 4) (size := 1) w (madeCells #[.bool false] n) n (Nat.le_refl _) (by simp [maxLen]; omega) (by rw [size_madeCells]; omega)
 unfold OT
 rw [List.length_replicate]
 rw [madeT] at this ⊢
 exact this
theorem run_makeT (n : Nat) (hn : n ≤ 1048576) (w : World) :
  (Instr.makeSlice 24 (.int .i64 (n : Int)) (.int .i64 (n : Int))).run Tryz.prog w = .ok (.slice (some ⟨w.heap.size, 0, none⟩) n n) (w.alloc (.cells (madeCells #[.bool false] n) 4)) :=
 run_make_row' 24 4 (.bool false) 1 Tryz.underlying24 boolInfo rfl .i64 .i64 n (by omega) (by omega) w
theorem Down_yes (v : Value) (l : List Cl) (r c top bottom : Nat) (n : Int) (w : World) (h : CS w w.heap.size v l) (hg : GOk l.length r c) (htb : top ≤ bottom) (hbr : bottom < r) :
  Calls Tryz.prog 100 #[v, .int .i64 (c : Int), .int .i64 (top : Int), .int .i64 (bottom : Int), .int .i64 n] w (CellsPost (fillL l (downF l c top (capN n)) (top * c) ((bottom + 1) * c)) w) := by
 obtain ⟨A, k, rfl, h1, h2⟩ := h.form
 have H := Lib.hid h
 have HG := Lib.hid hg
 have c1 := hg.c1
 have c2 := hg.c2
 have r2 := hg.r2
 have hn := hg.n
 have hrc := rc_le hg.r2 hg.c2
 have hlen : l.length ≤ 1000000 := by omega
 have HN := Lib.hid hn
 clear h hg hn
 have d1 : decide ((top : Int) < 0) = false := by simp
 have d2 : decide (r ≤ bottom) = false := by simpa using hbr
 have d3 : decide (bottom < top) = false := by simpa using htb
 go_enter Tryz.func100, Tryz.ntmps100
 go_upto_region 6 with (first | ((with_reducible refine (own_any _ l _ H.out (by omega)).mono ?_); rintro e w1 ⟨v1, rfl, o1, b1⟩; have z1 := b1.size; have HC := Lib.hid ((H.out.below b1).more z1); have HO := Lib.hid o1; have HB := Lib.hid b1; clear o1 b1) | ((with_reducible refine (grid_yes _ l r c _ HC.out HG.out).mono ?_); rintro e w' ⟨rfl, rfl⟩))
 rw [cap_if]
 have hm := capN_le n
 generalize capN n = m at *
 generalize (if n < 0 then 0 else n) = q
 have hpos : 0 < l.length := by rw [HN.out]; exact Nat.mul_pos (by omega) (by omega)
 obtain ⟨g, cap, rfl, hg1, hg2, hg3, hg4⟩ := HO.out.open_ hpos
 go_wp2
 go_loopw [14] (fun i wr => RowsRel l (downF l c top m) c top bottom w w.heap.size g cap i wr) (fun i _ => bottom + 1 - (intOf i).toNat)
 case atStart => exact ⟨top, Nat.le_refl _, by omega, rfl, by rw [fillL_none _ _ _ _ (Nat.le_refl _)]; exact HO.out, HB.out⟩
 case round =>
  generalize wr = w2 at *
  obtain ⟨y, hy1, hy2, rfl, ho, hb⟩ := hrel
  have HO2 := Lib.hid ho
  have HB2 := Lib.hid hb
  clear ho hb
  by_cases hlt : y ≤ bottom
  ·go_wp2
   go_loopw [15] (fun i wr => ColsRel l (downF l c top m) c top y w w.heap.size g cap i wr) (fun i _ => c - (intOf i).toNat)
   case atStart => exact ⟨0, by omega, rfl, HO2.out, HB2.out⟩
   case round =>
    generalize wr = w3 at *
    obtain ⟨x, hx, rfl, ho, hb⟩ := hrel
    have HO3 := Lib.hid ho
    have HB3 := Lib.hid hb
    have z3 := hb.size
    clear ho hb
    by_cases hxc : x < c
    ·obtain ⟨p, hp⟩ : ∃ p : Nat, p = y * c := ⟨_, rfl⟩
     have hyc : (y : Int) * (c : Int) = (p : Int) := by rw [hp]; simp
     have hpx : p + x < l.length := by rw [hp, HN.out]; exact rc_lt (by omega) hxc
     have hdv := rc_div y c x hxc
     rw [← hp] at hdv
     have HD := Lib.hid hdv
     have HP := Lib.hid hp
     clear hp hdv
     by_cases hym : top + m ≤ y
     ·obtain ⟨p2, hp2⟩ : ∃ p2 : Nat, p2 = (y - m) * c := ⟨_, rfl⟩
      have hyc2 : ((y : Int) - (m : Int)) * (c : Int) = (p2 : Int) := by rw [hp2, Int.natCast_mul, Int.ofNat_sub (by omega)]
      have hpx2 : p2 + x < l.length := by rw [hp2, HN.out]; exact rc_lt (by omega) hxc
      have hym' : (top : Int) ≤ (y : Int) - (m : Int) := by omega
      obtain ⟨d, hd⟩ : ∃ d, l[p2 + x]? = some d := ⟨_, List.getElem?_eq_getElem hpx2⟩
      have HD2 := Lib.hid hd
      have HP2 := Lib.hid hp2
      clear hd hp2
      obtain ⟨ad, hA, hab, -⟩ := H.out.get (p2 + x) d HD2.out
      subst hA
      go_wp2_with ((with_reducible refine (blank_any _).mono ?_); rintro e w' ⟨rfl, hw'⟩; have z4 := hw'.size; have H1 := Lib.hid (HO3.out.below hw'); have HW := Lib.hid hw'; obtain ⟨x0, y0, z0, s0, s1, s2, f0, f1, f2⟩ := (HO3.out.below hw').spot (p + x) hpx; obtain ⟨_, hA, hab2, t0, t1, t2⟩ := ((H.out.below HB3.out).below (hw'.mono z3)).get (p2 + x) d HD2.out; cases hA; have tb : (ad.add ((p2 + x) * 3)).block < w'.heap.size := (by rw [block_add]; omega); have hg5 : g < w'.heap.size := (HO3.out.below hw').block.2; clear hw')
      go_roundw
      case rel =>
       refine ⟨x + 1, by omega, by go_num, ?_, (below_put (HB3.out.trans (HW.out.mono z3)) hg1 _ _ _ _).alloc (by simp; omega) _⟩
       have e : d = downF l c top m (p + x) := by
        unfold downF
        rw [HD.out.1, if_pos hym]
        have e2 : p + x - m * c = p2 + x := by
         have e3 : (y - m) * c + m * c = y * c := by rw [← Nat.add_mul]; congr 1; omega
         rw [HP.out, HP2.out]; omega
        rw [e2]
        have := getC_of hpx2
        rw [HD2.out] at this
        exact Option.some.inj this
       have hpe := HP.out
       have := (H1.out.put (p + x) hpx d).alloc (.cells #[.int .i32 d.r, .int .u16 (d.a : Int), .int .u8 (d.h : Int)] 65)
       rw [← hpe, fillL_set _ _ _ _ _ (by rw [HP.out]; exact Nat.le_trans (Nat.mul_le_mul_right _ hy1) (Nat.le_add_right _ _)) e] at this
       rw [show y * c + (x + 1) = p + x + 1 by rw [HP.out]; omega]
       exact this
      case measure => simp [intOf]; omega
     ·have hym' : (y : Int) - (m : Int) < (top : Int) := by omega
      go_wp2_with ((with_reducible refine (blank_any _).mono ?_); rintro e w' ⟨rfl, hw'⟩; have z4 := hw'.size; have H1 := Lib.hid (HO3.out.below hw'); have HW := Lib.hid hw'; obtain ⟨x0, y0, z0, s0, s1, s2, f0, f1, f2⟩ := (HO3.out.below hw').spot (p + x) hpx; have hg5 : g < w'.heap.size := (HO3.out.below hw').block.2; clear hw')
      go_roundw
      case rel =>
       refine ⟨x + 1, by omega, by go_num, ?_, (below_put (HB3.out.trans (HW.out.mono z3)) hg1 _ _ _ _).alloc (by simp; omega) _⟩
       have e : blankC = downF l c top m (p + x) := by
        unfold downF
        rw [HD.out.1, if_neg hym]
       have hpe := HP.out
       have := (H1.out.put (p + x) hpx blankC).alloc (.cells #[.int .i32 32, .int .u16 0, .int .u8 0] 65)
       rw [← hpe, fillL_set _ _ _ _ _ (by rw [HP.out]; exact Nat.le_trans (Nat.mul_le_mul_right _ hy1) (Nat.le_add_right _ _)) e] at this
       rw [show y * c + (x + 1) = p + x + 1 by rw [HP.out]; omega]
       exact this
      case measure => simp [intOf]; omega
    ·obtain rfl : c = x := by omega
     go_wp2
     go_roundw
     case rel =>
      refine ⟨y + 1, by omega, by omega, by go_num, ?_, HB3.out⟩
      have e : (y + 1) * c = y * c + c := by rw [Nat.add_mul, Nat.one_mul]
      rw [e]
      exact HO3.out
     case measure => simp [intOf]; omega
  ·obtain rfl : y = bottom + 1 := by omega
   go_wp2
   go_ret
   exact ⟨_, rfl, HO2.out, HB2.out⟩
theorem Down_no (v : Value) (l : List Cl) (cols top bottom n : Int) (w : World) (h : CS w w.heap.size v l) (hl : l.length ≤ 1099511627776) (hb : upB l.length cols top bottom = false) :
  Calls Tryz.prog 100 #[v, .int .i64 cols, .int .i64 top, .int .i64 bottom, .int .i64 n] w (CellsPost l w) := by
 obtain ⟨A, k, rfl, h1, h2⟩ := h.form
 have H := Lib.hid h
 unfold upB at hb
 rw [decide_eq_false_iff_not] at hb
 clear h
 cases ho : gOk l.length cols with
 | false =>
  have HO := Lib.hid ho
  clear ho hb
  go_enter Tryz.func100, Tryz.ntmps100
  go_wp2_with (first | ((with_reducible refine (own_any _ l _ H.out hl).mono ?_); rintro e w1 ⟨v1, rfl, o1, b1⟩; have z1 := b1.size; have HC := Lib.hid ((H.out.below b1).more z1); have H1 := Lib.hid o1; have HB := Lib.hid b1; clear o1 b1) | ((with_reducible refine (grid_no _ l cols _ HC.out hl HO.out).mono ?_); rintro e w' ⟨rfl, rfl⟩))
  go_ret
  exact ⟨v1, rfl, H1.out, HB.out⟩
 | true =>
  obtain ⟨r, c, rfl, hG⟩ := gOk_of ho
  have hq := hG.quo.1
  rw [hq] at hb
  have hno : top < 0 ∨ (0 ≤ top ∧ (r : Int) ≤ bottom) ∨ (0 ≤ top ∧ bottom < (r : Int) ∧ bottom < top) := by
   by_cases e1 : top < 0
   ·exact .inl e1
   by_cases e2 : (r : Int) ≤ bottom
   ·exact .inr (.inl ⟨by omega, e2⟩)
   ·refine .inr (.inr ⟨by omega, by omega, ?_⟩)
    by_cases e3 : bottom < top
    ·exact e3
    ·exact absurd ⟨ho, by omega, by omega, by omega⟩ hb
  have HG := Lib.hid hG
  clear ho hG hq hb
  rcases hno with e1 | ⟨e1, e2⟩ | ⟨e1, e2, e3⟩
  all_goals
   go_enter Tryz.func100, Tryz.ntmps100
   go_wp2_with (first | ((with_reducible refine (own_any _ l _ H.out hl).mono ?_); rintro e w1 ⟨v1, rfl, o1, b1⟩; have z1 := b1.size; have HC := Lib.hid ((H.out.below b1).more z1); have H1 := Lib.hid o1; have HB := Lib.hid b1; clear o1 b1) | ((with_reducible refine (grid_yes _ l r c _ HC.out HG.out).mono ?_); rintro e w' ⟨rfl, rfl⟩))
   go_ret
   exact ⟨v1, rfl, H1.out, HB.out⟩
theorem Down_any (v : Value) (l : List Cl) (cols top bottom n : Int) (w : World) (h : CS w w.heap.size v l) (hl : l.length ≤ 1099511627776) :
  Calls Tryz.prog 100 #[v, .int .i64 cols, .int .i64 top, .int .i64 bottom, .int .i64 n] w (CellsPost (downL l cols top bottom n) w) := by
 cases hb : upB l.length cols top bottom with
 | false =>
  have hno := hb
  unfold upB at hno
  rw [decide_eq_false_iff_not] at hno
  unfold downL
  rw [if_neg hno]
  exact Down_no v l cols top bottom n w h hl hb
 | true =>
  unfold upB at hb
  rw [decide_eq_true_eq] at hb
  unfold downL
  rw [if_pos hb]
  obtain ⟨h1, h2, h3, h4⟩ := hb
  obtain ⟨r, c, rfl, hG⟩ := gOk_of h1
  rw [hG.quo.1] at h3
  obtain ⟨t, rfl⟩ : ∃ t : Nat, top = t := ⟨top.toNat, by omega⟩
  obtain ⟨b, rfl⟩ : ∃ b : Nat, bottom = b := ⟨bottom.toNat, by omega⟩
  simp only [Int.toNat_natCast]
  exact Down_yes v l r c t b n w h hG (by omega) (by omega)
def CL (w : World) (S : Nat → Prop) (v : Value) (l : List Cl) : Prop :=
 ∃ A c, v = .slice A l.length c ∧ l.length ≤ c ∧ c ≤ maxLen ∧ (0 < l.length → ∃ ad, A = some ad ∧ S ad.block ∧ ∀ j b, l[j]? = some b → ThreeAt w (ad.add (j * 3)) b)
section
variable {w w' : World} {S S' : Nat → Prop} {v : Value} {l : List Cl}
theorem CL.keep (h : CL w S v l) (hk : ∀ q : Addr, S q.block → w'.cell? q = w.cell? q) : CL w' S v l := by
 obtain ⟨A, c, hv, h1, h2, h3⟩ := h
 refine ⟨A, c, hv, h1, h2, fun hl => ?_⟩
 obtain ⟨ad, hA, hb, hc⟩ := h3 hl
 exact ⟨ad, hA, hb, fun j b hj => (hc j b hj).keep fun p hp => hk p (by rw [hp, block_add]; exact hb)⟩
theorem CL.mono (h : CL w S v l) (hS : ∀ x, S x → S' x) : CL w S' v l := by
 obtain ⟨A, c, hv, h1, h2, h3⟩ := h
 refine ⟨A, c, hv, h1, h2, fun hl => ?_⟩
 obtain ⟨ad, hA, hb, hc⟩ := h3 hl
 exact ⟨ad, hA, hS _ hb, hc⟩
theorem CL.nil (w : World) (S : Nat → Prop) : CL w S (.slice none 0 0) [] := ⟨none, 0, rfl, by simp, by simp [maxLen], fun h => absurd h (by simp)⟩
theorem CL.form (h : CL w S v l) : ∃ A c, v = .slice A l.length c ∧ l.length ≤ c ∧ c ≤ 9223372036854775807 := by
 obtain ⟨A, c, hv, h1, h2, _⟩ := h
 unfold maxLen at h2
 exact ⟨A, c, hv, h1, by omega⟩
theorem CL.cs {B : Nat} (h : CL w S v l) (hS : ∀ x, S x → x < B) : CS w B v l := h.mono hS
theorem CL.cs' {B : Nat} (h : CL w S v l) (hS : ∀ x, S x → x < w.heap.size) (hb : Below w.heap.size w w') (hB : w'.heap.size ≤ B) : CS w' B v l :=
 (h.keep (fun q hq => hb.cell (hS _ hq))).cs (fun x hx => Nat.lt_of_lt_of_le (hS x hx) (Nat.le_trans hb.size hB))
end
theorem OT.sl {w : World} {base : Nat} {v : Value} {l : List Bool} (h : OT w base v l) : SL vT w (NewB w base) v l := by
 obtain ⟨A, c, hv, h1, h2, h3⟩ := h.bs
 refine ⟨A, c, hv, h1, h2, fun hl => ?_⟩
 obtain ⟨ad, hA, hb, hc⟩ := h3 hl
 subst hA
 exact ⟨ad, rfl, ⟨(World.ownsRow.lt h ad.block (by rw [hv]; rfl)).1, hb⟩, hc⟩
theorem OC.cl {w : World} {base : Nat} {v : Value} {l : List Cl} (h : OC w base v l) : CL w (NewB w base) v l := by
 obtain ⟨A, c, hv, h1, h2, h3⟩ := h.cs
 refine ⟨A, c, hv, h1, h2, fun hl => ?_⟩
 obtain ⟨ad, hA, hb, hc⟩ := h3 hl
 subst hA
 exact ⟨ad, rfl, ⟨(World.ownsRow.lt h ad.block (by rw [hv]; rfl)).1, hb⟩, hc⟩
@[reducible] def zQ : Array Value := #[.int .i64 0, .int .i64 0, .slice none 0 0, .int .i64 0, .int .i64 0, .bool false, .int .u16 0, .int .i64 0, .int .i64 0, .slice none 0 0, .int .i64 0, .int .i64 0, .int .u16 0, .bool false, .bool false, .bool false, .slice none 0 0, .int .i64 0, .int .i64 0, .int .i64 0, .int .u8 0, .slice none 0 0, .slice none 0 0, .slice none 0 0]
@[reducible] def vS (s : Sc) (vc vt vo vp vi vu : Value) : Array Value :=
 #[.int .i64 s.rows, .int .i64 s.cols, vc, .int .i64 s.y, .int .i64 s.x, .bool s.wrap, .int .u16 (s.attr : Int), .int .i64 s.top, .int .i64 s.bottom, vt, .int .i64 s.sy, .int .i64 s.sx, .int .u16 (s.sattr : Int), .bool s.auto, .bool s.shown, .bool s.alt, vo, .int .i64 s.oy, .int .i64 s.ox, .int .i64 (s.p.mode : Int), .int .u8 (s.p.priv : Int), vp, vi, vu]
def SSl (w : World) (S : Nat → Prop) (s : Sc) (vc vt vo vp vi vu : Value) : Prop :=
 CL w S vc s.cells ∧ SL vT w S vt s.tabs ∧ CL w S vo s.other ∧ SL vI w S vp s.p.params ∧ SL vB w S vi s.p.inter ∧ SL vB w S vu s.p.utf
def SCV (w : World) (S : Nat → Prop) (v : Value) (s : Sc) : Prop := ∃ vc vt vo vp vi vu, v = .agg (vS s vc vt vo vp vi vu) ∧ SSl w S s vc vt vo vp vi vu
section
variable {w w' : World} {S S' : Nat → Prop} {s : Sc} {vc vt vo vp vi vu : Value}
theorem SSl.keep (h : SSl w S s vc vt vo vp vi vu) (hk : ∀ q : Addr, S q.block → w'.cell? q = w.cell? q) : SSl w' S s vc vt vo vp vi vu := by
 obtain ⟨h1, h2, h3, h4, h5, h6⟩ := h
 exact ⟨h1.keep hk, h2.keep hk, h3.keep hk, h4.keep hk, h5.keep hk, h6.keep hk⟩
theorem SSl.mono (h : SSl w S s vc vt vo vp vi vu) (hS : ∀ x, S x → S' x) : SSl w S' s vc vt vo vp vi vu := by
 obtain ⟨h1, h2, h3, h4, h5, h6⟩ := h
 exact ⟨h1.mono hS, h2.mono hS, h3.mono hS, h4.mono hS, h5.mono hS, h6.mono hS⟩
theorem SSl.below {B : Nat} (h : SSl w S s vc vt vo vp vi vu) (hS : ∀ x, S x → x < B) (hb : Below B w w') : SSl w' S s vc vt vo vp vi vu := h.keep fun q hq => hb.cell (hS _ hq)
theorem SSl.like {s' : Sc} (h : SSl w S s vc vt vo vp vi vu) (h1 : s'.cells = s.cells) (h2 : s'.tabs = s.tabs) (h3 : s'.other = s.other) (h4 : s'.p = s.p) : SSl w S s' vc vt vo vp vi vu := by
 unfold SSl
 rw [h1, h2, h3, h4]
 exact h
end
theorem SCV.below {w w' : World} {S : Nat → Prop} {B : Nat} {v : Value} {s : Sc} (h : SCV w S v s) (hS : ∀ x, S x → x < B) (hb : Below B w w') : SCV w' S v s := by
 obtain ⟨vc, vt, vo, vp, vi, vu, hv, hs⟩ := h
 exact ⟨vc, vt, vo, vp, vi, vu, hv, hs.below hS hb⟩
theorem SCV.mono {w : World} {S S' : Nat → Prop} {v : Value} {s : Sc} (h : SCV w S v s) (hS : ∀ x, S x → S' x) : SCV w S' v s := by
 obtain ⟨vc, vt, vo, vp, vi, vu, hv, hs⟩ := h
 exact ⟨vc, vt, vo, vp, vi, vu, hv, hs.mono hS⟩
def Since (S : Nat → Prop) (w w' : World) (x : Nat) : Prop := S x ∨ NewB w' w.heap.size x
def ScPost (S : Nat → Prop) (s : Sc) (w : World) (e : Ending) (w' : World) : Prop := ∃ v, e = .returned v ∧ SCV w' (Since S w w') v s ∧ Below w.heap.size w w'
theorem scrSize : (Tryz.prog.info? 30).map (·.size) = some 24 := by kernel_rfl
theorem run_loadS {w : World} {g : Nat} {xs : Array Value} (h : w.heap[g]? = some (.cells xs 30)) (hn : xs.size = 24) : (Instr.loadAt 30 (.pointer (some ⟨g, 0, none⟩))).run Tryz.prog w = .ok (.agg xs) w := by
 simp only [Instr.loadAt, Instr.sureAddr, Sem.run_bind, Sem.run_pure, Result.andThen]
 exact run_loadVar_row _ g _ 30 xs (0, 0) _ h Tryz.underlying30 rfl (by rw [scrSize, hn])
theorem run_storeS {w : World} {g : Nat} {old xs : Array Value} (h : w.heap[g]? = some (.cells old 30)) (ho : old.size = 24) (hn : xs.size = 24) (h1 : xs.all (·.oneCell') = true) : (Instr.storeAt 30 (.pointer (some ⟨g, 0, none⟩)) (.agg xs)).run Tryz.prog w = .ok () (w.setRow g xs) := by
 simp only [Instr.storeAt, Instr.sureAddr, Sem.run_bind, Sem.run_pure, Result.andThen]
 exact run_storeVar_row _ g _ 30 old xs h (by rw [scrSize, hn]) (by rw [ho, hn]) h1
theorem heap_setRow_same {w : World} {g : Nat} {old xs : Array Value} {t : TypeId} (h : w.heap[g]? = some (.cells old t)) : (w.setRow g xs).heap[g]? = some (.cells xs t) := by
 simp [World.setRow, Array.getElem?_modify, h]
theorem heap_setRow_other {w : World} {g k : Nat} {xs : Array Value} (h : g ≠ k) : (w.setRow g xs).heap[k]? = w.heap[k]? := by
 simp [World.setRow, Array.getElem?_modify, h]
theorem size_setRow (w : World) (g : Nat) (xs : Array Value) : (w.setRow g xs).heap.size = w.heap.size := by simp [World.setRow]
theorem below_setRow {B : Nat} {w w' : World} (h : Below B w w') {g : Nat} (hg : B ≤ g) (xs : Array Value) : Below B w (w'.setRow g xs) :=
 ⟨h.os, h.tape, h.output, by rw [size_setRow]; exact h.size, fun i hi => (heap_setRow_other (by omega)).trans (h.block i hi)⟩
theorem resultS {fn : Func} {p : Tmp} (h : fn.results = #[.cell p 30]) {tmps : Array Value} {w : World} {g : Nat} {xs : Array Value} (ht : tmps.getD p undef = .pointer (some ⟨g, 0, none⟩)) (hg : w.heap[g]? = some (.cells xs 30)) (hn : xs.size = 24) :
  (results fn tmps).run Tryz.prog w = .ok (.agg xs) w := by
 simp only [results, h]
 have := run_loadVar_row (P := Tryz.prog) w g _ 30 xs (0, 0) _ hg Tryz.underlying30 rfl (by rw [scrSize, hn])
 have ht2 : tmps[p]?.getD undef = .pointer (some ⟨g, 0, none⟩) := by simpa using ht
 simp [ht2, asAddr, this]
theorem wpl_loadS {w : World} {ops : Array Oper} {rest : List Oper} {o : Oper} {a : Act} {Q : Exit → Act → World → Prop} (hgd : o.guard = none) (x : Operand) (ho : o.op = .load 30 x) {g : Nat} {xs : Array Value} (hx : a.eval x = .pointer (some ⟨g, 0, none⟩))
  (hg : w.heap[g]? = some (.cells xs 30)) (hn : xs.size = 24) (h : wpList Tryz.prog ops Q rest (a.put o.dst (.agg xs)) w) : wpList Tryz.prog ops Q (o :: rest) a w := by
 refine wpList_plain hgd fun K hK => ?_
 unfold Oper.wp execOp
 simp only [ho, hx, Sem.run_bind, run_loadS hg hn, Result.andThen_ok, Sem.run_pure]
 exact hK _ _ h
theorem wpl_storeS {w : World} {ops : Array Oper} {rest : List Oper} {o : Oper} {a : Act} {Q : Exit → Act → World → Prop} (hgd : o.guard = none) (x y : Operand) (ho : o.op = .store 30 x y) {g : Nat} {old xs : Array Value} (hx : a.eval x = .pointer (some ⟨g, 0, none⟩)) (hy : a.eval y = .agg xs)
  (hg : w.heap[g]? = some (.cells old 30)) (ho2 : old.size = 24) (hn : xs.size = 24) (h1 : xs.all (·.oneCell') = true) (h : wpList Tryz.prog ops Q rest (a.put o.dst undef) (w.setRow g xs)) : wpList Tryz.prog ops Q (o :: rest) a w := by
 refine wpList_plain hgd fun K hK => ?_
 unfold Oper.wp execOp
 simp only [ho, hx, hy, Sem.run_bind, run_storeS hg ho2 hn h1, Result.andThen_ok, Sem.run_pure]
 exact hK _ _ h
theorem vS_one (s : Sc) {vc vt vo vp vi vu : Value} {A1 A2 A3 A4 A5 A6 : Option Addr} {n1 n2 n3 n4 n5 n6 c1 c2 c3 c4 c5 c6 : Nat} (e1 : vc = .slice A1 n1 c1) (e2 : vt = .slice A2 n2 c2) (e3 : vo = .slice A3 n3 c3) (e4 : vp = .slice A4 n4 c4) (e5 : vi = .slice A5 n5 c5) (e6 : vu = .slice A6 n6 c6) : (vS s vc vt vo vp vi vu).all (·.oneCell') = true := by
 subst e1 e2 e3 e4 e5 e6
 simp [vS, Value.oneCell']
theorem SSl.one {w : World} {S : Nat → Prop} {s s' : Sc} {vc vt vo vp vi vu : Value} (h : SSl w S s vc vt vo vp vi vu) : (vS s' vc vt vo vp vi vu).all (·.oneCell') = true := by
 obtain ⟨h1, h2, h3, h4, h5, h6⟩ := h
 obtain ⟨A1, c1, e1, _⟩ := h1.form
 obtain ⟨A2, c2, e2, _⟩ := h2.form
 obtain ⟨A3, c3, e3, _⟩ := h3.form
 obtain ⟨A4, c4, e4, _⟩ := h4.form
 obtain ⟨A5, c5, e5, _⟩ := h5.form
 obtain ⟨A6, c6, e6, _⟩ := h6.form
 exact vS_one s' e1 e2 e3 e4 e5 e6
theorem all24 {x0 x1 x2 x3 x4 x5 x6 x7 x8 x9 x10 x11 x12 x13 x14 x15 x16 x17 x18 x19 x20 x21 x22 x23 : Value} (h0 : x0.oneCell' = true) (h1 : x1.oneCell' = true) (h2 : x2.oneCell' = true) (h3 : x3.oneCell' = true) (h4 : x4.oneCell' = true) (h5 : x5.oneCell' = true) (h6 : x6.oneCell' = true) (h7 : x7.oneCell' = true) (h8 : x8.oneCell' = true) (h9 : x9.oneCell' = true) (h10 : x10.oneCell' = true) (h11 : x11.oneCell' = true) (h12 : x12.oneCell' = true) (h13 : x13.oneCell' = true) (h14 : x14.oneCell' = true) (h15 : x15.oneCell' = true) (h16 : x16.oneCell' = true) (h17 : x17.oneCell' = true) (h18 : x18.oneCell' = true) (h19 : x19.oneCell' = true) (h20 : x20.oneCell' = true) (h21 : x21.oneCell' = true) (h22 : x22.oneCell' = true) (h23 : x23.oneCell' = true) : (#[x0, x1, x2, x3, x4, x5, x6, x7, x8, x9, x10, x11, x12, x13, x14, x15, x16, x17, x18, x19, x20, x21, x22, x23] : Array Value).all (·.oneCell') = true := by
 simp [h0, h1, h2, h3, h4, h5, h6, h7, h8, h9, h10, h11, h12, h13, h14, h15, h16, h17, h18, h19, h20, h21, h22, h23]
@[reducible] def vA (s : Sc) (A1 A2 A3 A4 A5 A6 : Option Addr) (k1 k2 k3 k4 k5 k6 : Nat) : Array Value := vS s (.slice A1 s.cells.length k1) (.slice A2 s.tabs.length k2) (.slice A3 s.other.length k3) (.slice A4 s.p.params.length k4) (.slice A5 s.p.inter.length k5) (.slice A6 s.p.utf.length k6)
@[reducible] def vG (s : Sc) (g1 k1 g2 k2 : Nat) (A3 : Option Addr) (k3 : Nat) (A4 : Option Addr) (n4 k4 : Nat) (A5 : Option Addr) (n5 k5 : Nat) (A6 : Option Addr) (n6 k6 : Nat) : Array Value := vS s (.slice (some ⟨g1, 0, none⟩) s.cells.length k1) (.slice (some ⟨g2, 0, none⟩) s.tabs.length k2) (.slice A3 s.other.length k3) (.slice A4 n4 k4) (.slice A5 n5 k5) (.slice A6 n6 k6)
theorem all25 {x0 x1 x2 x3 x4 x5 x6 x7 x8 x9 x10 x11 x12 x13 x14 x15 x16 x17 x18 x19 x20 x21 x22 x23 : Value} (h0 : x0.oneCell' = true := by rfl) (h1 : x1.oneCell' = true := by rfl) (h2 : x2.oneCell' = true := by rfl) (h3 : x3.oneCell' = true := by rfl) (h4 : x4.oneCell' = true := by rfl) (h5 : x5.oneCell' = true := by rfl) (h6 : x6.oneCell' = true := by rfl) (h7 : x7.oneCell' = true := by rfl) (h8 : x8.oneCell' = true := by rfl) (h9 : x9.oneCell' = true := by rfl) (h10 : x10.oneCell' = true := by rfl) (h11 : x11.oneCell' = true := by rfl) (h12 : x12.oneCell' = true := by rfl) (h13 : x13.oneCell' = true := by rfl) (h14 : x14.oneCell' = true := by rfl) (h15 : x15.oneCell' = true := by rfl) (h16 : x16.oneCell' = true := by rfl) (h17 : x17.oneCell' = true := by rfl) (h18 : x18.oneCell' = true := by rfl) (h19 : x19.oneCell' = true := by rfl) (h20 : x20.oneCell' = true := by rfl) (h21 : x21.oneCell' = true := by rfl) (h22 : x22.oneCell' = true := by rfl) (h23 : x23.oneCell' = true := by rfl) : (#[x0, x1, x2, x3, x4, x5, x6, x7, x8, x9, x10, x11, x12, x13, x14, x15, x16, x17, x18, x19, x20, x21, x22, x23] : Array Value).all (·.oneCell') = true := all24 h0 h1 h2 h3 h4 h5 h6 h7 h8 h9 h10 h11 h12 h13 h14 h15 h16 h17 h18 h19 h20 h21 h22 h23
theorem sslSix {w : World} {S : Nat → Prop} {s : Sc} {vc vt vo vp vi vu : Value} (h : SSl w S s vc vt vo vp vi vu) : ∃ A1 k1 A2 k2 A3 k3 A4 k4 A5 k5 A6 k6, vc = .slice A1 s.cells.length k1 ∧ vt = .slice A2 s.tabs.length k2 ∧ vo = .slice A3 s.other.length k3 ∧ vp = .slice A4 s.p.params.length k4 ∧ vi = .slice A5 s.p.inter.length k5 ∧ vu = .slice A6 s.p.utf.length k6 ∧ s.cells.length ≤ k1 ∧ k1 ≤ 9223372036854775807 ∧ s.tabs.length ≤ k2 ∧ k2 ≤ 9223372036854775807 ∧ s.other.length ≤ k3 ∧ k3 ≤ 9223372036854775807 ∧ s.p.params.length ≤ k4 ∧ k4 ≤ 9223372036854775807 ∧ s.p.inter.length ≤ k5 ∧ k5 ≤ 9223372036854775807 ∧ s.p.utf.length ≤ k6 ∧ k6 ≤ 9223372036854775807 := by
 obtain ⟨g1, g2, g3, g4, g5, g6⟩ := h
 obtain ⟨A1, k1, e1, p1, q1⟩ := g1.form
 obtain ⟨A2, k2, e2, p2, q2⟩ := g2.form
 obtain ⟨A3, k3, e3, p3, q3⟩ := g3.form
 obtain ⟨A4, k4, e4, p4, q4⟩ := g4.form
 obtain ⟨A5, k5, e5, p5, q5⟩ := g5.form
 obtain ⟨A6, k6, e6, p6, q6⟩ := g6.form
 exact ⟨A1, k1, A2, k2, A3, k3, A4, k4, A5, k5, A6, k6, e1, e2, e3, e4, e5, e6, p1, q1, p2, q2, p3, q3, p4, q4, p5, q5, p6, q6⟩
theorem heap_a1 (w : World) (x y : Obj) : ((w.alloc x).alloc y).heap[w.heap.size]? = some x := by
 show ((w.heap.push x).push y)[w.heap.size]? = some x
 simp [Array.getElem?_push]
theorem heap_a2 (w : World) (x y : Obj) : ((w.alloc x).alloc y).heap[w.heap.size + 1]? = some y := by
 show ((w.heap.push x).push y)[w.heap.size + 1]? = some y
 rw [Array.getElem?_push, if_pos (by simp)]
theorem scEnd {w W : World} {S : Nat → Prop} {s : Sc} (g : Nat) (p : Tmp) {vc vt vo vp vi vu : Value} {fn : Func} {a : Act} {z : Array Value} (hfn : fn.results = #[.cell p 30]) (ht : a.tmps.getD p undef = .pointer (some ⟨g, 0, none⟩)) (hd : a.defers = [])
  (hz : W.heap[g]? = some (.cells z 30)) (hg : w.heap.size ≤ g) (hb : Below w.heap.size w W) (hS : ∀ x, S x → x < w.heap.size) (hs : SSl w S s vc vt vo vp vi vu) : bodyPost Tryz.prog fn (ScPost S s w) .ret a (W.setRow g (vS s vc vt vo vp vi vu)) := by
 refine bodyPost_ret (v := .agg (vS s vc vt vo vp vi vu)) (resultS hfn ht (heap_setRow_same hz) rfl) hd ?_
 have hb2 := below_setRow hb hg (vS s vc vt vo vp vi vu)
 exact ⟨_, rfl, ⟨_, _, _, _, _, _, rfl, (hs.below hS hb2).mono (fun x hx => .inl hx)⟩, hb2⟩
theorem scEndC {w w4 W : World} {S : Nat → Prop} {s s0 : Sc} (g : Nat) (p : Tmp) {vc0 vc vt vo vp vi vu : Value} {fn : Func} {a : Act} {z : Array Value} (hfn : fn.results = #[.cell p 30]) (ht : a.tmps.getD p undef = .pointer (some ⟨g, 0, none⟩)) (hd : a.defers = [])
  (hz : W.heap[g]? = some (.cells z 30)) (hg : w.heap.size ≤ g) (hb : Below w.heap.size w W) (hS : ∀ x, S x → x < w.heap.size) (hs : SSl w S s0 vc0 vt vo vp vi vu) (e1 : s.tabs = s0.tabs) (e2 : s.other = s0.other) (e3 : s.p = s0.p)
  (base : Nat) (hbase : g < base) (hc : OC w4 base vc s.cells) (hk : ∀ b, base ≤ b → W.heap[b]? = w4.heap[b]?) (hz4 : w4.heap.size ≤ W.heap.size) : bodyPost Tryz.prog fn (ScPost S s w) .ret a (W.setRow g (vS s vc vt vo vp vi vu)) := by
 refine bodyPost_ret (v := .agg (vS s vc vt vo vp vi vu)) (resultS hfn ht (heap_setRow_same hz) rfl) hd ?_
 have hb2 := below_setRow hb hg (vS s vc vt vo vp vi vu)
 obtain ⟨h1, h2, h3, h4, h5, h6⟩ := (hs.below hS hb2).mono (S' := Since S w (W.setRow g (vS s vc vt vo vp vi vu))) (fun x hx => .inl hx)
 refine ⟨_, rfl, ⟨_, _, _, _, _, _, rfl, ?_⟩, hb2⟩
 unfold SSl
 rw [e1, e2, e3]
 refine ⟨(hc.cl.keep (fun q hq => World.cell?_of_block ((heap_setRow_other (by have := hq.1; omega)).trans (hk _ hq.1)))).mono (fun x hx => .inr ⟨by have := hx.1; omega, ?_⟩), h2, h3, h4, h5, h6⟩
 rw [size_setRow]
 have := hx.2
 omega
theorem scEndV {w w4 : World} {S S4 : Nat → Prop} {s : Sc} (g : Nat) (p : Tmp) {vc vt vo vp vi vu : Value} {fn : Func} {a : Act} {z : Array Value} (hfn : fn.results = #[.cell p 30]) (ht : a.tmps.getD p undef = .pointer (some ⟨g, 0, none⟩)) (hd : a.defers = [])
  (hz : w4.heap[g]? = some (.cells z 30)) (hg : w.heap.size ≤ g) (hb : Below w.heap.size w w4) (hS : ∀ x, S x → x < w.heap.size) (hs : SSl w4 S4 s vc vt vo vp vi vu) (h4 : ∀ x, S4 x → S x ∨ (g < x ∧ x < w4.heap.size)) : bodyPost Tryz.prog fn (ScPost S s w) .ret a (w4.setRow g (vS s vc vt vo vp vi vu)) := by
 refine bodyPost_ret (v := .agg (vS s vc vt vo vp vi vu)) (resultS hfn ht (heap_setRow_same hz) rfl) hd ?_
 have hb2 := below_setRow hb hg (vS s vc vt vo vp vi vu)
 refine ⟨_, rfl, ⟨_, _, _, _, _, _, rfl, (hs.keep (fun q hq => World.cell?_of_block (heap_setRow_other ?_))).mono (fun x hx => ?_)⟩, hb2⟩
 ·rcases h4 _ hq with h | h
  ·have := hS _ h; omega
  ·omega
 ·rcases h4 _ hx with h | h
  ·exact .inl h
  ·exact .inr ⟨by omega, by rw [size_setRow]; omega⟩
theorem cellR {w : World} {g : Nat} {xs : Array Value} {t : TypeId} (h : w.heap[g]? = some (.cells xs t)) (i : Nat) {v : Value} (hv : xs[i]? = some v) : w.cell? ⟨g, i, none⟩ = some v ∧ w.frozen? ⟨g, i, none⟩ = false :=
 ⟨by rw [cell_of_row w g i _ t _ h]; exact hv, by simp [World.frozen?, h]⟩
theorem downr_any (v : Value) (s : Sc) (r c : Nat) (S : Nat → Prop) (w : World) (hS : ∀ x, S x → x < w.heap.size) (h : SCV w S v s) (hi : ScIn s r c) : Calls Tryz.prog 98 #[v] w (ScPost S (downS s) w) := by
 have HSS := Lib.hid hS
 clear hS
 obtain ⟨vc, vt, vo, vp, vi, vu, rfl, hs⟩ := h
 have HS := Lib.hid hs
 obtain ⟨g1, g2, g3, g4, g5, g6⟩ := hs
 obtain ⟨A1, k1, rfl, p1, q1⟩ := g1.form
 obtain ⟨A2, k2, rfl, p2, q2⟩ := g2.form
 obtain ⟨A3, k3, rfl, p3, q3⟩ := g3.form
 obtain ⟨A4, k4, rfl, p4, q4⟩ := g4.form
 obtain ⟨A5, k5, rfl, p5, q5⟩ := g5.form
 obtain ⟨A6, k6, rfl, p6, q6⟩ := g6.form
 clear g1 g2 g3 g4 g5 g6
 have HI := Lib.hid hi
 have y0 := hi.y0
 have y1 := hi.y1
 have hr := hi.rows
 have hlen : s.cells.length ≤ 1000000 := by rw [hi.g.n]; exact rc_le hi.g.r2 hi.g.c2
 have hr2 := hi.g.r2
 clear hi
 have HR := Lib.hid hr
 have hr3 : s.rows ≤ 1000 := by omega
 have hr4 : 1 ≤ s.rows := by omega
 clear hr
 by_cases hb : s.y = s.bottom
 ·have hb1 : (s.y == s.bottom) = true := by simpa using hb
  have e : downS s = { s with wrap := false, cells := upL s.cells s.cols s.top s.bottom 1 } := by unfold downS; rw [if_pos hb]
  rw [e]
  have HBB := Lib.hid hb
  clear e hb
  have h2 := two_new w (.cells #[.int .i64 s.rows, .int .i64 s.cols, .slice A1 s.cells.length k1, .int .i64 s.y, .int .i64 s.x, .bool false, .int .u16 (s.attr : Int), .int .i64 s.top, .int .i64 s.bottom, .slice A2 s.tabs.length k2, .int .i64 s.sy, .int .i64 s.sx, .int .u16 (s.sattr : Int), .bool s.auto, .bool s.shown, .bool s.alt, .slice A3 s.other.length k3, .int .i64 s.oy, .int .i64 s.ox, .int .i64 (s.p.mode : Int), .int .u8 (s.p.priv : Int), .slice A4 s.p.params.length k4, .slice A5 s.p.inter.length k5, .slice A6 s.p.utf.length k6] 30) (.cells zQ 30)
  have HC := Lib.hid (HS.out.1.cs' HSS.out h2.1 (Nat.le_refl _))
  have H2 := Lib.hid h2
  clear h2
  go_enter Tryz.func98, Tryz.ntmps98
  go_upto_region 6 with fail
  ((with_reducible refine (Up_any _ s.cells s.cols s.top s.bottom 1 _ HC.out (by omega)).mono ?_); rintro e w4 ⟨v4, rfl, o4, b4⟩; have hb4 : Below (w.heap.size + 1 + 1) _ w4 := (by rw [← H2.out.2]; exact b4); obtain ⟨k0, k1⟩ := two_keptB hb4; obtain ⟨c2, f2⟩ := cellR k0 2 rfl; have K0 := Lib.hid k0; have K1 := Lib.hid k1; rw [H2.out.2] at o4; have O4 := Lib.hid o4; have B4 := Lib.hid (H2.out.1.trans (hb4.mono (by omega))); have Z4 := b4.size; rw [H2.out.2] at Z4; clear o4 b4 hb4 k0 k1)
  obtain ⟨A7, k7, rfl, p7, q7⟩ := O4.out.cs.form
  go_upto_region 6 with fail
  refine wp_region_lit ?_
  refine wpl_loadS rfl (.tmp 1) rfl rfl ((heap_setCell_same _ _ 2 _ _ _ K0.out).trans rfl) rfl ?_
  refine wpl_storeS rfl (.tmp 2) (.tmp 29) rfl rfl rfl ((heap_setCell_other _ _ _ _ (by simp)).trans K1.out) rfl rfl all25 ?_
  go_wp2
  refine scEndC (w.heap.size + 1) 2 Tryz.results98 ?_ ?_ ((heap_setCell_other _ _ _ _ (by simp)).trans K1.out) (by omega) (B4.out.setCell (by simp) _) HSS.out HS.out ?_ ?_ ?_ (w.heap.size + 1 + 1) (by omega) O4.out (fun b hb => heap_setCell_other _ _ _ _ (by simp; omega)) (by simp)
  all_goals rfl
 ·have hb1 : (s.y == s.bottom) = false := by simpa using hb
  by_cases hb2 : s.y < s.rows - 1
  ·have e : downS s = { s with wrap := false, y := s.y + 1 } := by unfold downS; rw [if_neg hb, if_pos hb2]
   rw [e]
   clear e
   go_enter Tryz.func98, Tryz.ntmps98
   go_upto_region 6 with fail
   refine wp_region_lit ?_
   refine wpl_loadS rfl (.tmp 1) rfl rfl (heap_a1 w _ _) rfl ?_
   refine wpl_storeS rfl (.tmp 2) (.tmp 29) rfl rfl rfl (heap_a2 w _ _) rfl rfl all25 ?_
   go_wp2
   refine scEnd (w.heap.size + 1) 2 Tryz.results98 ?_ ?_ (heap_a2 w _ _) (by omega) (two_new w _ _).1 HSS.out (HS.out.like ?_ ?_ ?_ ?_)
   all_goals rfl
  ·have hb3 : decide (s.y < s.rows - 1) = false := by simpa using hb2
   have e : downS s = { s with wrap := false } := by unfold downS; rw [if_neg hb, if_neg (by omega)]
   rw [e]
   clear e
   go_enter Tryz.func98, Tryz.ntmps98
   go_upto_region 6 with fail
   refine wp_region_lit ?_
   refine wpl_loadS rfl (.tmp 1) rfl rfl (heap_a1 w _ _) rfl ?_
   refine wpl_storeS rfl (.tmp 2) (.tmp 29) rfl rfl rfl (heap_a2 w _ _) rfl rfl all25 ?_
   go_wp2
   refine scEnd (w.heap.size + 1) 2 Tryz.results98 ?_ ?_ (heap_a2 w _ _) (by omega) (two_new w _ _).1 HSS.out (HS.out.like ?_ ?_ ?_ ?_)
   all_goals rfl
@[reducible] def vRaw (m : Int) (s : Sc) (vc vt vo vp vi vu : Value) : Array Value :=
 #[.int .i64 s.rows, .int .i64 s.cols, vc, .int .i64 s.y, .int .i64 s.x, .bool s.wrap, .int .u16 (s.attr : Int), .int .i64 s.top, .int .i64 s.bottom, vt, .int .i64 s.sy, .int .i64 s.sx, .int .u16 (s.sattr : Int), .bool s.auto, .bool s.shown, .bool s.alt, vo, .int .i64 s.oy, .int .i64 s.ox, .int .i64 m, .int .u8 (s.p.priv : Int), vp, vi, vu]
theorem vRaw_cells {w : World} {g : Nat} {t : TypeId} {m : Int} {s : Sc} {vc vt vo vp vi vu : Value} (h : w.heap[g]? = some (.cells (vRaw m s vc vt vo vp vi vu) t)) :
  w.cell? ⟨g, 0, none⟩ = some (.int .i64 s.rows) ∧ w.cell? ⟨g, 1, none⟩ = some (.int .i64 s.cols) ∧ w.cell? ⟨g, 2, none⟩ = some (vc) ∧ w.cell? ⟨g, 3, none⟩ = some (.int .i64 s.y) ∧ w.cell? ⟨g, 4, none⟩ = some (.int .i64 s.x) ∧ w.cell? ⟨g, 5, none⟩ = some (.bool s.wrap) ∧ w.cell? ⟨g, 6, none⟩ = some (.int .u16 (s.attr : Int)) ∧ w.cell? ⟨g, 7, none⟩ = some (.int .i64 s.top) ∧ w.cell? ⟨g, 8, none⟩ = some (.int .i64 s.bottom) ∧ w.cell? ⟨g, 9, none⟩ = some (vt) ∧ w.cell? ⟨g, 10, none⟩ = some (.int .i64 s.sy) ∧ w.cell? ⟨g, 11, none⟩ = some (.int .i64 s.sx) ∧ w.cell? ⟨g, 12, none⟩ = some (.int .u16 (s.sattr : Int)) ∧ w.cell? ⟨g, 13, none⟩ = some (.bool s.auto) ∧ w.cell? ⟨g, 14, none⟩ = some (.bool s.shown) ∧ w.cell? ⟨g, 15, none⟩ = some (.bool s.alt) ∧ w.cell? ⟨g, 16, none⟩ = some (vo) ∧ w.cell? ⟨g, 17, none⟩ = some (.int .i64 s.oy) ∧ w.cell? ⟨g, 18, none⟩ = some (.int .i64 s.ox) ∧ w.cell? ⟨g, 19, none⟩ = some (.int .i64 m) ∧ w.cell? ⟨g, 20, none⟩ = some (.int .u8 (s.p.priv : Int)) ∧ w.cell? ⟨g, 21, none⟩ = some (vp) ∧ w.cell? ⟨g, 22, none⟩ = some (vi) ∧ w.cell? ⟨g, 23, none⟩ = some (vu) :=
 ⟨(cellR h 0 rfl).1, (cellR h 1 rfl).1, (cellR h 2 rfl).1, (cellR h 3 rfl).1, (cellR h 4 rfl).1, (cellR h 5 rfl).1, (cellR h 6 rfl).1, (cellR h 7 rfl).1, (cellR h 8 rfl).1, (cellR h 9 rfl).1, (cellR h 10 rfl).1, (cellR h 11 rfl).1, (cellR h 12 rfl).1, (cellR h 13 rfl).1, (cellR h 14 rfl).1, (cellR h 15 rfl).1, (cellR h 16 rfl).1, (cellR h 17 rfl).1, (cellR h 18 rfl).1, (cellR h 19 rfl).1, (cellR h 20 rfl).1, (cellR h 21 rfl).1, (cellR h 22 rfl).1, (cellR h 23 rfl).1⟩
theorem blk_below {w1 w2 : World} {o : Obj} {g : Nat} (h : w1.heap[g]? = some o) (hb : Below w1.heap.size w1 w2) : w2.heap[g]? = some o := by
 refine (hb.block g ?_).trans h
 exact (Array.getElem?_eq_some_iff.1 h).1
@[reducible] def vNq (m : Int) (s : Sc) (A1 A2 A3 A4 A5 A6 : Option Addr) (n1 n2 n3 n4 n5 n6 k1 k2 k3 k4 k5 k6 : Nat) : Array Value := vRaw m s (.slice A1 n1 k1) (.slice A2 n2 k2) (.slice A3 n3 k3) (.slice A4 n4 k4) (.slice A5 n5 k5) (.slice A6 n6 k6)
@[reducible] def vMq (m : Int) (s : Sc) (A1 A2 A3 A4 A5 A6 : Option Addr) (k1 k2 k3 k4 k5 k6 : Nat) : Array Value := vRaw m s (.slice A1 s.cells.length k1) (.slice A2 s.tabs.length k2) (.slice A3 s.other.length k3) (.slice A4 s.p.params.length k4) (.slice A5 s.p.inter.length k5) (.slice A6 s.p.utf.length k6)
end Go.Proofs.YthncoigjfhmldaaGreat
