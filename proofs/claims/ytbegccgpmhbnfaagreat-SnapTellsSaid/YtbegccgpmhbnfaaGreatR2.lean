/- What is proved here: parts of the proof of SnapTells. -/
import Derived.Test.YtbegccgpmhbnfaaGreatR1
import Derived.Laws.Tables
import Derived.Laws.Append
import Derived.Laws.MakeOwn
namespace Go.Proofs.YtbegccgpmhbnfaaGreat
open Go.RowKit
set_option linter.unusedVariables false
set_option linter.unusedSimpArgs false
section
variable {P : Program} {T : Tab} {m m' : Mem} {w0 : W0} {S0 : Nat → Prop} {w : World}
theorem newBox_ok (hm : MOk T w0 S0 m) {b : Nat} (hno : m.h b = .no) {cs : List CV} {c : Array Value} (t : TypeId) (hc : CsR T m cs c.toList) :
  Went T w0 S0 m [(b, .box cs)] { m with w := m.w.alloc (.cells c t), ρ := upf m.ρ b (some (m.w.heap.size, 0, c.size)), h := upf m.h b (.box cs) } ∧
  CVr T { m with w := m.w.alloc (.cells c t), ρ := upf m.ρ b (some (m.w.heap.size, 0, c.size)), h := upf m.h b (.box cs) } (.rp b 0) (.pointer (some ⟨m.w.heap.size, 0, none⟩)) := by
 have hp := mok_born (x := .box cs) hm hno c t 0 rfl rfl (fun hK => ⟨m.w.heap.size, c, t, by
   have := hc.1
   simp only [upf_same]; simp at this; rw [this], heap_alloc_new _ _, hK.cs hc⟩)
 exact ⟨⟨rfl, rfl, hp.1, hp.2⟩, .inr ⟨cs, m.w.heap.size, c.size, upf_same _ _ _, upf_same _ _ _, rfl⟩⟩
theorem zero_ok (hT : T.Ok P) {t : TypeId} {cs : List CV} (h : zeroL T t = some cs) : ∃ z, (zeroValue t).run P w = .ok z w ∧ CsR T m cs z.cells.toList := by
 unfold zeroL at h
 cases hi : T.info t with
 | none => rw [hi] at h; cases h
 | some i =>
 rw [hi] at h
 simp only [Option.bind_eq_bind, Option.bind_some] at h
 cases hz : i.zero with
 | none => rw [hz] at h; cases h
 | some z =>
 rw [hz] at h
 simp only [Option.bind_some] at h
 split at h
 ·rename_i ha
  cases h
  refine ⟨z, by simp [zeroValue, typeInfo, hT.info _ _ hi, hz], by simp, fun j c hj => ?_⟩
  rw [List.getElem?_map] at hj
  cases hv : z.cells.toList[j]? with
  | none => rw [hv] at hj; cases hj
  | some u =>
   rw [hv] at hj
   cases hj
   exact ⟨u, rfl, List.all_eq_true.1 ha u (List.mem_of_getElem? hv), cvOf_ok u⟩
 ·cases h
theorem alloc_ok (hT : T.Ok P) (hm : MOk T w0 S0 m) {b : Nat} (hno : m.h b = .no) {t : TypeId} {cs : List CV} (h : zeroL T t = some cs) :
  ∃ v m', (Instr.alloc t true (.tuple #[])).run P m.w = .ok v m'.w ∧ Went T w0 S0 m [(b, .box cs)] m' ∧ CVr T m' (.rp b 0) v := by
 obtain ⟨z, hz, hc⟩ := zero_ok (P := P) (w := m.w) (m := m) hT h
 obtain ⟨h1, h2⟩ := newBox_ok hm hno t hc
 exact ⟨_, _, by simp [Instr.alloc, hz, newVar, newRow], h1, h2⟩
theorem box_ok (hm : MOk T w0 S0 m) {b : Nat} (hno : m.h b = .no) {t : TypeId} {s : SV} {v : Value} {cs : List CV} (hs : SVr T m s v) (h : s.cells? m.h = some cs) :
  ∃ u m', (Instr.box t v).run P m.w = .ok u m'.w ∧ Went T w0 S0 m [(b, .box cs)] m' ∧ CVr T m' (.rp b 0) u := by
 obtain ⟨h1, h2⟩ := newBox_ok hm hno t (cells_ok hs h)
 exact ⟨_, _, by simp [Instr.box, newVar, newRow], h1, h2⟩
theorem foldl_set (off : Nat) : ∀ (l : List Value) (k : Nat) (a : Array Value), ((l.zipIdx k).foldl (fun cs (p : Value × Nat) => cs.setIfInBounds (off + p.2) p.1) a).size = a.size ∧
  ∀ j, ((l.zipIdx k).foldl (fun cs (p : Value × Nat) => cs.setIfInBounds (off + p.2) p.1) a)[j]? = if off + k ≤ j ∧ j < off + k + l.length ∧ j < a.size then l[j - (off + k)]? else a[j]?
 | [], k, a => ⟨rfl, fun j => by simp; omega⟩
 | v :: l, k, a => by
  simp only [List.zipIdx_cons, List.foldl_cons]
  obtain ⟨h1, h2⟩ := foldl_set off l (k + 1) (a.setIfInBounds (off + k) v)
  refine ⟨by rw [h1]; simp, fun j => ?_⟩
  rw [h2]
  simp only [Array.size_setIfInBounds, Array.getElem?_setIfInBounds, List.length_cons]
  by_cases e : j = off + k
  ·subst e
   by_cases hs : off + k < a.size
   ·rw [if_neg (by omega), if_pos rfl, if_pos hs, if_pos (by omega)]; simp
   ·rw [if_neg (by omega), if_pos rfl, if_neg hs, if_neg (by omega)]
    exact (Array.getElem?_eq_none (by omega)).symm
  ·by_cases hh : off + k ≤ j ∧ j < off + k + (l.length + 1) ∧ j < a.size
   ·rw [if_pos (by omega), if_pos hh]
    have : j - (off + k) = j - (off + (k + 1)) + 1 := by omega
    rw [this, List.getElem?_cons_succ]
   ·rw [if_neg (by omega), if_neg hh, if_neg (by omega)]
theorem fillBu_ok (place : Nat → Option (Nat × Nat)) : ∀ (ps : List (Nat × SV)) (vs : List (Nat × Value)) (cs cs' : List CV) (c : Array Value),
  symBuild m.h place ps cs = some cs' → CsR T m cs c.toList → vs.length = ps.length → (∀ (j : Nat) (p : Nat × SV) (q : Nat × Value), ps[j]? = some p → vs[j]? = some q → p.1 = q.1 ∧ SVr T m p.2 q.2) →
  ∃ c', Instr.fill place c vs = some c' ∧ CsR T m cs' c'.toList
 | [], [], cs, cs', c, h, hc, _, _ => by cases h; exact ⟨c, rfl, hc⟩
 | [], _ :: _, _, _, _, _, _, hl, _ => by cases hl
 | _ :: _, [], _, _, _, _, _, hl, _ => by cases hl
 | (i, s) :: ps, (i', v) :: vs, cs, cs', c, h, hc, hl, hr => by
  obtain ⟨rfl, hsv⟩ := hr 0 _ _ rfl rfl
  unfold symBuild at h
  simp only at hsv
  cases hp : place i with
  | none => rw [hp] at h; cases h
  | some p =>
  obtain ⟨off, n⟩ := p
  rw [hp] at h
  simp only [Option.bind_eq_bind, Option.bind_some] at h
  cases hx : s.cells? m.h with
  | none => rw [hx] at h; cases h
  | some xs =>
  rw [hx] at h
  simp only [Option.bind_some] at h
  split at h
  case isFalse => cases h
  rename_i hn
  cases hset : setL cs off xs with
  | none => rw [hset] at h; cases h
  | some cs1 =>
  rw [hset] at h
  simp only [Option.bind_some] at h
  have hxs := cells_ok hsv hx
  have hle : off + xs.length ≤ cs.length := by
   unfold setL at hset; split at hset
   ·assumption
   ·cases hset
  have h1 := hxs.1
  have h2 := hc.1
  have hvs : v.cells.size = xs.length := by simpa using h1
  have hcs : c.size = cs.length := by simpa using h2
  obtain ⟨f1, f2⟩ := foldl_set off v.cells.toList 0 c
  have hk := (setL_ok (c' := (v.cells.toList.zipIdx 0).foldl (fun cs (p : Value × Nat) => cs.setIfInBounds (off + p.2) p.1) c) hset hc hxs f1 (fun j => by
    rw [f2 j]
    by_cases hh : off ≤ j ∧ j < off + v.cells.toList.length
    · rw [if_pos hh, if_pos (by simp at hh ⊢; omega)]; simp
    · rw [if_neg hh, if_neg (by simp at hh ⊢; omega)])).1
  obtain ⟨c', g1, g2⟩ := fillBu_ok place ps vs cs1 cs' _ h hk (by simpa using hl) (fun j p q hp hq => hr (j + 1) p q hp hq)
  refine ⟨c', ?_, g2⟩
  unfold Instr.fill
  simp only [hp]
  rw [if_neg (by simp [hvs, hcs, hn]; omega)]
  rw [← g1]
  congr 1
  rw [← Array.foldl_toList]
  congr 1
  simp
theorem mapM_imp {α β : Type} {f g : α → Option β} : ∀ {l : List α} {r : List β}, (∀ x y, f x = some y → g x = some y) → l.mapM f = some r → l.mapM g = some r
 | [], r, _, h => by simpa using h
 | x :: l, r, hi, h => by
  simp only [List.mapM_cons, Option.bind_eq_bind, Option.pure_def] at h ⊢
  cases hx : f x with
  | none => rw [hx] at h; cases h
  | some y =>
   rw [hx] at h
   rw [hi x y hx]
   simp only [Option.bind_some] at h ⊢
   cases hl : l.mapM f with
   | none => rw [hl] at h; cases h
   | some ys => rw [hl] at h; rw [mapM_imp hi hl]; exact h
theorem build_ok (hT : T.Ok P) {t : TypeId} {ps : List (Nat × SV)} {vs : Array (Nat × Value)} {cs : List CV} (h : buildT T m.h t ps = some cs) (hl : vs.toList.length = ps.length)
  (hr : ∀ (j : Nat) (p : Nat × SV) (q : Nat × Value), ps[j]? = some p → vs.toList[j]? = some q → p.1 = q.1 ∧ SVr T m p.2 q.2) : ∃ a, (Instr.build t vs).run P w = .ok (.agg a) w ∧ CsR T m cs a.toList := by
 unfold buildT at h
 cases hp : placesT T t with
 | none => rw [hp] at h; cases h
 | some place =>
 rw [hp] at h
 simp only [Option.bind_eq_bind, Option.bind_some] at h
 cases hz : zeroL T t with
 | none => rw [hz] at h; cases h
 | some zs =>
 rw [hz] at h
 simp only [Option.bind_some] at h
 unfold zeroL at hz
 cases hi : T.info t with
 | none => rw [hi] at hz; cases hz
 | some it =>
 have hz' := hz
 rw [hi] at hz
 simp only [Option.bind_eq_bind, Option.bind_some] at hz
 cases hzz : it.zero with
 | none => rw [hzz] at hz; cases hz
 | some z =>
 obtain ⟨z2, hz2, hc⟩ := zero_ok (P := P) (w := w) (m := m) hT (show zeroL T t = some zs from hz')
 have hzz2 : z2 = z := by
  simp [zeroValue, typeInfo, hT.info _ _ hi, hzz] at hz2
  exact hz2.symm
 subst hzz2
 obtain ⟨c', f1, f2⟩ := fillBu_ok place ps vs.toList zs cs z2.cells h hc hl hr
 refine ⟨c', run_build w t vs c' ?_, f2⟩
 unfold Program.built
 unfold placesT at hp
 split at hp
 ·rename_i fs hu
  cases hm : fs.toList.mapM (fun f => (T.info f.type).map fun i => (f.offset, i.size)) with
  | none => rw [hm] at hp; cases hp
  | some l =>
   rw [hm] at hp
   cases hp
   have hm2 : fs.toList.mapM (fun f => (P.info? f.type).map fun i => (f.offset, i.size)) = some l := mapM_imp (fun f y hf => by
     cases hq : T.info f.type with
     | none => rw [hq] at hf; cases hf
     | some i => rw [hq] at hf; rw [hT.info _ _ hq]; exact hf) hm
   simp only [hT.info _ _ hi, hT.und hu, hzz, hm2]
   rw [← f1]
   congr 1
   funext i
   simp
 ·rename_i n e hu
  cases hs : T.size e with
  | none => rw [hs] at hp; cases hp
  | some sz =>
   rw [hs] at hp
   cases hp
   have := hT.size hs
   cases hie : P.info? e with
   | none => rw [hie] at this; cases this
   | some ie =>
    rw [hie] at this
    simp only [hT.info _ _ hi, hT.und hu, hzz, hie]
    rw [show ie.size = sz from Option.some.inj this]
    exact f1
 ·cases hp
theorem field_ok (hT : T.Ok P) {t : TypeId} {f : Nat} {s val : SV} {v : Value} (h : symField T t f s = some val) (hs : SVr T m s v) : ∃ u, (Instr.field t v f).run P w = .ok u w ∧ SVr T m val u := by
 unfold symField at h
 split at h
 ·rename_i cs
  split at h
  ·rename_i fs hu
   cases hf : fs[f]? with
   | none => rw [hf] at h; cases h
   | some g =>
   rw [hf] at h
   simp only [Option.bind_eq_bind, Option.bind_some] at h
   obtain ⟨a, rfl, hc⟩ := hs
   obtain ⟨u, hu2, h5⟩ := part_ok (P := P) (w := w) hT h hc
   refine ⟨u, ?_, h5⟩
   simp only [Instr.field, Sem.run_bind, run_underlying (hT.und hu), Result.andThen_ok, hf, asAgg, Sem.run_pure]
   exact hu2
  ·cases h
 ·cases h
theorem fieldPlace_ok (hT : T.Ok P) {g : Field} {n q o : Nat} (hn : T.size g.type = some n) (h0 : n ≠ 0) : (fieldPlace ⟨q, o, none⟩ g).run P w = .ok ⟨q, o + g.offset, none⟩ w := by
 unfold fieldPlace
 simp [run_size hT hn, h0, add_lit]
theorem fieldAddr_ok (hT : T.Ok P) {t : TypeId} {f : Nat} {s val : SV} {v : Value} (h : symFieldAddr T m.h t f s = some val) (hs : SVr T m s v) : ∃ u, (Instr.fieldAt t v f).run P w = .ok u w ∧ SVr T m val u := by
 unfold symFieldAddr at h
 split at h
 ·rename_i c
  split at h
  ·rename_i fs hu
   cases hf : fs[f]? with
   | none => rw [hf] at h; cases h
   | some g =>
   rw [hf] at h
   simp only [Option.bind_eq_bind, Option.bind_some] at h
   cases hn : T.size g.type with
   | none => rw [hn] at h; cases h
   | some n =>
   rw [hn] at h
   simp only [Option.bind_some] at h
   split at h
   case isTrue => cases h
   rename_i h0
   have hsure : c.sure m.h = true := by revert h0; cases c.sure m.h <;> simp
   have h0 : n ≠ 0 := fun e => h0 (by simp [e])
   have hrun : ∀ q o, (Instr.fieldAt t (.pointer (some ⟨q, o, none⟩)) f).run P w = .ok (.pointer (some ⟨q, o + g.offset, none⟩)) w := fun q o => by
    simp [Instr.fieldAt, run_underlying (hT.und hu), hf, Instr.sureAddr, fieldPlace_ok hT hn h0]
   split at h
   ·rename_i b off
    cases h
    rcases hs with hs | ⟨l, q, cs, h1, h2, rfl⟩
    ·simp [CV.sure, hs] at hsure
    ·exact ⟨_, hrun _ _, .inr ⟨l, q, cs, h1, h2, rfl⟩⟩
   ·rename_i b el row off eb
    cases h
    rcases hs with hs | ⟨e', fz', rows', sz, q, base, cz, r, h1, h2, h3, h4, h5, h6, rfl⟩
    ·simp [CV.sure, hs] at hsure
    ·exact ⟨_, hrun _ _, .inr ⟨e', fz', rows', sz, q, base, cz, r, h1, h2, h3, h4, h5, h6, by rw [Nat.add_assoc]⟩⟩
   ·rename_i el l row off
    cases h
    obtain ⟨rows, cap, cks, q, o, r, h1, h2, h3, h4, h5, rfl⟩ := hs
    exact ⟨_, hrun _ _, rows, cap, cks, q, o, r, h1, h2, h3, h4, h5, by rw [Nat.add_assoc]⟩
   ·cases h
  ·cases h
 ·cases h
end
section
variable {P : Program} {T : Tab} {m m' : Mem} {w0 : W0} {S0 : Nat → Prop} {w : World}
theorem un_ok {op : UnOp} {c c' : CV} {v : Value} {ns : List E} (h : symUn op c = some (ns, c')) (hc : CVr T m c v) (hn : needsOk m.env ns) : ∃ u, (Op.unary op v).run P w = .ok u w ∧ CVr T m c' u := by
 unfold symUn at h
 split at h
 ·obtain ⟨b, h1, rfl⟩ := Rd.bool_inv hc
  split at h <;> cases h
  refine ⟨_, rfl, ?_⟩
  rw [cvr_c]; simp only [E.den, U.den, h1, DV.bool]; exact .bool
 ·obtain ⟨n, h1, rfl, h2⟩ := Rd.int_inv hc
  split at h
  ·injection h with h
   exact ⟨.int _ (IntKind.wrap _ (0 - n)), by simp [Op.unary, Op.intArith], arith_ok h (by simp only [E.den, O.den, h1, DV.int]) hn⟩
  ·cases h
   refine ⟨_, by simp [Op.unary, Op.intBits]; rfl, ?_⟩
   rw [cvr_c]; simp only [E.den, O.den, h1, DV.int]
   exact .int (wrap_in _ _)
  ·cases h
 ·cases h
theorem conv_ok (hT : T.Ok P) {src dst : TypeId} {c c' : CV} {v : Value} (h : symConv T src dst c = some c') (hc : CVr T m c v) : ∃ u, (convert src dst v).run P w = .ok u w ∧ CVr T m c' u := by
 unfold symConv at h
 split at h
 ·obtain ⟨n, h1, rfl, h2⟩ := Rd.int_inv hc
  split at h
  ·rename_i d k hs hd
   cases h
   refine ⟨.int k (k.wrap n), ?_, ?_⟩
   ·simp [convert, run_underlying (hT.und hs), run_underlying (hT.und hd), Conv.intToInt]
   ·rw [cvr_c]
    split
    ·rename_i hk
     rw [h1, wrap_id (by omega)]
     exact .int (by omega)
    ·simp only [E.den, U.den, h1, DV.int]
     exact .int (wrap_in _ _)
  ·cases h
 ·obtain ⟨s, h1, rfl, h2⟩ := Rd.str_inv hc
  split at h
  ·rename_i d hs hd
   cases h
   refine ⟨.string s, ?_, hc⟩
   simp only [convert, Sem.run_bind, run_underlying (hT.und hs), run_underlying (hT.und hd), Result.andThen_ok]
   cases d <;> rfl
  ·cases h
 ·cases h
theorem Rd.lst_inv {S : Nat → Prop} {el : TypeId} {d : DV} {v : Value} (h : Rd T w S (.lst el) d v) : ∃ rows a cap cks, d = .L rows ∧ v = .slice a rows.length cap ∧ T.cks el = some cks ∧ rows.length ≤ bL ∧ rows.length ≤ cap ∧ (rows ≠ [] → ∃ q o, a = some ⟨q, o, none⟩ ∧ S q) := by
 cases h with
 | lst u hk hn hc ha hr hm hd => exact ⟨_, _, _, _, rfl, rfl, hk, hn, hc, fun h => ⟨_, _, ha h⟩⟩
theorem i64_of {n : Nat} (h : n ≤ bL) : IntKind.i64.min ≤ (n : Int) ∧ (n : Int) ≤ IntKind.i64.max := by
 have h1 : IntKind.i64.min = -9223372036854775808 := rfl
 have h2 : IntKind.i64.max = 9223372036854775807 := rfl
 unfold bL at h
 omega
theorem len_ok (hT : T.Ok P) (hm : MOk T w0 S0 m) {t : TypeId} {ty : TypeId} {ts : Array TypeId} {s : SV} {v : Value} {e : E} (h : symLen m.h T t s = some e) (hs : SVr T m s v) (ht : ts[0]? = some t) :
  ∃ u, (Builtin.len_ ts ty #[v]).run P w = .ok u w ∧ CVr T m (.c (.int .i64) e) u := by
 have goN : ∀ (u : Value) (n : Nat), n ≤ bL → u = goInt n → e.den m.env = .I n → CVr T m (.c (.int .i64) e) u := fun u n h1 h2 h3 => by
  rw [cvr_c, h2, h3]; exact .int (i64_of h1)
 unfold symLen at h
 split at h
 ·split at h <;> cases h
  rename_i hu
  obtain ⟨x, h1, rfl, h2⟩ := Rd.str_inv hs
  refine ⟨goInt x.size, by simp [Builtin.len_, ht, run_underlying (hT.und hu)], goN _ x.size h2 rfl ?_⟩
  simp only [E.den, U.den, h1, DV.str]; rfl
 ·split at h <;> cases h
  rename_i hu
  obtain ⟨rows, a, cap, cks, h1, rfl, h2, h3, h4, h5⟩ := Rd.lst_inv hs
  refine ⟨goInt rows.length, by simp [Builtin.len_, ht, run_underlying (hT.und hu)], goN _ rows.length h3 rfl ?_⟩
  simp only [E.den, U.den, h1, DV.rows]
 ·split at h <;> cases h
  rename_i hu
  rw [show v = _ from hs]
  exact ⟨goInt 0, by simp [Builtin.len_, ht, run_underlying (hT.und hu)], goN _ 0 (by simp) rfl rfl⟩
 ·split at h <;> cases h
  rename_i hu hb
  rcases hs with hs | ⟨e', fz', rows, cap, h1, h2, h3⟩
  ·rw [hb] at hs; cases hs
  ·rw [hb] at h1; cases h1
   obtain ⟨rows', cks, k1, k2, k3, _⟩ : BlkR T m _ (.arr _ _ _) := by rw [← hb]; exact hm.blk _
   rw [h2] at k1; cases k1
   refine ⟨goInt rows.length, ?_, goN _ rows.length k3 rfl (by simp only [E.den, U.den, h2, DV.rows])⟩
   unfold SlR at h3
   split at h3
   ·obtain ⟨_, h4, rfl⟩ := h3; simp [Builtin.len_, ht, run_underlying (hT.und hu), h4]
   ·obtain ⟨_, _, _, rfl, _⟩ := h3; simp [Builtin.len_, ht, run_underlying (hT.und hu)]
 ·split at h <;> cases h
  rename_i hu hb
  rcases hs with hs | ⟨e', fz', cap, o, l, h1, h2, h3, h4, h5⟩
  ·rw [hb] at hs; cases hs
  ·refine ⟨goInt l, ?_, goN _ l h5 rfl h3⟩
   unfold SlR at h4
   split at h4
   ·obtain ⟨_, h6, rfl⟩ := h4; simp [Builtin.len_, ht, run_underlying (hT.und hu), h6]
   ·obtain ⟨_, _, _, rfl, _⟩ := h4; simp [Builtin.len_, ht, run_underlying (hT.und hu)]
 ·split at h
  ·rename_i hu
   split at h <;> cases h
   rename_i n _ hn
   exact ⟨goInt n, by simp [Builtin.len_, ht, run_underlying (hT.und hu)], goN _ n hn rfl rfl⟩
  ·cases h
 ·split at h
  ·rename_i hu
   split at h <;> cases h
   rename_i n _ hn
   exact ⟨goInt n, by simp [Builtin.len_, ht, run_underlying (hT.und hu)], goN _ n hn rfl rfl⟩
  ·cases h
 ·cases h
theorem onesOf_ok : ∀ {ss : List SV} {cs : List CV} {vs : List Value}, onesOf ss = some cs → vs.length = ss.length → (∀ (j : Nat) s v, ss[j]? = some s → vs[j]? = some v → SVr T m s v) → vs.length = cs.length ∧ ∀ (j : Nat) c v, cs[j]? = some c → vs[j]? = some v → CVr T m c v
 | [], cs, vs, h, hl, _ => by cases h; exact ⟨hl, fun j c v hj => by cases hj⟩
 | .one c :: r, cs, [], h, hl, _ => by cases hl
 | .one c :: r, cs, v :: vs, h, hl, hr => by
  unfold onesOf at h
  cases hx : onesOf r with
  | none => rw [hx] at h; cases h
  | some cs' =>
   rw [hx] at h
   cases h
   obtain ⟨h1, h2⟩ := onesOf_ok hx (by simpa using hl) (fun j s v hs hv => hr (j + 1) s v hs hv)
   refine ⟨by simp [h1], fun j c' v' hc hv => ?_⟩
   cases j with
   | zero => cases hc; cases hv; exact hr 0 _ _ rfl rfl
   | succ j => exact h2 j c' v' hc hv
 | .agg _ :: _, _, _, h, _, _ => by cases h
 | .tup _ :: _, _, _, h, _, _ => by cases h
theorem mm_ok (o : Bool) : ∀ {cs : List CV} {c c' : CV} {v : Value} {vs : List Value}, mmE o c cs = some c' → CVr T m c v → vs.length = cs.length → (∀ (j : Nat) c v, cs[j]? = some c → vs[j]? = some v → CVr T m c v) →
  ∃ u, (vs.foldlM (if o then Builtin.max2 else Builtin.min2) v).run P w = .ok u w ∧ CVr T m c' u
 | [], c, c', v, vs, h, hc, hl, _ => by
  cases vs with
  | cons x y => cases hl
  | nil =>
   unfold mmE at h
   split at h
   ·cases h; exact ⟨v, rfl, hc⟩
   ·rename_i hx; cases hx
   ·cases h
 | d :: cs, c, c', v, [], h, hc, hl, _ => by cases hl
 | d :: cs, c, c', v, y :: vs, h, hc, hl, hr => by
  unfold mmE at h
  split at h
  ·rename_i hx; cases hx
  ·rename_i k a k' b r hx
   cases hx
   split at h
   ·rename_i hk
    subst hk
    obtain ⟨n1, e1, rfl, r1⟩ := Rd.int_inv hc
    obtain ⟨n2, e2, rfl, r2⟩ := Rd.int_inv (hr 0 _ _ rfl rfl)
    cases o with
    | true =>
     obtain ⟨u, hu, hcu⟩ := mm_ok true (v := .int k (if n2 > n1 then n2 else n1)) h (by
       rw [cvr_c]; simp only [E.den, O.den, e1, e2, DV.int, if_true]
       refine .int ?_; by_cases q : n2 > n1 <;> simp only [q, if_true, if_false] <;> assumption) (by simpa using hl) (fun j c v hc hv => hr (j + 1) c v hc hv)
     exact ⟨u, by simpa [List.foldlM_cons, Builtin.max2] using hu, hcu⟩
    | false =>
     obtain ⟨u, hu, hcu⟩ := mm_ok false (v := .int k (if n2 < n1 then n2 else n1)) h (by
       rw [cvr_c]; simp only [E.den, O.den, e1, e2, DV.int]
       refine .int ?_; by_cases q : n2 < n1 <;> simp only [q, if_true, if_false] <;> assumption) (by simpa using hl) (fun j c v hc hv => hr (j + 1) c v hc hv)
     exact ⟨u, by simpa [List.foldlM_cons, Builtin.min2] using hu, hcu⟩
   ·cases h
  ·cases h
end
section
variable {P : Program} {T : Tab} {m m' : Mem} {w0 : W0} {S0 : Nat → Prop} {w : World}
theorem within_ok {env : List DV} {i n : E} {k : Int} {l : Nat} {ns : List E} (hi : i.den env = .I k) (hl : n.den env = .I l) (h : needsOk env (within i n ++ ns)) : ∃ j : Nat, k = j ∧ j < l := by
 have := h _ (List.mem_append.2 (.inl (List.mem_singleton.2 rfl)))
 simp only [E.den, O.den, hi, hl, DV.int, DV.bool, Bool.and_eq_true, decide_eq_true_eq] at this
 exact ⟨k.toNat, by omega, by omega⟩
theorem SlR.get {b : Nat} {el : TypeId} {off len cap : Nat} {v : Value} {i : Nat} (h : SlR T m b el off len cap v) (hi : i < len) : ∃ q base cs sz, m.ρ b = some (q, base, cs) ∧ T.size el = some sz ∧ v = .slice (some ⟨q, base + off * sz, none⟩) len cap := by
 unfold SlR at h
 split at h
 ·omega
 ·rename_i q base cs hρ
  obtain ⟨sz, ad, h1, rfl, h2, h3, h4⟩ := h
  refine ⟨q, base, cs, sz, hρ, h1, ?_⟩
  rw [h2 (by omega)]
theorem indexAddr_ok (hT : T.Ok P) (hm : MOk T w0 S0 m) {t : TypeId} {x i val : SV} {vx vi : Value} {ns : List E} (h : symIndexAddr T m.h t x i = some (ns, val)) (hx : SVr T m x vx) (hi : SVr T m i vi) (hn : needsOk m.env ns) :
  ∃ u, (Instr.indexAt t vx vi).run P w = .ok u w ∧ SVr T m val u := by
 unfold symIndexAddr at h
 split at h
 case h_2 => cases h
 rename_i k ie
 obtain ⟨n, e1, rfl, _⟩ := Rd.int_inv (show CVr T m (.c (.int k) ie) vi from hi)
 -- a slice's element
 have run : ∀ (el : TypeId) (sz : Nat) (ad : Addr) (len cap j : Nat), T.und t = some (.slice el) → T.size el = some sz → j < len → n = j → (Instr.indexAt t (.slice (some ad) len cap) (.int k n)).run P w = .ok (.pointer (some (ad.add (j * sz)))) w := fun el sz ad len cap j hu hs hj hnj => by
  subst hnj
  simp [Instr.indexAt, asIntOf, run_underlying (hT.und hu), hj, run_size hT hs]
 split at h
 ·rename_i el el' l hu
  split at h
  case isFalse => cases h
  rename_i he
  subst he
  cases h
  obtain ⟨rows, a, cap, cks, h1, rfl, h2, h3, h4, h5⟩ := Rd.lst_inv (show CVr T m (.c (.lst el) l) vx from hx)
  obtain ⟨j, rfl, hj⟩ := within_ok (n := .U .len l) (l := rows.length) (ns := []) e1 (by simp only [E.den, U.den, h1, DV.rows]) (by simpa using hn)
  obtain ⟨q, o, rfl, hq⟩ := h5 (fun e => by rw [e] at hj; cases hj)
  have hsz := (Tab.cks_size h2).1
  refine ⟨_, run el _ _ _ _ j hu hsz hj rfl, rows, cap, cks, q, o, j, h1, ?_, e1, hj, h2, by rw [add_lit]; rfl⟩
  have := hx
  rw [show SVr T m (.one (.c (.lst el) l)) _ = Rd T m.w m.S (.lst el) (l.den m.env) _ from rfl, h1] at this
  exact this
 ·rename_i el b el' hu
  split at h
  case h_2 => cases h
  rename_i el'' e fz hb
  split at h
  case isFalse => cases h
  rename_i he
  obtain ⟨rfl, rfl⟩ := he
  cases h
  rcases hx with hx | ⟨e', fz', rows, cap, h1, h2, h3⟩
  ·rw [hb] at hx; cases hx
  rw [hb] at h1; cases h1
  obtain ⟨j, rfl, hj⟩ := within_ok (n := .U .len e) (l := rows.length) (ns := []) e1 (by simp only [E.den, U.den, h2, DV.rows]) (by simpa using hn)
  obtain ⟨q, base, cs, sz, g1, g2, rfl⟩ := h3.get hj
  refine ⟨_, run el _ _ _ _ j hu g2 hj rfl, .inr ⟨e, fz, rows, sz, q, base, cs, j, hb, g1, e1, h2, hj, g2, by rw [add_lit]; simp⟩⟩
 ·rename_i el b el' off len hu
  split at h
  case h_2 => cases h
  rename_i el'' e fz hb
  split at h
  case isFalse => cases h
  rename_i he
  obtain ⟨rfl, rfl⟩ := he
  cases h
  rcases hx with hx | ⟨e', fz', cap, o, l, h1, h2, h3, h4, h5⟩
  ·rw [hb] at hx; cases hx
  rw [hb] at h1; cases h1
  obtain ⟨rows, cks, k1, k2, k3, _⟩ := hb ▸ hm.blk b
  obtain ⟨j, rfl, hj⟩ := within_ok (l := l) e1 h3 hn
  have hlt := hn _ (List.mem_append.2 (.inr (List.mem_singleton.2 rfl)))
  simp only [E.den, O.den, U.den, h2, e1, k1, DV.int, DV.rows, DV.bool, decide_eq_true_eq] at hlt
  obtain ⟨q, base, cs, sz, g1, g2, rfl⟩ := h4.get hj
  refine ⟨_, run el _ _ _ _ j hu g2 hj rfl, .inr ⟨e, fz, rows, sz, q, base, cs, o + j, hb, g1, ?_, k1, by omega, g2, by rw [add_lit, Nat.add_mul]; simp [Nat.add_assoc]⟩⟩
  simp only [E.den, O.den, h2, e1, DV.int]
  rfl
 ·rename_i cnt el b off hu
  cases hs : T.size el with
  | none => rw [hs] at h; cases h
  | some sz =>
  rw [hs] at h
  simp only [Option.bind_eq_bind, Option.bind_some] at h
  split at h
  case h_2 => cases h
  split at h
  case isFalse => cases h
  rename_i kk hkk
  cases h
  simp only [E.den] at e1
  cases e1
  rcases hx with hx | ⟨l, q, cs, h1, h2, rfl⟩
  ·exact absurd hx hkk.2.2
  ·refine ⟨_, ?_, .inr ⟨l, q, cs, h1, h2, rfl⟩⟩
   simp [Instr.indexAt, asIntOf, run_underlying (hT.und hu), Instr.sureAddr, hkk.1, hkk.2.1, run_size hT hs, add_lit]
 ·cases h
theorem index_ok (hT : T.Ok P) {t : TypeId} {x i val : SV} {vx vi : Value} {ns : List E} (h : symIndex T t x i = some (ns, val)) (hx : SVr T m x vx) (hi : SVr T m i vi) (hn : needsOk m.env ns) :
  ∃ u, (Instr.index t vx vi).run P w = .ok u w ∧ SVr T m val u := by
 unfold symIndex at h
 split at h
 case h_2 => cases h
 rename_i k ie
 obtain ⟨n, e1, rfl, _⟩ := Rd.int_inv (show CVr T m (.c (.int k) ie) vi from hi)
 split at h
 ·rename_i s hu
  cases h
  obtain ⟨b, h1, rfl, h2⟩ := Rd.str_inv (show CVr T m (.c .str s) vx from hx)
  have hz : b.data.toList.length = b.size := rfl
  obtain ⟨j, rfl, hj⟩ := within_ok (n := .U .slen s) (l := b.data.toList.length) (ns := []) e1 (by simp only [E.den, U.den, h1, DV.str]) (by simpa using hn)
  have hg : b[j]? = some b[j] := by simp [hz ▸ hj]
  refine ⟨.int .u8 b[j].toNat, ?_, ?_⟩
  ·simp [Instr.index, asIntOf, run_underlying (hT.und hu), hg]
  ·show Rd T m.w m.S (.int .u8) _ _
   have hd : (E.O .sat s ie).den m.env = .I b[j].toNat := by
    simp only [E.den, O.den, h1, e1, DV.str, DV.int]
    congr 2
    have hjs : j < b.data.size := hj
    simp [List.getD_eq_getElem?_getD, Array.getElem?_eq_getElem hjs]
    rfl
   rw [hd]
   refine .int ⟨by have : IntKind.u8.min = 0 := rfl; omega, ?_⟩
   have := b[j].toNat_lt
   have : IntKind.u8.max = 255 := rfl
   omega
 ·rename_i cnt el cs hu
  cases hs : T.size el with
  | none => rw [hs] at h; cases h
  | some sz =>
  rw [hs] at h
  simp only [Option.bind_eq_bind, Option.bind_some] at h
  split at h
  case h_2 => cases h
  split at h
  case isFalse => cases h
  rename_i kk hkk
  simp only [E.den] at e1
  cases e1
  cases hp : pickT T el (cs.drop (n.toNat * sz)) with
  | none => rw [hp] at h; cases h
  | some s' =>
  rw [hp] at h
  cases h
  obtain ⟨a, rfl, hc⟩ := hx
  obtain ⟨u, hu2, h5⟩ := part_ok (P := P) (w := w) hT hp hc
  refine ⟨u, ?_, h5⟩
  simp [Instr.index, asIntOf, run_underlying (hT.und hu), hkk, run_size hT hs, hu2]
 ·cases h
end
section
variable {P : Program} {T : Tab} {m m' : Mem} {w0 : W0} {S0 : Nat → Prop} {w : World}
def OptR (T : Tab) (m : Mem) : Option SV → Option Value → Prop
  | none, none => True
  | some s, some v => SVr T m s v
  | _, _ => False
theorem boundE_ok {lo : Option SV} {lv : Option Value} {d e : E} (h : boundE lo d = some e) (hr : OptR T m lo lv) : (lv = none ∧ e = d) ∨ ∃ k n, lv = some (.int k n) ∧ e.den m.env = .I n := by
  unfold boundE at h
  split at h
  · cases h
    cases lv with
    | none => exact .inl ⟨rfl, rfl⟩
    | some v => exact hr.elim
  · cases h
    rename_i k
    cases lv with
    | none => exact hr.elim
    | some v =>
      obtain ⟨n, h1, rfl, _⟩ := Rd.int_inv (show CVr T m (.c (.int k) e) v from hr)
      exact .inr ⟨k, n, rfl, h1⟩
  · cases h
theorem bounds_run (x : Bool) (len cap a b : Nat) (lv hv : Option Value) (hl : (lv = none ∧ a = 0) ∨ ∃ k, lv = some (.int k a)) (hh : (hv = none ∧ b = len) ∨ ∃ k, hv = some (.int k b)) (h1 : a ≤ b) (h2 : b ≤ cap) :
    (Instr.sliceBounds x len cap lv hv none).run P w = .ok (a, b, cap) w := by
  have h1' : (a : Int) ≤ b := by omega
  have h2' : (b : Int) ≤ cap := by omega
  rcases hl with ⟨rfl, rfl⟩ | ⟨k, rfl⟩ <;> rcases hh with ⟨rfl, rfl⟩ | ⟨k', rfl⟩ <;> simp [Instr.sliceBounds, Instr.sliceBound, asIntOf, h1, h2, h1', h2']
theorem within3 {env : List DV} {a b n : E} {l : Nat} {ka kb : Int} (ha : a.den env = .I ka) (hb : b.den env = .I kb) (hl : n.den env = .I l) (h : needsOk env [.O .and (.O .le (.I 0) a) (.O .and (.O .le a b) (.O .le b n))]) :
    ∃ i j : Nat, ka = i ∧ kb = j ∧ i ≤ j ∧ j ≤ l := by
  have := h _ (List.mem_singleton.2 rfl)
  simp only [E.den, O.den, ha, hb, hl, DV.int, DV.bool, Bool.and_eq_true, decide_eq_true_eq] at this
  exact ⟨ka.toNat, kb.toNat, by omega, by omega, by omega, by omega⟩
theorem ends_ok {lo hi : Option SV} {lv hv : Option Value} {a b n : E} {l : Nat} (ha : boundE lo (.I 0) = some a) (hb : boundE hi n = some b) (hl : n.den m.env = .I l) (r1 : OptR T m lo lv) (r2 : OptR T m hi hv)
    (hn : needsOk m.env [.O .and (.O .le (.I 0) a) (.O .and (.O .le a b) (.O .le b n))]) :
    ∃ i j : Nat, a.den m.env = .I i ∧ b.den m.env = .I j ∧ i ≤ j ∧ j ≤ l ∧ ((lv = none ∧ i = 0) ∨ ∃ k, lv = some (.int k i)) ∧ ((hv = none ∧ j = l) ∨ ∃ k, hv = some (.int k j)) := by
  rcases boundE_ok ha r1 with ⟨e1, rfl⟩ | ⟨k1, n1, e1, d1⟩ <;> rcases boundE_ok hb r2 with ⟨e2, rfl⟩ | ⟨k2, n2, e2, d2⟩
  · obtain ⟨i, j, g1, g2, g3, g4⟩ := within3 (by rfl) hl hl hn
    exact ⟨i, j, by rw [← g1]; rfl, by rw [← g2]; exact hl, g3, g4, .inl ⟨e1, by omega⟩, .inl ⟨e2, by omega⟩⟩
  · obtain ⟨i, j, g1, g2, g3, g4⟩ := within3 (by rfl) d2 hl hn
    exact ⟨i, j, by rw [← g1]; rfl, by rw [← g2]; exact d2, g3, g4, .inl ⟨e1, by omega⟩, .inr ⟨k2, by rw [← g2]; exact e2⟩⟩
  · obtain ⟨i, j, g1, g2, g3, g4⟩ := within3 d1 hl hl hn
    exact ⟨i, j, by rw [← g1]; exact d1, by rw [← g2]; exact hl, g3, g4, .inr ⟨k1, by rw [← g1]; exact e1⟩, .inl ⟨e2, by omega⟩⟩
  · obtain ⟨i, j, g1, g2, g3, g4⟩ := within3 d1 d2 hl hn
    exact ⟨i, j, by rw [← g1]; exact d1, by rw [← g2]; exact d2, g3, g4, .inr ⟨k1, by rw [← g1]; exact e1⟩, .inr ⟨k2, by rw [← g2]; exact e2⟩⟩
theorem slice_run (hT : T.Ok P) {t el : TypeId} {sz len cap i j : Nat} {a : Option Addr} {lv hv : Option Value} (hu : T.und t = some (.slice el)) (hs : T.size el = some sz) (h1 : i ≤ j) (h2 : j ≤ cap)
    (hl : (lv = none ∧ i = 0) ∨ ∃ k, lv = some (.int k i)) (hh : (hv = none ∧ j = len) ∨ ∃ k, hv = some (.int k j)) :
    (Instr.sliceAt t (.slice a len cap) lv hv none).run P w = .ok (.slice (if cap = i then a else a.map (·.add (i * sz))) (j - i) (cap - i)) w := by
  simp [Instr.sliceAt, Instr.slice, run_underlying (hT.und hu), bounds_run true len cap i j lv hv hl hh h1 h2, run_size hT hs]
theorem Rd.lst_all {S : Nat → Prop} {el : TypeId} {rows : List (List DV)} {a : Option Addr} {len cap : Nat} (h : Rd T w S (.lst el) (.L rows) (.slice a len cap)) : ∃ (cks : List CK) (q o : Nat) (u : Nat → Nat → Value), len = rows.length ∧ T.cks el = some cks ∧ rows.length ≤ bL ∧ rows.length ≤ cap ∧ (rows ≠ [] → a = some ⟨q, o, none⟩ ∧ S q) ∧ (∀ r ∈ rows, r.length = cks.length) ∧
    (∀ i j, i < rows.length → j < cks.length → w.cell? ⟨q, o + (i * cks.length + j), none⟩ = some (u i j)) ∧ (∀ (i j : Nat) r d k, rows[i]? = some r → r[j]? = some d → cks[j]? = some k → Rd T w S k d (u i j)) := by
  cases h with
  | lst u hk hn hc ha hr hm hd => exact ⟨_, _, _, u, rfl, hk, hn, hc, ha, hr, hm, hd⟩
theorem Rd.part {S : Nat → Prop} {el : TypeId} {rows : List (List DV)} {a : Option Addr} {cap i j sz : Nat} (h : Rd T w S (.lst el) (.L rows) (.slice a rows.length cap)) (hs : T.size el = some sz) (h1 : i ≤ j) (h2 : j ≤ rows.length) :
    Rd T w S (.lst el) (.L ((rows.drop i).take (j - i))) (.slice (if cap = i then a else a.map (·.add (i * sz))) (j - i) (cap - i)) := by
  obtain ⟨cks, q, o, u, _, hk, hn, hc, ha, hr, hm, hd⟩ := h.lst_all
  · obtain rfl := size_cks hs hk
    have hlen : ((rows.drop i).take (j - i)).length = j - i := by simp; omega
    have hget : ∀ k, k < j - i → ((rows.drop i).take (j - i))[k]? = rows[i + k]? := fun k hk => by rw [List.getElem?_take, if_pos hk, List.getElem?_drop]
    have := Rd.lst (T := T) (w := w) (S := S) (e := el) (rows := (rows.drop i).take (j - i)) (a := if cap = i then a else a.map (·.add (i * cks.length))) (cap := cap - i) (cks := cks) (q := q) (o := o + i * cks.length) (fun k l => u (i + k) l) hk (by omega) (by omega)
      (fun hne => by
        have hij : i < j := by
          rcases Nat.lt_or_ge i j with h | h
          · exact h
          · exact absurd (List.eq_nil_of_length_eq_zero (by omega)) hne
        obtain ⟨e1, e2⟩ := ha (fun e => by rw [e] at h2; simp at h2; omega)
        refine ⟨?_, e2⟩
        rw [if_neg (by omega), e1]
        simp [add_lit])
      (fun r hr' => hr r (List.mem_of_mem_drop (List.mem_of_mem_take hr')))
      (fun k l hk hl' => by
        rw [← hm (i + k) l (by omega) hl']
        congr 2
        rw [Nat.add_mul]; omega)
      (fun k l r d c hk hd' hc' => by
        have hki : k < j - i := by rw [← hlen]; exact (List.getElem?_eq_some_iff.1 hk).1
        rw [hget k hki] at hk
        exact hd (i + k) l r d c hk hd' hc')
    rw [hlen] at this
    exact this
theorem slice_ok (hT : T.Ok P) (hm : MOk T w0 S0 m) {t : TypeId} {x val : SV} {lo hi : Option SV} {vx : Value} {lv hv : Option Value} {ns : List E} (h : symSlice T m.h t x lo hi = some (ns, val)) (hx : SVr T m x vx)
    (r1 : OptR T m lo lv) (r2 : OptR T m hi hv) (hn : needsOk m.env ns) : ∃ u, (Instr.sliceAt t vx lv hv none).run P w = .ok u w ∧ SVr T m val u := by
  unfold symSlice at h
  split at h
  · rename_i el el' l hu
    cases ha : boundE lo (.I 0) with
    | none => rw [ha] at h; cases h
    | some a =>
    cases hb : boundE hi (.U .len l) with
    | none => rw [ha, hb] at h; cases h
    | some b =>
    rw [ha, hb] at h
    simp only [Option.bind_eq_bind, Option.bind_some] at h
    split at h
    case isFalse => cases h
    rename_i he
    subst he
    cases h
    obtain ⟨rows, ad, cap, cks, h1, rfl, h2, h3, h4, h5⟩ := Rd.lst_inv (show CVr T m (.c (.lst el) l) vx from hx)
    obtain ⟨i, j, e1, e2, e3, e4, e5, e6⟩ := ends_ok (l := rows.length) ha hb (by simp only [E.den, U.den, h1, DV.rows]) r1 r2 hn
    have hsz := (Tab.cks_size h2).1
    refine ⟨_, slice_run hT hu hsz e3 (by omega) e5 e6, ?_⟩
    show Rd T m.w m.S (.lst el) _ _
    have hd : (E.O .tk (.O .dr l a) (.O .sub b a)).den m.env = .L ((rows.drop i).take (j - i)) := by
      simp only [E.den, O.den, h1, e1, e2, DV.rows, DV.int]
      congr 2
      omega
    rw [hd]
    have hx' : Rd T m.w m.S (.lst el) (l.den m.env) (.slice ad rows.length cap) := hx
    rw [h1] at hx'
    exact hx'.part hsz e3 e4
  · rename_i el b' el' hu
    split at h
    case h_2 => cases h
    rename_i el'' e fz hbk
    cases ha : boundE lo (.I 0) with
    | none => rw [ha] at h; cases h
    | some a =>
    cases hb : boundE hi (.U .len e) with
    | none => rw [ha, hb] at h; cases h
    | some b =>
    rw [ha, hb] at h
    simp only [Option.bind_eq_bind, Option.bind_some] at h
    split at h
    case isFalse => cases h
    rename_i he
    obtain ⟨rfl, rfl⟩ := he
    cases h
    rcases hx with hx | ⟨e', fz', rows, cap, h1, h2, h3⟩
    · rw [hbk] at hx; cases hx
    rw [hbk] at h1; cases h1
    obtain ⟨rows', cks, k1, k2, k3, _⟩ := hbk ▸ hm.blk b'
    rw [h2] at k1; cases k1
    obtain ⟨i, j, e1, e2, e3, e4, e5, e6⟩ := ends_ok (l := rows.length) ha hb (by simp only [E.den, U.den, h2, DV.rows]) r1 r2 hn
    have hsz := (Tab.cks_size k2).1
    have hd : (E.O .sub b a).den m.env = .I ((j - i : Nat) : Int) := by
      simp only [E.den, O.den, e1, e2, DV.int]; congr 1; omega
    unfold SlR at h3
    split at h3
    · rename_i hρ
      obtain ⟨_, h4, rfl⟩ := h3
      obtain ⟨rfl, rfl⟩ : i = 0 ∧ j = 0 := ⟨by omega, by omega⟩
      refine ⟨_, slice_run hT hu hsz (by omega) (by omega) e5 (by rcases e6 with ⟨g1, g2⟩ | g; · exact .inl ⟨g1, rfl⟩
                                                                  · exact .inr g), .inr ⟨e, fz, 0, 0, 0, hbk, e1, hd, ?_, by simp⟩⟩
      unfold SlR
      rw [hρ]
      simp
    · rename_i q base cs hρ
      obtain ⟨sz, ad, g1, rfl, g2, g3, g4⟩ := h3
      rw [hsz] at g1; cases g1
      refine ⟨_, slice_run hT hu hsz e3 (by omega) e5 e6, .inr ⟨e, fz, cap - i, i, j - i, hbk, e1, hd, ?_, by omega⟩⟩
      unfold SlR
      rw [hρ]
      by_cases hc : cap = i
      · rw [if_pos hc]
        exact ⟨_, ad, hsz, rfl, fun h => absurd (by omega) h, by omega, by rw [show i + (cap - i) = cap by omega]; simpa using g4⟩
      · rw [if_neg hc, g2 (by omega)]
        refine ⟨_, _, hsz, rfl, fun _ => ?_, by omega, by rw [show i + (cap - i) = cap by omega]; simpa using g4⟩
        show (⟨_, _, none⟩ : Addr).add _ = _
        rw [add_lit]; simp
  · rename_i el b' el' off len hu
    split at h
    case h_2 => cases h
    rename_i el'' e fz hbk
    cases ha : boundE lo (.I 0) with
    | none => rw [ha] at h; cases h
    | some a =>
    cases hb : boundE hi len with
    | none => rw [ha, hb] at h; cases h
    | some b =>
    rw [ha, hb] at h
    simp only [Option.bind_eq_bind, Option.bind_some] at h
    split at h
    case isFalse => cases h
    rename_i he
    obtain ⟨rfl, rfl⟩ := he
    cases h
    rcases hx with hx | ⟨e', fz', cap, o, l, h1, h2, h2', h3, h4⟩
    · rw [hbk] at hx; cases hx
    obtain ⟨rows', cks, k1, k2, k3, _⟩ := hbk ▸ hm.blk b'
    obtain ⟨i, j, e1, e2, e3, e4, e5, e6⟩ := ends_ok (l := l) ha hb h2' r1 r2 hn
    have hsz := (Tab.cks_size k2).1
    have hd : (E.O .sub b a).den m.env = .I ((j - i : Nat) : Int) := by
      simp only [E.den, O.den, e1, e2, DV.int]; congr 1; omega
    have ho : (E.O .add off a).den m.env = .I ((o + i : Nat) : Int) := by
      simp only [E.den, O.den, e1, h2, DV.int]; rfl
    unfold SlR at h3
    split at h3
    · rename_i hρ
      obtain ⟨h6, h5, rfl⟩ := h3
      obtain ⟨rfl, rfl⟩ : i = 0 ∧ j = 0 := ⟨by omega, by omega⟩
      refine ⟨_, slice_run hT hu hsz (by omega) (by omega) e5 (by rcases e6 with ⟨g1, g2⟩ | g; · exact .inl ⟨g1, rfl⟩
                                                                  · exact .inr g), .inr ⟨e, fz, 0, o + 0, 0, hbk, ho, hd, ?_, by simp⟩⟩
      unfold SlR
      rw [hρ]
      simp [h6]
    · rename_i q base cs hρ
      obtain ⟨sz, ad, g1, rfl, g2, g3, g4⟩ := h3
      rw [hsz] at g1; cases g1
      refine ⟨_, slice_run hT hu hsz e3 (by omega) e5 e6, .inr ⟨e, fz, cap - i, o + i, j - i, hbk, ho, hd, ?_, by omega⟩⟩
      unfold SlR
      rw [hρ]
      by_cases hc : cap = i
      · rw [if_pos hc]
        exact ⟨_, ad, hsz, rfl, fun h => absurd (by omega) h, by omega, by rw [show o + i + (cap - i) = o + cap by omega]; exact g4⟩
      · rw [if_neg hc, g2 (by omega)]
        refine ⟨_, _, hsz, rfl, fun _ => ?_, by omega, by rw [show o + i + (cap - i) = o + cap by omega]; exact g4⟩
        show (⟨_, _, none⟩ : Addr).add _ = _
        rw [add_lit, Nat.add_mul]; simp [Nat.add_assoc]
  · rename_i s hu
    cases ha : boundE lo (.I 0) with
    | none => rw [ha] at h; cases h
    | some a =>
    cases hb : boundE hi (.U .slen s) with
    | none => rw [ha, hb] at h; cases h
    | some b =>
    rw [ha, hb] at h
    simp only [Option.bind_eq_bind, Option.bind_some] at h
    cases h
    obtain ⟨x, h1, rfl, h2⟩ := Rd.str_inv (show CVr T m (.c .str s) vx from hx)
    have hz : x.data.toList.length = x.size := rfl
    obtain ⟨i, j, e1, e2, e3, e4, e5, e6⟩ := ends_ok (l := x.size) ha hb (by simp only [E.den, U.den, h1, DV.str, hz]) r1 r2 hn
    refine ⟨.string (x.extract i j), ?_, ?_⟩
    · simp [Instr.sliceAt, Instr.slice, run_underlying (hT.und hu), bounds_run false x.size x.size i j lv hv e5 e6 e3 e4]
    · show Rd T m.w m.S .str _ _
      have hd : (E.O .sdr (.O .stk s b) a).den m.env = .S (x.extract i j).data.toList := by
        simp only [E.den, O.den, h1, e1, e2, DV.str, DV.int]
        congr 1
        simp [ByteArray.data_extract, List.drop_take, List.extract]
      rw [hd]
      exact .str (by simp; omega)
  · cases h
end
section
variable {P : Program} {T : Tab} {m m' : Mem} {w0 : W0} {S0 : Nat → Prop} {w : World}
theorem growBy_le (n : Nat) : ∀ (r c : Nat), c ≤ n + (n + 768) / 4 → Builtin.growBy n r c ≤ n + (n + 768) / 4
 | 0, c, h => h
 | r + 1, c, h => by
  unfold Builtin.growBy
  split
  ·exact h
  ·exact growBy_le n r _ (by omega)
theorem nextcap_le {n c : Nat} (h : c < n) : Builtin.nextslicecap n c ≤ 2 * n + 512 := by
 unfold Builtin.nextslicecap
 split
 ·omega
 ·split
  ·omega
  ·have := growBy_le n 4 c (by omega)
   omega
structure Src (P : Program) (T : Tab) (m : Mem) (cks : List CK) (v : Value) (rows : List (List DV)) (xs : List Value) : Prop where
 len : ∀ w : World, (Builtin.lenOf v).run P w = .ok rows.length w
 first : ∀ w : World, w.heap = m.w.heap → (Builtin.firstCells cks.length rows.length v).run P w = .ok xs.toArray w
 xl : xs.length = rows.length * cks.length
 one : ∀ x ∈ xs, x.oneCell' = true
 rl : ∀ r ∈ rows, r.length = cks.length
 get : ∀ (i j : Nat) r d k, rows[i]? = some r → r[j]? = some d → cks[j]? = some k → ∃ u, xs[i * cks.length + j]? = some u ∧ Rd T m.w m.S k d u
theorem flat_get {α : Type} (u : Nat → Nat → α) {n sz i j : Nat} (hi : i < n) (hj : j < sz) : ((List.range (n * sz)).map fun k => u (k / sz) (k % sz))[i * sz + j]? = some (u i j) := by
 have h1 : i * sz + j < n * sz := by
  have : (i + 1) * sz ≤ n * sz := Nat.mul_le_mul_right _ hi
  rw [Nat.add_mul] at this; omega
 rw [List.getElem?_map, List.getElem?_range h1]
 simp only [Option.map_some]
 rw [show i * sz + j = j + sz * i by rw [Nat.mul_comm]; omega, Nat.add_mul_div_left _ _ (by omega), Nat.div_eq_of_lt hj, Nat.add_mul_mod_self_left, Nat.mod_eq_of_lt hj]
 simp
theorem src_list {el : TypeId} {rows : List (List DV)} {v : Value} {cks : List CK} (hk : T.cks el = some cks) (h : Rd T m.w m.S (.lst el) (.L rows) v) : ∃ xs, Src P T m cks v rows xs := by
 obtain ⟨rows', a, cap, cks', e1, rfl, _⟩ := Rd.lst_inv h
 cases e1
 obtain ⟨cks', q, o, u, _, hk', hn, hc, ha, hr, hm, hd⟩ := h.lst_all
 rw [hk] at hk'; cases hk'
 have hone : ∀ i j, i < rows.length → j < cks.length → (u i j).oneCell' = true := fun i j hi hj => by
  have h1 := hr rows[i] (List.getElem_mem hi)
  exact (hd i j rows[i] (rows[i][j]'(by omega)) cks[j] (List.getElem?_eq_getElem hi) (List.getElem?_eq_getElem (by omega)) (List.getElem?_eq_getElem hj)).one
 have hpos := (Tab.cks_size hk).2
 have hdiv : ∀ k, k < rows.length * cks.length → k / cks.length < rows.length ∧ k % cks.length < cks.length := fun k hk => ⟨Nat.div_lt_of_lt_mul (by rw [Nat.mul_comm]; exact hk), Nat.mod_lt _ hpos⟩
 refine ⟨(List.range (rows.length * cks.length)).map fun k => u (k / cks.length) (k % cks.length), fun w => rfl, fun w hw => ?_, by simp, fun x hx => ?_, hr, fun i j r d k hi hj hkk => ?_⟩
 ·by_cases hne : rows = []
  ·subst hne
   cases a with
   | none => simp [Builtin.firstCells]
   | some a => simp [Builtin.firstCells, loadCells, loadCellsFrom]
  ·obtain ⟨rfl, _⟩ := ha hne
   exact run_firstCells_some (P := P) w cks.length rows.length ⟨q, o, none⟩ rows.length cap _ (by simp) (fun k v hk => by
     rw [add_lit]
     rw [List.getElem?_map] at hk
     by_cases hkl : k < rows.length * cks.length
     · rw [List.getElem?_range hkl] at hk
       simp at hk
       subst hk
       obtain ⟨g1, g2⟩ := hdiv k hkl
       rw [← hm _ _ g1 g2]
       have e : k / cks.length * cks.length + k % cks.length = k := by rw [Nat.mul_comm]; exact Nat.div_add_mod k cks.length
       rw [e]
       simp only [World.cell?, hw]
     · rw [List.getElem?_eq_none (by simp; omega)] at hk; cases hk)
 ·obtain ⟨k, hk, rfl⟩ := List.mem_map.1 hx
  obtain ⟨g1, g2⟩ := hdiv k (List.mem_range.1 hk)
  exact hone _ _ g1 g2
 ·exact ⟨u i j, flat_get u (List.getElem?_eq_some_iff.1 hi).1 (List.getElem?_eq_some_iff.1 hkk).1, hd i j r d k hi hj hkk⟩
theorem src_str {s : ByteArray} : Src P T m [.int .u8] (.string s) (ofBytes s.data.toList) (s.data.toList.map fun b => .int .u8 b.toNat) := by
 have hl : (ofBytes s.data.toList).length = s.size := by simp [ofBytes]
 refine ⟨fun w => by rw [hl]; rfl, fun w _ => ?_, by simp [ofBytes], fun x hx => ?_, fun r hr => ?_, fun i j r d k hi hj hk => ?_⟩
 ·rw [hl]
  simp only [Builtin.firstCells, Sem.run_pure]
  congr 1
  rw [ByteArray.extract_zero_size]
  apply Array.ext'
  simp
 ·obtain ⟨b, _, rfl⟩ := List.mem_map.1 hx; rfl
 ·obtain ⟨b, _, rfl⟩ := List.mem_map.1 hr; rfl
 ·unfold ofBytes at hi
  rw [List.getElem?_map] at hi
  cases hb : s.data.toList[i]? with
  | none => rw [hb] at hi; cases hi
  | some b =>
   rw [hb] at hi
   cases hi
   cases j with
   | succ j => cases hj
   | zero =>
    cases hj; cases hk
    refine ⟨.int .u8 b.toNat, by simp at hb ⊢; simp [hb], .int ⟨?_, ?_⟩⟩
    ·have : IntKind.u8.min = 0 := rfl
     omega
    ·have := b.toNat_lt
     have : IntKind.u8.max = 255 := rfl
     omega
def BaseR (T : Tab) (m : Mem) (el : TypeId) (kill : Option Nat) (rows : List (List DV)) (v : Value) : Prop :=
 match kill with
 | none => rows = [] ∧ v = .slice none 0 0
 | some b => ∃ e o l cap rs, m.h b = .arr el e false ∧ e.den m.env = .L rs ∧ o + l ≤ rs.length ∧ rows = (rs.drop o).take l ∧ SlR T m b el o l cap v
theorem upl_kill (h : Nat → Blk) (kill : Option Nat) (nb : Nat) (x : Blk) : upl h (killL kill ++ [(nb, x)]) = upf (match kill with | none => h | some b => upf h b .dead) nb x := by
 cases kill <;> rfl
def CellsOf (T : Tab) (m : Mem) (cks : List CK) (rows : List (List DV)) (c : Array Value) (base : Nat) : Prop :=
 ∀ (i j : Nat) r d k, rows[i]? = some r → r[j]? = some d → cks[j]? = some k → ∃ u, c[base + (i * cks.length + j)]? = some u ∧ Rd T m.w m.S k d u
theorem mok_app (hm : MOk T w0 S0 m) {el : TypeId} {cks : List CK} (hk : T.cks el = some cks) {kill : Option Nat} {nb : Nat} (hno : m.h nb = .no) (hkl : ∀ b, kill = some b → ∃ e, m.h b = .arr el e false) {e : E} {rows : List (List DV)} (he : e.den m.env = .L rows) (hbl : rows.length ≤ bL)
  (hrl : ∀ r ∈ rows, r.length = cks.length) {w' : World} {q base : Nat} {c : Array Value} {t : TypeId} (hq : w'.heap[q]? = some (.cells c t (0, 0))) (hin : base + rows.length * cks.length ≤ c.size)
  (hcs : CellsOf T m cks rows c base) (hw : ∀ q', q' ≠ q → q' < m.w.heap.size → w'.heap[q']? = m.w.heap[q']?) (hsz : m.w.heap.size ≤ w'.heap.size) (hlow : Low w0 w')
  (hqq : (∃ b, kill = some b ∧ m.at_ b = some q) ∨ m.w.heap.size ≤ q) :
  Keep T m { m with w := w', ρ := upf m.ρ nb (some (q, base, c.size)), h := upl m.h (killL kill ++ [(nb, .arr el e false)]) } ∧ MOk T w0 S0 { m with w := w', ρ := upf m.ρ nb (some (q, base, c.size)), h := upl m.h (killL kill ++ [(nb, .arr el e false)]) } := by
 have hnk : ∀ b, kill = some b → b ≠ nb := fun b hb e => by obtain ⟨e', h⟩ := hkl b hb; rw [e, hno] at h; cases h
 have hhb : ∀ b, kill = some b → upl m.h (killL kill ++ [(nb, .arr el e false)]) b = .dead := fun b hb => by
  rw [upl_kill, hb]; simp only; rw [upf_ne _ _ (hnk b hb), upf_same]
 have hhn : upl m.h (killL kill ++ [(nb, .arr el e false)]) nb = .arr el e false := by rw [upl_kill, upf_same]
 have hho : ∀ b, b ≠ nb → kill ≠ some b → upl m.h (killL kill ++ [(nb, .arr el e false)]) b = m.h b := fun b h1 h2 => by
  rw [upl_kill, upf_ne _ _ h1]
  cases kill with
  | none => rfl
  | some x => exact upf_ne _ _ (fun e => h2 (by rw [e]))
 have hnS : ∀ q', m.S q' → q' ≠ q := fun q' hq' e' => by
  subst e'
  rcases hqq with ⟨b, hb, ha⟩ | h
  ·obtain ⟨e', h⟩ := hkl b hb
   exact (hm.new b _ (by rw [h]; rfl) ha).2 (by rw [h]; rfl) hq'
  ·have := hm.sz _ hq'; omega
 have hwS : ∀ q', m.S q' → w'.heap[q']? = m.w.heap[q']? := fun q' hq' => hw q' (hnS q' hq') (hm.sz q' hq')
 have hother : ∀ b, b ≠ nb → kill ≠ some b → (m.h b).live = true → ∀ q', m.at_ b = some q' → q' ≠ q := fun b h1 h2 hl q' ha e' => by
  subst e'
  rcases hqq with ⟨b', hb', ha'⟩ | h
  ·obtain ⟨e', h⟩ := hkl b' hb'
   exact h2 (by rw [hm.inj b b' _ hl (by rw [h]; rfl) ha ha']; exact hb')
  ·have := (hm.blk b).lt hl ha; omega
 refine mok_gen hm (fun b => b = nb ∨ kill = some b) rfl rfl hwS hlow hsz (fun b hb => ?_) (fun b hb hne => ?_) (fun hK b hb => ?_) (fun b b' q' hb l l' a a' => ?_) (fun b q' hb l a => ?_)
 ·have h1 : b ≠ nb := fun e => hb (.inl e)
  have h2 : kill ≠ some b := fun e => hb (.inr e)
  exact ⟨hho b h1 h2, upf_ne _ _ h1, fun hl q' ha => hw q' (hother b h1 h2 hl q' ha) ((hm.blk b).lt hl ha)⟩
 ·rcases hb with hb | hb
  ·subst hb; exact absurd hno hne
  ·exact .inl (hhb b hb)
 ·rcases hb with hb | hb
  ·subst hb
   dsimp only
   rw [hhn]
   refine ⟨rows, cks, he, hk, hbl, hrl, .inr ⟨q, base, c, t, upf_same _ _ _, hq, hin, fun i j r d k h1 h2 h3 => ?_, fun h => by cases h⟩⟩
   obtain ⟨u, hu, hr⟩ := hcs i j r d k h1 h2 h3
   exact ⟨u, hu, hr.keep hwS (fun _ h => h)⟩
  ·dsimp only
   rw [hhb b hb]
   trivial
 ·rcases hb with hb | hb
  ·subst hb
   by_cases e1 : b' = b
   ·exact e1.symm
   ·exfalso
    dsimp only at l'
    by_cases e2 : kill = some b'
    ·rw [hhb b' e2] at l'; cases l'
    ·rw [hho b' e1 e2] at l'
     simp only [Mem.at_, upf_same] at a
     simp only [Mem.at_, upf_ne _ _ e1] at a'
     simp at a
     subst a
     exact hother b' e1 e2 l' _ a' rfl
  ·dsimp only at l
   rw [hhb b hb] at l; cases l
 ·rcases hb with hb | hb
  ·subst hb
   simp only [Mem.at_, upf_same] at a
   simp at a
   subst a
   refine ⟨?_, fun _ hs => hnS _ hs rfl⟩
   rcases hqq with ⟨b', hb', ha'⟩ | h
   ·obtain ⟨e', h⟩ := hkl b' hb'
    exact (hm.new b' _ (by rw [h]; rfl) ha').1
   ·exact .inl (Nat.le_trans hm.low.size h)
  ·dsimp only at l
   rw [hhb b hb] at l; cases l
end
section
variable {P : Program} {T : Tab} {m m' : Mem} {w0 : W0} {S0 : Nat → Prop} {w : World}
theorem cells_app {cks : List CK} {ra rb : List (List DV)} {c : Array Value} {base : Nat} (h1 : CellsOf T m cks ra c base) (h2 : ∀ (i j : Nat) r d k, rb[i]? = some r → r[j]? = some d → cks[j]? = some k → ∃ u, c[base + ((ra.length + i) * cks.length + j)]? = some u ∧ Rd T m.w m.S k d u) : CellsOf T m cks (ra ++ rb) c base := fun i j r d k hi hj hk => by
 rw [List.getElem?_append] at hi
 split at hi
 ·exact h1 i j r d k hi hj hk
 ·obtain ⟨u, hu, hr⟩ := h2 _ j r d k hi hj hk
  exact ⟨u, by rw [← hu]; congr 4; omega, hr⟩
theorem mok_virt (hm : MOk T w0 S0 m) {el : TypeId} {cks : List CK} (hk : T.cks el = some cks) {kill : Option Nat} {nb : Nat} (hno : m.h nb = .no) (hkl : ∀ b, kill = some b → ∃ e, m.h b = .arr el e false) {e : E} (he : e.den m.env = .L []) :
  Keep T m { m with ρ := upf m.ρ nb none, h := upl m.h (killL kill ++ [(nb, .arr el e false)]) } ∧ MOk T w0 S0 { m with ρ := upf m.ρ nb none, h := upl m.h (killL kill ++ [(nb, .arr el e false)]) } := by
 have hnk : ∀ b, kill = some b → b ≠ nb := fun b hb e => by obtain ⟨e', h⟩ := hkl b hb; rw [e, hno] at h; cases h
 have hhb : ∀ b, kill = some b → upl m.h (killL kill ++ [(nb, .arr el e false)]) b = .dead := fun b hb => by
  rw [upl_kill, hb]; simp only; rw [upf_ne _ _ (hnk b hb), upf_same]
 have hhn : upl m.h (killL kill ++ [(nb, .arr el e false)]) nb = .arr el e false := by rw [upl_kill, upf_same]
 have hho : ∀ b, b ≠ nb → kill ≠ some b → upl m.h (killL kill ++ [(nb, .arr el e false)]) b = m.h b := fun b h1 h2 => by
  rw [upl_kill, upf_ne _ _ h1]
  cases kill with
  | none => rfl
  | some x => exact upf_ne _ _ (fun e => h2 (by rw [e]))
 refine mok_gen hm (fun b => b = nb ∨ kill = some b) rfl rfl (fun _ _ => rfl) hm.low (Nat.le_refl _) (fun b hb => ?_) (fun b hb hne => ?_) (fun hK b hb => ?_) (fun b b' q' hb l l' a a' => ?_) (fun b q' hb l a => ?_)
 ·exact ⟨hho b (fun e => hb (.inl e)) (fun e => hb (.inr e)), upf_ne _ _ (fun e => hb (.inl e)), fun _ _ _ => rfl⟩
 ·rcases hb with hb | hb
  ·subst hb; exact absurd hno hne
  ·exact .inl (hhb b hb)
 ·rcases hb with hb | hb
  ·subst hb
   dsimp only
   rw [hhn]
   exact ⟨[], cks, he, hk, by simp, by simp, .inl ⟨upf_same _ _ _, rfl⟩⟩
  ·dsimp only
   rw [hhb b hb]
   trivial
 ·rcases hb with hb | hb
  ·subst hb
   simp [Mem.at_, upf_same] at a
  ·dsimp only at l
   rw [hhb b hb] at l; cases l
 ·rcases hb with hb | hb
  ·subst hb
   simp [Mem.at_, upf_same] at a
  ·dsimp only at l
   rw [hhb b hb] at l; cases l
theorem info_of (hT : T.Ok P) {t : TypeId} {cks : List CK} (hk : T.cks t = some cks) (hf : fitsT T t = true) : ∃ i, P.info? t = some i ∧ i.size = cks.length ∧ i.bytes ≤ 100 := by
 have hs := (Tab.cks_size hk).1
 unfold Tab.size at hs
 unfold fitsT at hf
 cases hi : T.info t with
 | none => rw [hi] at hs; cases hs
 | some i =>
  rw [hi] at hs hf
  exact ⟨i, hT.info _ _ hi, Option.some.inj hs, of_decide_eq_true hf⟩
theorem append_ok (hT : T.Ok P) (hm : MOk T w0 S0 m) {st xt el ty : TypeId} {cks : List CK} {z : Value} {kill : Option Nat} {nb : Nat} {ra rx : List (List DV)} {vb vx : Value} {xs : List Value} {e : E}
  (hst : T.und st = some (.slice el)) (hk : T.cks el = some cks) (hf : fitsT T el = true) (hz : (zeroValue el).run P m.w = .ok z m.w) (hzs : z.cells.size = cks.length) (hxt : ∃ d, T.und xt = some d ∧ ∀ k, d ≠ .int k) (hno : m.h nb = .no)
  (hb : BaseR T m el kill ra vb) (hx : Src P T m cks vx rx xs) (he : e.den m.env = .L (ra ++ rx)) (hlen : ra.length + rx.length ≤ 1099511627776) :
  ∃ v m', (Builtin.append_ #[st, xt] ty #[vb, vx]).run P m.w = .ok v m'.w ∧ Went T w0 S0 m (killL kill ++ [(nb, .arr el e false)]) m' ∧ CVr T m' (.own nb el) v := by
 obtain ⟨it, hit, hsz, hby⟩ := info_of hT hk hf
 obtain ⟨xd, hxd, hxn⟩ := hxt
 have hzz : it.zero = some z := by
  simp only [zeroValue, typeInfo, Sem.run_bind, run_program, Result.andThen_ok, hit, Sem.run_pure] at hz
  cases hq : it.zero with
  | none => rw [hq] at hz; cases hz
  | some z' => rw [hq] at hz; cases hz; rfl
 have hpos := (Tab.cks_size hk).2
 have hbL : (ra ++ rx).length ≤ bL := by rw [List.length_append]; unfold bL; omega
 have hzf : (xd matches .int _) = false := by cases xd <;> first | rfl | exact absurd rfl (hxn _)
 -- the base's value
 obtain ⟨bs, cap, hvb, hcap, hra⟩ : ∃ bs cap, vb = .slice bs ra.length cap ∧ ra.length ≤ cap ∧ (bs = none → ra = [] ∧ cap = 0) := by
  unfold BaseR at hb
  split at hb
  ·obtain ⟨rfl, rfl⟩ := hb; exact ⟨none, 0, rfl, Nat.le_refl _, fun _ => ⟨rfl, rfl⟩⟩
  ·obtain ⟨e', o, l, cap, rs, h1, h2, h3, rfl, h4⟩ := hb
   have hl : ((rs.drop o).take l).length = l := by simp; omega
   unfold SlR at h4
   split at h4
   ·obtain ⟨_, rfl, rfl⟩ := h4
    exact ⟨none, 0, by simp, by simp, fun _ => ⟨by simp, rfl⟩⟩
   ·obtain ⟨sz, ad, g1, rfl, g2, g3, g4⟩ := h4
    exact ⟨some ad, cap, by rw [hl], by omega, fun h => by cases h⟩
 subst hvb
 have hrl : ∀ r ∈ ra ++ rx, r.length = cks.length := fun r hr => by
  rcases List.mem_append.1 hr with hr | hr
  ·unfold BaseR at hb
   split at hb
   ·obtain ⟨rfl, _⟩ := hb; cases hr
   ·obtain ⟨e', o, l, cp, rs, h1, h2, h3, rfl, h4⟩ := hb
    obtain ⟨rows, cks', k1, k2, k3, k4, _⟩ : BlkR T m _ (.arr _ _ _) := by rw [← h1]; exact hm.blk _
    rw [h2] at k1; cases k1
    rw [hk] at k2; cases k2
    exact k4 r (List.mem_of_mem_drop (List.mem_of_mem_take hr))
  ·exact hx.rl r hr
 have hkl : ∀ b, kill = some b → ∃ e, m.h b = .arr el e false := fun b hb' => by
  subst hb'
  obtain ⟨e', o, l, cp, rs, h1, _⟩ := hb
  exact ⟨e', h1⟩
 -- the base's cells, where it has any place in memory
 have hplace : ∀ ad, bs = some ad → ∃ b q o c t, kill = some b ∧ m.at_ b = some q ∧ (cap ≠ 0 → ad = ⟨q, o, none⟩) ∧ m.w.heap[q]? = some (.cells c t (0, 0)) ∧ o + cap * cks.length ≤ c.size ∧ CellsOf T m cks ra c o := fun ad had => by
  subst had
  unfold BaseR at hb
  split at hb
  ·obtain ⟨_, h⟩ := hb; cases h
  ·rename_i b
   obtain ⟨e', o, l, cp, rs, h1, h2, h3, h5, h4⟩ := hb
   have hl : ra.length = l := by rw [h5]; simp; omega
   obtain ⟨rows, cks', k1, k2, k3, k4, k5⟩ := h1 ▸ hm.blk b
   rw [h2] at k1; cases k1
   rw [hk] at k2; cases k2
   unfold SlR at h4
   rcases k5 with ⟨k5, _⟩ | ⟨q, base, c, t, k5, k6, k7, k8, _⟩
   ·rw [k5] at h4
    obtain ⟨_, _, h⟩ := h4; cases h
   ·rw [k5] at h4
    obtain ⟨sz, ad', g1, gv, g2, g3, g4⟩ := h4
    cases gv
    obtain rfl := size_cks g1 hk
    refine ⟨b, q, base + o * cks.length, c, t, rfl, by simp [Mem.at_, k5], g2, k6, by rw [Nat.add_mul] at g4; omega, fun i j r d k hi hj hkk => ?_⟩
    rw [h5, List.getElem?_take] at hi
    split at hi
    ·rw [List.getElem?_drop] at hi
     obtain ⟨u, hu, hr⟩ := k8 _ j r d k hi hj hkk
     exact ⟨u, by rw [← hu]; congr 1; rw [Nat.add_mul]; omega, hr⟩
    ·cases hi
 have hul := run_underlying (w := m.w) (hT.und hst)
 have hux := run_underlying (w := m.w) (hT.und hxd)
 have hlen0 : ra.length + rx.length < 2 ^ 62 := by omega
 by_cases hn : ra.length + rx.length ≤ cap
 ·cases bs with
  | none =>
   -- nothing onto nothing
   obtain ⟨rfl, rfl⟩ := hra rfl
   have hrx : rx = [] := List.eq_nil_of_length_eq_zero (by simp at hn; simp [hn])
   subst hrx
   have hxs : xs = [] := List.eq_nil_of_length_eq_zero (by rw [hx.xl]; simp)
   subst hxs
   have hrun : (Builtin.append_ #[st, xt] ty #[.slice none 0 0, vx]).run P m.w = .ok (.slice none 0 0) m.w := by
    have h1 := hx.len m.w
    have h2 := hx.first m.w rfl
    simp only [List.length_nil] at h1 h2
    simp [Builtin.append_, hul, hux, hzf, sizeOf, typeInfo, hit, h1, h2, hsz]
   obtain ⟨k1, k2⟩ := mok_virt hm hk hno hkl (e := e) (by simpa using he)
   exact ⟨_, { m with ρ := upf m.ρ nb none, h := upl m.h (killL kill ++ [(nb, .arr el e false)]) }, hrun, ⟨rfl, rfl, k1, k2⟩, .inr ⟨e, false, [], 0, by rw [upl_kill]; dsimp only; rw [upf_same], by simpa using he, by unfold SlR; simp [upf_same]⟩⟩
  | some ad =>
   obtain ⟨b, q, o, c, t, e1, e2, e3, e4, e5, e6⟩ := hplace ad rfl
   have hsto : ∃ w' c', (storeCells (ad.add (ra.length * it.size)) xs).run P m.w = .ok () w' ∧ Stored m.w w' q (o + ra.length * cks.length) xs c t c' := by
    by_cases hxn : xs = []
    ·subst hxn
     exact ⟨m.w, c, rfl, e4, rfl, fun j => by simp; omega, fun _ _ => rfl, rfl, rfl, rfl, rfl⟩
    ·have hc0 : cap ≠ 0 := fun h => by
      have : rx.length = 0 := by omega
      exact hxn (List.eq_nil_of_length_eq_zero (by rw [hx.xl, this]; simp))
     rw [e3 hc0, add_lit, hsz]
     have hle : (ra.length + rx.length) * cks.length ≤ cap * cks.length := Nat.mul_le_mul_right _ hn
     rw [Nat.add_mul] at hle
     obtain ⟨w', c', h1, h2⟩ := storeCells_run (P := P) (q := q) (o := o + ra.length * cks.length) xs 0 c m.w e4 hx.one (by rw [hx.xl]; omega)
     exact ⟨w', c', h1, h2⟩
   obtain ⟨w', c', h1, h2⟩ := hsto
   have hrun : (Builtin.append_ #[st, xt] ty #[.slice (some ad) ra.length cap, vx]).run P m.w = .ok (.slice (some ad) (ra.length + rx.length) cap) w' := by
    have h3 := hx.len m.w
    have h4 := hx.first m.w rfl
    rw [← hsz] at h4
    simp [Builtin.append_, hul, hux, hzf, sizeOf, typeInfo, hit, h3, h4, hn, h1]
   have hlive : (m.h b).live = true := by obtain ⟨e', h⟩ := hkl b e1; rw [h]; rfl
   have hle : (ra.length + rx.length) * cks.length ≤ cap * cks.length := Nat.mul_le_mul_right _ hn
   have hcs : CellsOf T m cks (ra ++ rx) c' o := by
    refine cells_app (fun i j r d k hi hj hkk => ?_) (fun i j r d k hi hj hkk => ?_)
    ·obtain ⟨u, hu, hr⟩ := e6 i j r d k hi hj hkk
     refine ⟨u, ?_, hr⟩
     have hil := (List.getElem?_eq_some_iff.1 hi).1
     have hjl := (List.getElem?_eq_some_iff.1 hkk).1
     have : (i + 1) * cks.length ≤ ra.length * cks.length := Nat.mul_le_mul_right _ hil
     rw [Nat.add_mul] at this
     rw [h2.get, if_neg (by omega)]; exact hu
    ·obtain ⟨u, hu, hr⟩ := hx.get i j r d k hi hj hkk
     refine ⟨u, ?_, hr⟩
     have hil := (List.getElem?_eq_some_iff.1 hi).1
     have hjl := (List.getElem?_eq_some_iff.1 hkk).1
     have : (i + 1) * cks.length ≤ rx.length * cks.length := Nat.mul_le_mul_right _ hil
     rw [Nat.add_mul] at this
     rw [h2.get, Nat.add_mul, if_pos (by rw [hx.xl]; omega), ← hu]
     congr 1; omega
   obtain ⟨k1, k2⟩ := mok_app (q := q) (base := o) (c := c') (t := t) (w' := w') hm hk hno hkl he hbL hrl h2.heap (by rw [h2.size, List.length_append]; omega) hcs (fun q' hq' _ => h2.other q' hq') (by rw [h2.hsize]; exact Nat.le_refl _) (h2.below hm.low (hm.new b q hlive e2).1) (.inl ⟨b, e1, e2⟩)
   refine ⟨_, { m with w := w', ρ := upf m.ρ nb (some (q, o, c'.size)), h := upl m.h (killL kill ++ [(nb, .arr el e false)]) }, hrun, ⟨rfl, rfl, k1, k2⟩, .inr ⟨e, false, ra ++ rx, cap, by rw [upl_kill]; dsimp only; rw [upf_same], he, ?_⟩⟩
   unfold SlR
   dsimp only
   rw [upf_same]
   exact ⟨cks.length, ad, by rw [(Tab.cks_size hk).1], by rw [List.length_append], fun h => by rw [e3 h]; simp, by rw [List.length_append]; exact hn, by rw [h2.size]; simpa using e5⟩
 ·-- new memory
  obtain ⟨os, hos⟩ : ∃ os, Src P T m cks (.slice bs ra.length cap) ra os := by
   by_cases hr0 : ra = []
   ·subst hr0
    exact ⟨[], fun w => rfl, fun w _ => by cases bs <;> simp [Builtin.firstCells, loadCells, loadCellsFrom], by simp, by simp, by simp, fun i j r d k h => by simp at h⟩
   ·have hrpos : 0 < ra.length := List.length_pos_iff.2 hr0
    cases bs with
    | none => exact absurd (hra rfl).1 hr0
    | some ad =>
     obtain ⟨b, q, o, c, t, e1, e2, e3, e4, e5, e6⟩ := hplace ad rfl
     have hle : ra.length * cks.length ≤ cap * cks.length := Nat.mul_le_mul_right _ hcap
     have hol : ((c.toList.drop o).take (ra.length * cks.length)).length = ra.length * cks.length := by simp; omega
     have hgo : ∀ k, k < ra.length * cks.length → ((c.toList.drop o).take (ra.length * cks.length))[k]? = c[o + k]? := fun k hk => by rw [List.getElem?_take, if_pos hk, List.getElem?_drop, Array.getElem?_toList]
     have hin : ∀ i j, i < ra.length → j < cks.length → i * cks.length + j < ra.length * cks.length := fun i j hi hj => by
      have : (i + 1) * cks.length ≤ ra.length * cks.length := Nat.mul_le_mul_right _ hi
      rw [Nat.add_mul] at this; omega
     have hrl' : ∀ r ∈ ra, r.length = cks.length := fun r hr => hrl r (List.mem_append.2 (.inl hr))
     refine ⟨(c.toList.drop o).take (ra.length * cks.length), fun w => rfl, fun w' hw' => ?_, hol, fun x hx => ?_, hrl', fun i j r d k hi hj hkk => ?_⟩
     ·rw [e3 (by omega)]
      exact run_firstCells_some (P := P) w' cks.length ra.length ⟨q, o, none⟩ ra.length cap _ hol (fun j v hj => by
        rw [add_lit]
        have hjl : j < ra.length * cks.length := by rw [← hol]; exact (List.getElem?_eq_some_iff.1 hj).1
        rw [hgo j hjl] at hj
        rw [cell_of_row w' q _ c t (0, 0) (by rw [hw']; exact e4)]; exact hj)
     ·obtain ⟨k, hxk⟩ := List.mem_iff_getElem?.1 hx
      have hk' := (List.getElem?_eq_some_iff.1 hxk).1
      rw [hol] at hk'
      rw [hgo k hk'] at hxk
      have g1 : k / cks.length < ra.length := Nat.div_lt_of_lt_mul (by rw [Nat.mul_comm]; exact hk')
      have g2 : k % cks.length < cks.length := Nat.mod_lt _ hpos
      have h1 := hrl' ra[k / cks.length] (List.getElem_mem g1)
      obtain ⟨u, hu, hr⟩ := e6 (k / cks.length) (k % cks.length) ra[k / cks.length] (ra[k / cks.length][k % cks.length]'(by omega)) cks[k % cks.length] (List.getElem?_eq_getElem g1) (List.getElem?_eq_getElem (by omega)) (List.getElem?_eq_getElem g2)
      have e : k / cks.length * cks.length + k % cks.length = k := by rw [Nat.mul_comm]; exact Nat.div_add_mod k cks.length
      rw [e, hxk] at hu
      cases hu
      exact hr.one
     ·obtain ⟨u, hu, hr⟩ := e6 i j r d k hi hj hkk
      exact ⟨u, by rw [hgo _ (hin i j (List.getElem?_eq_some_iff.1 hi).1 (List.getElem?_eq_some_iff.1 hkk).1)]; exact hu, hr⟩
  have hnc := nextcap_le (n := ra.length + rx.length) (c := cap) (by omega)
  have hfit : ¬ (Builtin.nextslicecap (ra.length + rx.length) cap * it.bytes > 2 ^ 48) := by
   have : Builtin.nextslicecap (ra.length + rx.length) cap * it.bytes ≤ (2 * 1099511627776 + 512) * 100 := Nat.mul_le_mul (by omega) hby
   omega
  have h63 : ¬ (((ra.length + rx.length : Nat) : Int) > IntKind.i64.max) := by
   have : IntKind.i64.max = 9223372036854775807 := rfl
   omega
  generalize hNC : grownCap m.w (ra.length + rx.length) cap el = NC
  have hNCle : ra.length + rx.length ≤ NC := by
   rw [← hNC]; unfold grownCap Question.cut; exact Nat.le_add_right _ _
  generalize hC : os.toArray ++ xs.toArray ++ Builtin.zeroCells z.cells (NC - (ra.length + rx.length)) = C
  have hCs : C.size = NC * cks.length := by
   rw [← hC]
   simp [Builtin.zeroCells, hos.xl, hx.xl, hzs]
   rw [← Nat.add_mul, ← Nat.add_mul]
   congr 1; omega
  have hrun : (Builtin.append_ #[st, xt] ty #[.slice bs ra.length cap, vx]).run P m.w = .ok (.slice (some ⟨m.w.heap.size, 0, none⟩) (ra.length + rx.length) NC) (m.w.drew.alloc (.cells C el)) := by
   have h3 := hx.len m.w
   have h4 := hx.first m.w.drew rfl
   have h5 := hos.first m.w.drew rfl
   rw [← hsz] at h4 h5
   rw [← hC, ← hNC]
   have hfit' : ¬ (281474976710656 < Builtin.nextslicecap (ra.length + rx.length) cap * it.bytes) := by omega
   have h63' : ¬ (9223372036854775807 < ((ra.length : Int) + (rx.length : Int))) := by omega
   simp [Builtin.append_, hul, hux, hzf, sizeOf, typeInfo, zeroValue, hit, hzz, h3, h4, h5, hn, hfit', h63', Question.forced, newRow, grownCap]
   congr 2
   apply Array.ext'
   simp [List.append_assoc]
  have hCg : ∀ j, j < ra.length * cks.length + rx.length * cks.length → C[j]? = if j < ra.length * cks.length then os[j]? else xs[j - ra.length * cks.length]? := fun j hj => by
   rw [← hC, Array.getElem?_append_left (by simp [hos.xl, hx.xl]; exact hj), Array.getElem?_append]
   simp only [List.size_toArray, hos.xl, List.getElem?_toArray]
  have hcs : CellsOf T m cks (ra ++ rx) C 0 := by
   refine cells_app (fun i j r d k hi hj hkk => ?_) (fun i j r d k hi hj hkk => ?_)
   ·obtain ⟨u, hu, hr⟩ := hos.get i j r d k hi hj hkk
    have hil := (List.getElem?_eq_some_iff.1 hi).1
    have hjl := (List.getElem?_eq_some_iff.1 hkk).1
    have : (i + 1) * cks.length ≤ ra.length * cks.length := Nat.mul_le_mul_right _ hil
    rw [Nat.add_mul] at this
    exact ⟨u, by rw [Nat.zero_add, hCg _ (by omega), if_pos (by omega)]; exact hu, hr⟩
   ·obtain ⟨u, hu, hr⟩ := hx.get i j r d k hi hj hkk
    have hil := (List.getElem?_eq_some_iff.1 hi).1
    have hjl := (List.getElem?_eq_some_iff.1 hkk).1
    have : (i + 1) * cks.length ≤ rx.length * cks.length := Nat.mul_le_mul_right _ hil
    rw [Nat.add_mul] at this
    refine ⟨u, ?_, hr⟩
    rw [Nat.zero_add, Nat.add_mul, hCg _ (by omega), if_neg (by omega), ← hu]
    congr 1; omega
  have hle : (ra.length + rx.length) * cks.length ≤ NC * cks.length := Nat.mul_le_mul_right _ hNCle
  obtain ⟨k1, k2⟩ := mok_app (q := m.w.heap.size) (base := 0) (c := C) (t := el) (w' := m.w.drew.alloc (.cells C el)) hm hk hno hkl he hbL hrl (heap_alloc_new m.w.drew _) (by rw [hCs, List.length_append]; omega) hcs
   (fun q' _ hq' => Below.heap_alloc m.w.drew _ _ hq') (by simp) (hm.low.drew.alloc _) (.inr (Nat.le_refl _))
  refine ⟨_, { m with w := m.w.drew.alloc (.cells C el), ρ := upf m.ρ nb (some (m.w.heap.size, 0, C.size)), h := upl m.h (killL kill ++ [(nb, .arr el e false)]) }, hrun, ⟨rfl, rfl, k1, k2⟩, .inr ⟨e, false, ra ++ rx, NC, by rw [upl_kill]; dsimp only; rw [upf_same], he, ?_⟩⟩
  unfold SlR
  dsimp only
  rw [upf_same]
  exact ⟨cks.length, _, (Tab.cks_size hk).1, by rw [List.length_append], fun _ => by simp, by rw [List.length_append]; exact hNCle, by rw [hCs]; simp⟩
end
section
variable {P : Program} {T : Tab} {m m' : Mem} {w0 : W0} {S0 : Nat → Prop} {w : World}
theorem newArr_ok (hm : MOk T w0 S0 m) {el : TypeId} {cks : List CK} (hk : T.cks el = some cks) {nb : Nat} (hno : m.h nb = .no) {e : E} {rows : List (List DV)} (he : e.den m.env = .L rows) (hbl : rows.length ≤ bL) (hrl : ∀ r ∈ rows, r.length = cks.length) {C : Array Value} {cap : Nat} (t : TypeId)
  (hcap : rows.length ≤ cap) (hC : cap * cks.length ≤ C.size) (hcs : CellsOf T m cks rows C 0) :
  ∃ m', m'.w = m.w.alloc (.cells C t) ∧ Went T w0 S0 m [(nb, .arr el e false)] m' ∧ CVr T m' (.own nb el) (.slice (some ⟨m.w.heap.size, 0, none⟩) rows.length cap) := by
 have hle : rows.length * cks.length ≤ cap * cks.length := Nat.mul_le_mul_right _ hcap
 obtain ⟨k1, k2⟩ := mok_app (kill := none) (q := m.w.heap.size) (base := 0) (c := C) (t := t) (w' := m.w.alloc (.cells C t)) hm hk hno (fun b hb => by cases hb) he hbl hrl (heap_alloc_new m.w _) (by omega) hcs
  (fun q' _ hq' => Below.heap_alloc m.w _ _ hq') (by simp) (hm.low.alloc _) (.inr (Nat.le_refl _))
 refine ⟨{ m with w := m.w.alloc (.cells C t), ρ := upf m.ρ nb (some (m.w.heap.size, 0, C.size)), h := upl m.h (killL none ++ [(nb, .arr el e false)]) }, rfl, ⟨rfl, rfl, k1, k2⟩, .inr ⟨e, false, rows, cap, by rw [upl_kill]; dsimp only; rw [upf_same], he, ?_⟩⟩
 unfold SlR
 dsimp only
 rw [upf_same]
 exact ⟨cks.length, _, (Tab.cks_size hk).1, rfl, fun _ => by simp, hcap, by simpa using hC⟩
theorem make_ok (hT : T.Ok P) (hm : MOk T w0 S0 m) {t : TypeId} {nb : Nat} (hno : m.h nb = .no) {l c : SV} {vl vc : Value} {out : Out} (h : symMake T m.h nb t l c = some out) (hl : SVr T m l vl) (hc : SVr T m c vc) (hn : needsOk m.env out.needs) (hfr : upl m.h (out.upd.dropLast) nb = .no) :
  ∃ v m', (Instr.makeSlice t vl vc).run P m.w = .ok v m'.w ∧ Went T w0 S0 m out.upd m' ∧ SVr T m' out.val v := by
 unfold symMake at h
 split at h
 case h_2 => cases h
 rename_i k1 le k2 ce
 unfold elemOfT at h
 split at h
 case h_2 => cases h
 rename_i el hu
 simp only [Option.bind_eq_bind, Option.bind_some] at h
 cases hk : T.cks el with
 | none => rw [hk] at h; cases h
 | some cks =>
 rw [hk] at h
 simp only [Option.bind_some] at h
 cases hz : zeroL T el with
 | none => rw [hz] at h; cases h
 | some z =>
 rw [hz] at h
 simp only [Option.bind_some] at h
 split at h
 case isTrue => cases h
 rename_i hf
 cases hi : immL T m.h cks z with
 | none => rw [hi] at h; cases h
 | some x =>
 obtain ⟨ns, es, us⟩ := x
 rw [hi] at h
 simp only [Option.bind_some, Option.some.injEq] at h
 subst h
 obtain ⟨n1, e1, rfl, _⟩ := Rd.int_inv (show CVr T m (.c (.int k1) le) vl from hl)
 obtain ⟨n2, e2, rfl, _⟩ := Rd.int_inv (show CVr T m (.c (.int k2) ce) vc from hc)
 have hb := hn.right _ (List.mem_singleton.2 rfl)
 simp only [E.den, O.den, e1, e2, DV.int, DV.bool, Bool.and_eq_true, decide_eq_true_eq] at hb
 obtain ⟨zv, hzv, hzc⟩ := zero_ok (P := P) (w := m.w) (m := m) hT hz
 obtain ⟨it, hit, hsz, hby⟩ := info_of hT hk (by simpa using hf)
 have hzz : it.zero = some zv := by
  simp only [zeroValue, typeInfo, Sem.run_bind, run_program, Result.andThen_ok, hit, Sem.run_pure] at hzv
  cases hq : it.zero with
  | none => rw [hq] at hzv; cases hzv
  | some z' => rw [hq] at hzv; cases hzv; rfl
 obtain ⟨m1, f, l1, l2, r⟩ := immL_ok _ _ _ hm hzc hi hn.left
 have hpos := (Tab.cks_size hk).2
 have hzl : zv.cells.size = cks.length := by have := hzc.1; simp at this; omega
 have hrun := run_make (P := P) m.w t el it zv (hT.und hu) hit hzz k1 k2 n1 n2 (by omega) (by omega) (by
   have : (it.bytes : Int) * n2 ≤ 100 * n2 := Int.mul_le_mul_of_nonneg_right (by omega) (by omega)
   omega) (by omega)
 have hden : (E.O .rep le (rowE es)).den m1.env = .L (List.replicate n1.toNat (es.map (·.den m.env))) := by
  rw [f.env]
  simp only [E.den, O.den, e1, rowE_den, DV.int, DV.row]
 have hcs : CellsOf T m1 cks (List.replicate n1.toNat (es.map (·.den m.env))) (madeCells zv.cells (n2.toNat * it.size)) 0 := fun i j row d k hi hj hkk => by
  rw [List.getElem?_replicate] at hi
  split at hi
  case isFalse => cases hi
  rename_i hin
  cases hi
  rw [List.getElem?_map] at hj
  cases he : es[j]? with
  | none => rw [he] at hj; cases hj
  | some e =>
   rw [he] at hj
   cases hj
   obtain ⟨u, hu2, hr⟩ := r j k e hkk he
   refine ⟨u, ?_, by rw [← f.env] at hr ⊢; exact hr⟩
   have hjl := (List.getElem?_eq_some_iff.1 hkk).1
   have h1 : (i + 1) * cks.length ≤ n1.toNat * cks.length := Nat.mul_le_mul_right _ hin
   have h2 : n1.toNat * cks.length ≤ n2.toNat * cks.length := Nat.mul_le_mul_right _ (by omega)
   rw [Nat.add_mul] at h1
   have h3 : (i * cks.length + j) % cks.length = j := by
    rw [Nat.mul_comm, Nat.mul_add_mod, Nat.mod_eq_of_lt hjl]
   rw [Nat.zero_add, hsz]
   unfold madeCells
   rw [Array.getElem?_map, Array.getElem?_range, if_pos (by omega)]
   simp only [Option.map_some, hzl, h3]
   rw [Array.getElem?_toList] at hu2
   rw [getElem!_pos zv.cells j (by omega)]
   rw [Array.getElem?_eq_getElem (by omega)] at hu2
   exact hu2
 obtain ⟨m2, g1, g2, g3⟩ := newArr_ok (cap := n2.toNat) (C := madeCells zv.cells (n2.toNat * it.size)) f.ok hk (by rw [f.h]; simpa using hfr) hden (by simp; unfold bL; omega) (fun x hx => by rw [List.eq_of_mem_replicate hx]; simp; omega) el (by simp; omega) (by rw [size_madeCells, hsz]; exact Nat.le_refl _) hcs
 refine ⟨.slice (some ⟨m.w.heap.size, 0, none⟩) n1.toNat n2.toNat, m2, ?_, f.went.trans g2, ?_⟩
 ·rw [g1, f.w]; exact hrun
 ·rw [f.w] at g3
  simp only [List.length_replicate] at g3
  exact g3
theorem appE_aux (env : List DV) : ∀ (rs : List E) (l : E) (x : List (List DV)), l.den env = .L x → (∀ r ∈ rs, ∃ y, r.den env = .R y) → (rs.foldl (fun l r => E.O .app l (.U .one r)) l).den env = .L (x ++ rs.map fun r => (r.den env).row)
 | [], l, x, h, _ => by simpa using h
 | r :: rs, l, x, h, hr => by
  obtain ⟨y, hy⟩ := hr r (List.mem_cons_self ..)
  simp only [List.foldl_cons, List.map_cons]
  rw [appE_aux env rs _ (x ++ [y]) (by simp [E.den, O.den, U.den, h, hy, DV.rows, DV.row]) (fun r' hr' => hr r' (List.mem_cons_of_mem _ hr'))]
  simp [hy, DV.row]
theorem appE_den (env : List DV) (rs : List E) (hr : ∀ r ∈ rs, ∃ y, r.den env = .R y) : (appE rs).den env = .L (rs.map fun r => (r.den env).row) := by
 unfold appE
 rw [appE_aux env rs .N [] rfl hr]
 simp
theorem lit_ok (hT : T.Ok P) (hm : MOk T w0 S0 m) {t : TypeId} {nb n : Nat} (hno : m.h nb = .no) {ps : List (Nat × SV)} {vs : Array (Nat × Value)} {out : Out} (h : symLit T m.h nb t n ps = some out) (hl : vs.toList.length = ps.length)
  (hr : ∀ (j : Nat) (p : Nat × SV) (q : Nat × Value), ps[j]? = some p → vs.toList[j]? = some q → p.1 = q.1 ∧ SVr T m p.2 q.2) (hn : needsOk m.env out.needs) (hfr : upl m.h (out.upd.dropLast) nb = .no) :
  ∃ v m', (Instr.buildSlice t n vs).run P m.w = .ok v m'.w ∧ Went T w0 S0 m out.upd m' ∧ SVr T m' out.val v := by
 unfold symLit elemOfT at h
 split at h
 case h_2 => cases h
 rename_i el hu
 simp only [Option.bind_eq_bind, Option.bind_some] at h
 cases hk : T.cks el with
 | none => rw [hk] at h; cases h
 | some cks =>
 rw [hk] at h
 simp only [Option.bind_some] at h
 cases hz : zeroL T el with
 | none => rw [hz] at h; cases h
 | some z =>
 rw [hz] at h
 simp only [Option.bind_some] at h
 split at h
 case isTrue => cases h
 rename_i hf
 simp at hf
 obtain ⟨hf, hzl0⟩ := hf
 cases hb : symBuild m.h (fun i => some (i * cks.length, cks.length)) ps ((List.range (n * cks.length)).map fun k => z.getD (k % cks.length) .any) with
 | none => rw [hb] at h; cases h
 | some cs =>
 rw [hb] at h
 simp only [Option.bind_some] at h
 cases hi : immL T m.h ((List.range (n * cks.length)).map fun k => cks.getD (k % cks.length) .bool) cs with
 | none => rw [hi] at h; cases h
 | some x =>
 obtain ⟨ns, es, us⟩ := x
 rw [hi] at h
 simp only [Option.bind_some, Option.some.injEq] at h
 subst h
 have hpos := (Tab.cks_size hk).2
 obtain ⟨zv, hzv, hzc⟩ := zero_ok (P := P) (w := m.w) (m := m) hT hz
 have hzl : zv.cells.size = cks.length := by have := hzc.1; simp at this; omega
 have hsz := run_size (P := P) (w := m.w) hT (Tab.cks_size hk).1
 generalize hA : ((Array.range (n * cks.length)).map fun k => zv.cells[k % zv.cells.size]!) = A
 have hA0 : CsR T m ((List.range (n * cks.length)).map fun k => z.getD (k % cks.length) .any) A.toList := by
  refine ⟨by rw [← hA]; simp, fun j c hj => ?_⟩
  rw [List.getElem?_map] at hj
  by_cases hjl : j < n * cks.length
  ·rw [List.getElem?_range hjl] at hj
   have hm' : j % cks.length < cks.length := Nat.mod_lt _ hpos
   have hzj : z[j % cks.length]? = some z[j % cks.length] := List.getElem?_eq_getElem (by omega)
   simp [List.getD_eq_getElem?_getD, hzj] at hj
   subst hj
   obtain ⟨u, hu1, hu2⟩ := hzc.2 _ _ hzj
   refine ⟨u, ?_, hu2⟩
   rw [← hA, Array.getElem?_toList, Array.getElem?_map, Array.getElem?_range, if_pos hjl]
   simp only [Option.map_some, hzl]
   rw [Array.getElem?_toList] at hu1
   rw [getElem!_pos zv.cells _ (by omega)]
   rw [Array.getElem?_eq_getElem (by omega)] at hu1
   exact hu1
  ·rw [List.getElem?_eq_none (by simp; omega)] at hj; cases hj
 obtain ⟨c', f1, f2⟩ := fillBu_ok (fun i => some (i * cks.length, cks.length)) ps vs.toList _ cs A hb hA0 hl hr
 obtain ⟨m1, f, l1, l2, r⟩ := immL_ok _ _ _ hm f2 hi hn
 have hcl : c'.size = n * cks.length := by
  have h1 := f2.1
  simp at l2 h1; omega
 have hel : es.length = n * cks.length := by simp at l2; omega
 have hrow : ∀ i, i < n → ((es.drop (i * cks.length)).take cks.length).length = cks.length := fun i hi => by
  have : (i + 1) * cks.length ≤ n * cks.length := Nat.mul_le_mul_right _ hi
  rw [Nat.add_mul] at this
  simp; omega
 generalize hR : ((List.range n).map fun i => ((es.drop (i * cks.length)).take cks.length).map (·.den m.env)) = R
 have hden : (appE ((List.range n).map fun i => rowE ((es.drop (i * cks.length)).take cks.length))).den m1.env = .L R := by
  rw [f.env, appE_den, ← hR]
  ·congr 1
   rw [List.map_map]
   apply List.map_congr_left
   intro i _
   simp only [Function.comp, rowE_den, DV.row]
  ·intro x hx
   obtain ⟨i, _, rfl⟩ := List.mem_map.1 hx
   exact ⟨_, rowE_den _ _⟩
 have hRl : R.length = n := by rw [← hR]; simp
 have hcs : CellsOf T m1 cks R c' 0 := fun i j row d k hi hj hkk => by
  have hin : i < n := by rw [← hRl]; exact (List.getElem?_eq_some_iff.1 hi).1
  rw [← hR, List.getElem?_map, List.getElem?_range hin] at hi
  cases hi
  have hjl := (List.getElem?_eq_some_iff.1 hkk).1
  have h1 : (i + 1) * cks.length ≤ n * cks.length := Nat.mul_le_mul_right _ hin
  rw [Nat.add_mul] at h1
  rw [List.getElem?_map, List.getElem?_take, if_pos hjl, List.getElem?_drop] at hj
  cases he : es[i * cks.length + j]? with
  | none => rw [he] at hj; cases hj
  | some e =>
   rw [he] at hj
   cases hj
   have hmod : (i * cks.length + j) % cks.length = j := by rw [Nat.mul_comm, Nat.mul_add_mod, Nat.mod_eq_of_lt hjl]
   obtain ⟨u, hu1, hu2⟩ := r (i * cks.length + j) k e (by rw [List.getElem?_map, List.getElem?_range (by omega)]; simp [hmod, List.getD_eq_getElem?_getD, hkk]) he
   exact ⟨u, by rw [Nat.zero_add, ← Array.getElem?_toList]; exact hu1, hu2⟩
 have hnle : n * 1 ≤ n * cks.length := Nat.mul_le_mul_left _ hpos
 obtain ⟨m2, g1, g2, g3⟩ := newArr_ok (cap := n) (C := c') f.ok hk (by rw [f.h]; simpa using hfr) hden (by rw [hRl]; unfold bL; omega) (fun x hx => by
   rw [← hR] at hx
   obtain ⟨i, hi, rfl⟩ := List.mem_map.1 hx
   rw [List.length_map]; exact hrow i (List.mem_range.1 hi)) el (by omega) (by rw [hcl]; exact Nat.le_refl _) hcs
 refine ⟨.slice (some ⟨m.w.heap.size, 0, none⟩) n n, m2, ?_, f.went.trans g2, ?_⟩
 ·rw [g1, f.w]
  unfold Instr.buildSlice
  simp only [Sem.run_bind, run_underlying (hT.und hu), Result.andThen_ok, hsz]
  rw [if_neg (by omega)]
  by_cases h0 : n * cks.length = 0
  ·have hA2 : A = #[] := by rw [← hA, h0]; apply Array.ext'; simp
   rw [hA2] at f1
   have h1 : (Array.range 0).map (fun k => (#[] : Array Value)[k % (#[] : Array Value).size]!) = #[] := by apply Array.ext'; simp
   simp only [h0, if_true, Sem.run_bind, Sem.run_pure, Result.andThen_ok, h1, f1]
   rfl
  ·simp only [h0, if_false, Sem.run_bind, hzv, Result.andThen_ok, Sem.run_pure]
   rw [hA, f1]
   rfl
 ·rw [f.w] at g3
  rw [hRl] at g3
  exact g3
end
def ArgR (T : Tab) (w : World) (S : Nat → Prop) (p : Bool × List CK) (ds : List DV) (v : Value) : Prop :=
 ds.length = p.2.length ∧ ((p.1 = true ∧ ∃ a : Array Value, v = .agg a ∧ a.size = p.2.length ∧ ∀ (j : Nat) k d, p.2[j]? = some k → ds[j]? = some d → ∃ u, a[j]? = some u ∧ Rd T w S k d u) ∨ (p.1 = false ∧ ∃ k d, p.2 = [k] ∧ ds = [d] ∧ Rd T w S k d v))
def ArgsR (T : Tab) (w : World) (S : Nat → Prop) : List (Bool × List CK) → List DV → List Value → Prop
 | [], ds, vs => ds = [] ∧ vs = []
 | p :: ps, ds, vs => ∃ v vs', vs = v :: vs' ∧ ArgR T w S p (ds.take p.2.length) v ∧ ArgsR T w S ps (ds.drop p.2.length) vs'
def OwnR (T : Tab) (w : World) (S : Nat → Prop) (lo : Nat) (el : TypeId) (rows : List (List DV)) (v : Value) (q : Option Nat) : Prop :=
 ∃ cks, T.cks el = some cks ∧ rows.length ≤ bL ∧ (∀ r ∈ rows, r.length = cks.length) ∧
  ((q = none ∧ rows = [] ∧ v = .slice none 0 0) ∨ ∃ b base c t cap ad, q = some b ∧ v = .slice (some ad) rows.length cap ∧ (cap ≠ 0 → ad = ⟨b, base, none⟩) ∧ rows.length ≤ cap ∧ lo ≤ b ∧ ¬ S b ∧ w.heap[b]? = some (.cells c t (0, 0)) ∧ base + cap * cks.length ≤ c.size ∧
    ∀ (i j : Nat) r d k, rows[i]? = some r → r[j]? = some d → cks[j]? = some k → ∃ u, c[base + (i * cks.length + j)]? = some u ∧ Rd T w S k d u)
def ResC (T : Tab) (w : World) (S : Nat → Prop) (lo : Nat) (k : CK × Bool) (d : DV) (v : Value) (q : Option Nat) : Prop :=
 (k.2 = false ∧ q = none ∧ Rd T w S k.1 d v) ∨ (k.2 = true ∧ ∃ el rows, k.1 = .lst el ∧ d = .L rows ∧ OwnR T w S lo el rows v q)
def ResP (T : Tab) (w : World) (S : Nat → Prop) (lo : Nat) (p : Bool × List (CK × Bool)) (ds : List DV) (qs : List (Option Nat)) (v : Value) : Prop :=
 ds.length = p.2.length ∧ qs.length = p.2.length ∧ ((p.1 = true ∧ ∃ a : Array Value, v = .agg a ∧ a.size = p.2.length ∧ ∀ (j : Nat) k d q, p.2[j]? = some k → ds[j]? = some d → qs[j]? = some q → ∃ u, a[j]? = some u ∧ ResC T w S lo k d u q) ∨
   (p.1 = false ∧ ∃ k d q, p.2 = [k] ∧ ds = [d] ∧ qs = [q] ∧ ResC T w S lo k d v q))
def ResL (T : Tab) (w : World) (S : Nat → Prop) (lo : Nat) : List (Bool × List (CK × Bool)) → List DV → List (Option Nat) → List Value → Prop
 | [], ds, qs, vs => ds = [] ∧ qs = [] ∧ vs = []
 | p :: ps, ds, qs, vs => ∃ v vs', vs = v :: vs' ∧ ResP T w S lo p (ds.take p.2.length) (qs.take p.2.length) v ∧ ResL T w S lo ps (ds.drop p.2.length) (qs.drop p.2.length) vs'
def packV (vs : List Value) : Value := match vs with
 | [v] => v
 | _ => .tuple vs.toArray
def Apart (qs : List (Option Nat)) : Prop := ∀ (i j : Nat) q, qs[i]? = some (some q) → qs[j]? = some (some q) → i = j
def Sp0 (P : Program) (T : Tab) (sg : Sig) (f : FuncId) (das rs : List DV) : Prop :=
 ∀ (w : World) (S : Nat → Prop) (vals : List Value), (∀ q, S q → q < w.heap.size) → ArgsR T w S sg.params das vals →
  Calls P f vals.toArray w fun e w' => ∃ vs qs S', e = .returned (packV vs) ∧ Below w.heap.size w w' ∧ (∀ q, S' q → (S q ∨ w.heap.size ≤ q) ∧ q < w'.heap.size) ∧ Apart qs ∧ ResL T w' S' w.heap.size sg.results rs qs vs
section
variable {P : Program} {T : Tab} {m m' : Mem} {w0 : W0} {S0 : Nat → Prop} {w : World}
theorem mok_more (hm : MOk T w0 S0 m) {w' : World} (hw : Below m.w.heap.size m.w w') {S' : Nat → Prop} (h1 : ∀ q, m.S q → S' q) (h2 : ∀ q, S' q → (m.S q ∨ m.w.heap.size ≤ q) ∧ q < w'.heap.size) :
  Keep T m { m with w := w', S := S' } ∧ MOk T w0 S0 { m with w := w', S := S' } := by
 obtain ⟨k1, k2⟩ := mok_grow hm hw
 have hK : Keep T { m with w := w' } { m with w := w', S := S' } := keep_gen rfl (fun _ _ => rfl) h1 fun b _ => .inr ⟨rfl, .inl rfl⟩
 refine ⟨k1.trans hK, ⟨fun b => BlkR.keep hK rfl rfl (fun _ _ _ => rfl) (fun _ _ => rfl) h1 (k2.blk b), k2.inj, fun b q l a => ?_, fun q hq => (h2 q hq).2, k2.low, fun q hq => h1 q (hm.s0 q hq), fun q hq => ?_, hm.s2, hm.kept⟩⟩
 ·obtain ⟨n1, n2⟩ := hm.new b q l a
  refine ⟨n1, fun hf hs => ?_⟩
  rcases (h2 q hs).1 with h | h
  ·exact n2 hf h
  ·have := (hm.blk b).lt l a; omega
 ·rcases (h2 q hq).1 with h | h
  ·exact hm.s1 q h
  ·exact .inr (.inl (Nat.le_trans hm.low.size h))
theorem mok_adopt (hm : MOk T w0 S0 m) {el : TypeId} {rows : List (List DV)} {v : Value} {lo : Nat} {q : Option Nat} {nb : Nat} {e : E} (h : OwnR T m.w m.S lo el rows v q) (hno : m.h nb = .no) (he : e.den m.env = .L rows) (hlo : w0.heap.size ≤ lo)
  (hq : ∀ b, (m.h b).live = true → ∀ x, q = some x → m.at_ b ≠ some x) :
  ∃ m', m'.env = m.env ∧ m'.w = m.w ∧ m'.S = m.S ∧ m'.h = upf m.h nb (.arr el e false) ∧ (∀ b, b ≠ nb → m'.at_ b = m.at_ b) ∧ m'.at_ nb = q ∧ Keep T m m' ∧ MOk T w0 S0 m' ∧ CVr T m' (.own nb el) v := by
 obtain ⟨cks, hk, hbl, hrl, h⟩ := h
 rcases h with ⟨rfl, rfl, rfl⟩ | ⟨b, base, c, t, cap, ad, rfl, rfl, hb1, hb2, hb3, hb4, hb5, hb6, hb7⟩
 ·obtain ⟨k1, k2⟩ := mok_virt (kill := none) hm hk hno (fun b hb => by cases hb) he
  refine ⟨{ m with ρ := upf m.ρ nb none, h := upf m.h nb (.arr el e false) }, rfl, rfl, rfl, rfl, fun b hb => ?_, ?_, k1, k2, .inr ⟨e, false, [], 0, ?_, he, ?_⟩⟩
  ·simp only [Mem.at_]; rw [upf_ne _ _ hb]
  ·simp only [Mem.at_]; rw [upf_same]; rfl
  ·exact upf_same _ _ _
  ·unfold SlR; dsimp only; rw [upf_same]; exact ⟨rfl, rfl, rfl⟩
 ·have hle : rows.length * cks.length ≤ cap * cks.length := Nat.mul_le_mul_right _ hb2
  have hp : Keep T m { m with ρ := upf m.ρ nb (some (b, base, c.size)), h := upf m.h nb (.arr el e false) } ∧ MOk T w0 S0 { m with ρ := upf m.ρ nb (some (b, base, c.size)), h := upf m.h nb (.arr el e false) } := by
   refine mok_gen hm (fun y => y = nb) rfl rfl (fun _ _ => rfl) hm.low (Nat.le_refl _) (fun y hy => ⟨upf_ne _ _ hy, upf_ne _ _ hy, fun _ _ _ => rfl⟩) (fun y hy hn => by subst hy; exact absurd hno hn) (fun hK y hy => ?_) (fun y y' q hy l l' a a' => ?_) (fun y q hy l a => ?_)
   ·subst hy
    dsimp only
    rw [upf_same]
    exact ⟨rows, cks, he, hk, hbl, hrl, .inr ⟨b, base, c, t, upf_same _ _ _, hb5, by omega, hb7, fun h => by cases h⟩⟩
   ·subst hy
    by_cases e' : y' = y
    ·exact e'.symm
    ·exfalso
     dsimp only at l'
     rw [upf_ne _ _ e'] at l'
     simp only [Mem.at_, upf_same] at a
     simp only [Mem.at_, upf_ne _ _ e'] at a'
     simp at a
     subst a
     exact hq y' l' b rfl a'
   ·subst hy
    simp only [Mem.at_, upf_same] at a
    simp at a
    subst a
    exact ⟨.inl (Nat.le_trans hlo hb3), fun _ => hb4⟩
  refine ⟨{ m with ρ := upf m.ρ nb (some (b, base, c.size)), h := upf m.h nb (.arr el e false) }, rfl, rfl, rfl, rfl, fun y hy => ?_, ?_, hp.1, hp.2, .inr ⟨e, false, rows, cap, ?_, he, ?_⟩⟩
  ·simp only [Mem.at_]; rw [upf_ne _ _ hy]
  ·simp only [Mem.at_]; rw [upf_same]; rfl
  ·exact upf_same _ _ _
  ·unfold SlR; dsimp only; rw [upf_same]
   exact ⟨cks.length, ad, (Tab.cks_size hk).1, rfl, fun h => by rw [hb1 h]; simp, hb2, by simpa using hb6⟩
def resC (nb ne : Nat) : List (CK × Bool) → List CV
 | [] => []
 | (.lst el, true) :: r => .own nb el :: resC (nb + 1) (ne + 1) r
 | (k, _) :: r => .c k (.V ne) :: resC nb (ne + 1) r
def resU (nb ne : Nat) : List (CK × Bool) → List (Nat × Blk)
 | [] => []
 | (.lst el, true) :: r => (nb, .arr el (.V ne) false) :: resU (nb + 1) (ne + 1) r
 | _ :: r => resU nb (ne + 1) r
def freshN : List (CK × Bool) → Nat
 | [] => 0
 | (.lst _, true) :: r => freshN r + 1
 | _ :: r => freshN r
def resL (nb ne : Nat) : List (Bool × List (CK × Bool)) → List (Bool × List CV)
 | [] => []
 | p :: r => (p.1, resC nb ne p.2) :: resL (nb + freshN p.2) (ne + p.2.length) r
def resLU (nb ne : Nat) : List (Bool × List (CK × Bool)) → List (Nat × Blk)
 | [] => []
 | p :: r => resU nb ne p.2 ++ resLU (nb + freshN p.2) (ne + p.2.length) r
def freshL : List (Bool × List (CK × Bool)) → Nat
 | [] => 0
 | p :: r => freshN p.2 + freshL r
def resV (nb ne : Nat) (l : List (Bool × List (CK × Bool))) : SV := match resL nb ne l with
 | [p] => if p.1 then .agg p.2 else match p.2 with
  | [c] => .one c
  | _ => .one .any
 | l => .tup l
structure Took (T : Tab) (w0 : W0) (S0 : Nat → Prop) (m : Mem) (lo nb top : Nat) (qs : List (Option Nat)) : Prop where
 ok : MOk T w0 S0 m
 lo : w0.heap.size ≤ lo
 free : ∀ b, nb ≤ b → b < top → m.h b = .no
 apart : Apart qs
 out : ∀ b x, (m.h b).live = true → some x ∈ qs → m.at_ b ≠ some x
theorem cells_take : ∀ (ks : List (CK × Bool)) (ds : List DV) (qs : List (Option Nat)) (vs : List Value) {m : Mem} {lo nb ne top : Nat}, Took T w0 S0 m lo nb top qs → nb + freshN ks ≤ top → ds.length = ks.length → qs.length = ks.length → vs.length = ks.length →
  (∀ (j : Nat) d, ds[j]? = some d → m.env.getD (ne + j) (.I 0) = d) → (∀ (j : Nat) k d q v, ks[j]? = some k → ds[j]? = some d → qs[j]? = some q → vs[j]? = some v → ResC T m.w m.S lo k d v q) →
  ∃ m', m'.env = m.env ∧ m'.w = m.w ∧ m'.S = m.S ∧ m'.h = upl m.h (resU nb ne ks) ∧ Keep T m m' ∧ MOk T w0 S0 m' ∧ (∀ b, nb + freshN ks ≤ b → b < top → m'.h b = .no) ∧
   (∀ b x, (m'.h b).live = true → m'.at_ b = some x → ((m.h b).live = true ∧ m.at_ b = some x) ∨ some x ∈ qs) ∧ CsR T m' (resC nb ne ks) vs
 | [], ds, qs, vs, m, lo, nb, ne, top, ht, hz, hd, hq, hv, he, hr => by
  cases vs with
  | cons _ _ => cases hv
  | nil => exact ⟨m, rfl, rfl, rfl, rfl, Keep.refl, ht.ok, fun b hb => ht.free b (by simp only [freshN] at hb; omega), fun b x l a => .inl ⟨l, a⟩, rfl, fun j c hj => by cases hj⟩
 | k :: ks, [], _, _, _, _, _, _, _, _, _, hd, _, _, _, _ => by cases hd
 | k :: ks, _ :: _, [], _, _, _, _, _, _, _, _, _, hq, _, _, _ => by cases hq
 | k :: ks, _ :: _, _ :: _, [], _, _, _, _, _, _, _, _, _, hv, _, _ => by cases hv
 | k :: ks, d :: ds, q :: qs, v :: vs, m, lo, nb, ne, top, ht, hz, hd, hq, hv, he, hr => by
  have hden : (E.V ne).den m.env = d := by have := he 0 d rfl; simpa [E.den] using this
  have hr0 := hr 0 k d q v rfl rfl rfl rfl
  have hap : Apart qs := fun i j x h1 h2 => by have := ht.apart (i + 1) (j + 1) x h1 h2; omega
  have cs_cons : ∀ {m' : Mem} {c : CV} {cs : List CV}, v.oneCell' = true → CVr T m' c v → CsR T m' cs vs → CsR T m' (c :: cs) (v :: vs) := fun h1 h2 h3 =>
   ⟨by simp [h3.1], fun j c' hj => by
     cases j with
     | zero => cases hj; exact ⟨v, rfl, h1, h2⟩
     | succ j => exact h3.2 j c' hj⟩
  rcases hr0 with ⟨h1, rfl, h2⟩ | ⟨h1, el, rows, h2, rfl, h3⟩
  ·have hmatch : resC nb ne (k :: ks) = .c k.1 (.V ne) :: resC nb (ne + 1) ks ∧ resU nb ne (k :: ks) = resU nb (ne + 1) ks ∧ freshN (k :: ks) = freshN ks := by
    obtain ⟨k1, k2⟩ := k
    simp only at h1; subst h1
    cases k1 <;> exact ⟨rfl, rfl, rfl⟩
   obtain ⟨m', g1, g2, g3, g4, g5, g6, g7, g8, g9⟩ := cells_take ks ds qs vs (m := m) (lo := lo) (nb := nb) (ne := ne + 1) (top := top) ⟨ht.ok, ht.lo, ht.free, hap, fun b x l hx => ht.out b x l (List.mem_cons_of_mem _ hx)⟩ (by rw [hmatch.2.2] at hz; exact hz) (by simpa using hd) (by simpa using hq) (by simpa using hv)
    (fun j d' hj => by have := he (j + 1) d' hj; rw [← this]; congr 1; omega) (fun j k' d' q' v' a b c e => hr (j + 1) k' d' q' v' a b c e)
   refine ⟨m', g1, g2, g3, by rw [hmatch.2.1]; exact g4, g5, g6, by rw [hmatch.2.2]; exact g7, fun b x l a => ?_, by rw [hmatch.1]; exact cs_cons h2.one (g5 (.c k.1 (.V ne)) v (by rw [cvr_c, hden]; exact h2)) g9⟩
   rcases g8 b x l a with h | h
   ·exact .inl h
   ·exact .inr (List.mem_cons_of_mem _ h)
  ·have hmatch : resC nb ne (k :: ks) = .own nb el :: resC (nb + 1) (ne + 1) ks ∧ resU nb ne (k :: ks) = (nb, .arr el (.V ne) false) :: resU (nb + 1) (ne + 1) ks ∧ freshN (k :: ks) = freshN ks + 1 := by
    obtain ⟨k1, k2⟩ := k
    simp only at h1 h2; subst h1; subst h2
    exact ⟨rfl, rfl, rfl⟩
   obtain ⟨m1, a1, a2, a3, a4, a5, a6, a7, a8, a9⟩ := mok_adopt (e := .V ne) ht.ok h3 (ht.free nb (Nat.le_refl _) (by rw [hmatch.2.2] at hz; omega)) hden ht.lo (fun b l x hx => ht.out b x l (by rw [hx]; exact List.mem_cons_self ..))
   have hlive : ∀ b, b ≠ nb → m1.h b = m.h b := fun b hb => by rw [a4]; exact upf_ne _ _ hb
   have hone : v.oneCell' = true := by
    obtain ⟨_, _, _, _, h⟩ := h3
    rcases h with ⟨_, _, rfl⟩ | ⟨_, _, _, _, _, _, _, rfl, _⟩ <;> rfl
   obtain ⟨m', g1, g2, g3, g4, g5, g6, g7, g8, g9⟩ := cells_take ks ds qs vs (m := m1) (lo := lo) (nb := nb + 1) (ne := ne + 1) (top := top) ⟨a8, ht.lo, fun b hb hb' => by rw [hlive b (by omega)]; exact ht.free b (by omega) hb', hap, fun b x l hx => by
       by_cases hb : b = nb
       · subst hb
         rw [a6]
         intro e
         subst e
         obtain ⟨j, hj⟩ := List.mem_iff_getElem?.1 hx
         have := ht.apart 0 (j + 1) x rfl hj
         omega
       · rw [a5 b hb]
         rw [hlive b hb] at l
         exact ht.out b x l (List.mem_cons_of_mem _ hx)⟩ (by rw [hmatch.2.2] at hz; omega) (by simpa using hd) (by simpa using hq) (by simpa using hv)
    (fun j d' hj => by rw [a1]; have := he (j + 1) d' hj; rw [← this]; congr 1; omega) (fun j k' d' q' v' a b c e => by rw [a2, a3]; exact hr (j + 1) k' d' q' v' a b c e)
   refine ⟨m', g1.trans a1, g2.trans a2, g3.trans a3, by rw [hmatch.2.1, g4, a4]; rfl, a7.trans g5, g6, fun b hb => g7 b (by rw [hmatch.2.2] at hb; omega), fun b x l a => ?_, by rw [hmatch.1]; exact cs_cons hone (g5 _ _ a9) g9⟩
   rcases g8 b x l a with ⟨h, h'⟩ | h
   ·by_cases hb : b = nb
    ·subst hb
     rw [a6] at h'
     exact .inr (by rw [h']; exact List.mem_cons_self ..)
    ·rw [hlive b hb] at h
     rw [a5 b hb] at h'
     exact .inl ⟨h, h'⟩
   ·exact .inr (List.mem_cons_of_mem _ h)
end
end Go.Proofs.YtbegccgpmhbnfaaGreat
