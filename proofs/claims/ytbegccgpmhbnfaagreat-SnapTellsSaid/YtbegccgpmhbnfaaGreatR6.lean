/- What is proved here: parts of the proof of SnapTells. -/
import Derived.Test.YtbegccgpmhbnfaaGreatR5
import Derived.Test.YtbegccgpmhbnfaaGreatProg
namespace Go.Proofs.YtbegccgpmhbnfaaGreat
open Go.RowKit
set_option linter.unusedVariables false
set_option linter.unusedSimpArgs false
set_option maxHeartbeats 1000000
set_option maxRecDepth 100000
deriving instance DecidableEq for Out
def dirs (o : Oper) : List Nat := (o.after.toList.filter (Region.binds .any)).map (·.on)
def tbOf (os : List Oper) : List (List Nat) := os.foldl (fun tb o => tb ++ [((dirs o).flatMap fun k => k :: tb.getD k []).eraseDups]) []
def okTb (os : List Oper) (tb : List (List Nat)) : Bool := os.zipIdx.all fun (o, i) => (dirs o).all (fun k => decide (k < i)) && (tb.getD i []).all fun j => (dirs o).any fun k => k == j || (decide (k < i) && (tb.getD k []).contains j)
def looks (ops : Array Oper) (o : Oper) : List Nat := (o.op.operands.toList.filterMap fun x => match x with
  | .tmp t => some t
  | _ => none) ++ ((o.guard.bind fun g => (ops[g.1]?).bind (·.dst)).toList)
def sep (tb : List (List Nat)) (i j : Nat) : Bool := j == i || (decide (j < i) && (tb.getD i []).contains j) || (decide (i < j) && (tb.getD j []).contains i)
def restr (V : List Nat) (h : Nat → Blk) : Nat → Blk := fun b => if V.contains b then h b else .dead
def cvB : CV → List Nat
 | .own b _ => [b]
 | .sub b _ _ _ => [b]
 | .rp b _ => [b]
 | .ap b _ _ _ _ => [b]
 | _ => []
def svB : SV → List Nat
 | .one c => cvB c
 | .agg l => l.flatMap cvB
 | .tup l => l.flatMap fun p => p.2.flatMap cvB
def reachB (h : Nat → Blk) : Nat → List Nat → List Nat
 | 0, l => l
 | n + 1, l => reachB h n ((l ++ l.flatMap fun b => match h b with
   | .box cs => cs.flatMap cvB
   | _ => []).eraseDups)
def freeB (tb : List (List Nat)) (l : List Ent) (st : St) (i b : Nat) : Bool := (st.h.lookup b).isNone && l.zipIdx.all fun (e, j) => !(keysU e).contains b || (decide (i ≤ j) && sep tb i j)
def chain (tb : List (List Nat)) (l : List Ent) : Bool := l.zipIdx.all fun (e, j) => (keysU e).all fun b => l.zipIdx.all fun (e', i) => !(decide (i < j) && (keysU e').contains b) || ((tb.getD j []).contains i || decide (blkE b e = blkE b e'))
def frozenB (x : Blk) : Blk := match x with
 | .arr el e _ => .arr el e true
 | x => x
def softB (l : List Ent) (st : St) (b : Nat) : Bool := l.all fun e => !(keysU e).contains b || decide (blkE b e = frozenB (st.blk b))
def variants (st : St) : List Nat → (Nat → Blk) → List (Nat → Blk)
 | [], h => [h]
 | b :: r, h => variants st r (upf h b (st.blk b)) ++ variants st r (upf h b (frozenB (st.blk b)))
theorem variants_ok {st : St} {g : Nat → Blk} : ∀ (r : List Nat) (h : Nat → Blk), (∀ b ∈ r, g b = st.blk b ∨ g b = frozenB (st.blk b)) → (∀ b, b ∉ r → h b = .dead ∨ h b = g b) → ∃ h0 ∈ variants st r h, SubH h0 g
 | [], h, h1, h2 => ⟨h, List.mem_cons_self .., fun b => h2 b (by simp)⟩
 | b :: r, h, h1, h2 => by
  have key : ∀ x, g b = x → ∀ c, c ∉ r → upf h b x c = .dead ∨ upf h b x c = g c := fun x hx c hc => by
   by_cases hcb : c = b
   ·subst hcb; exact .inr (by rw [upf_same, hx])
   ·rw [upf_ne _ _ hcb]; exact h2 c (by simp [hcb, hc])
  rcases h1 b (List.mem_cons_self ..) with hb | hb
  ·obtain ⟨h0, g1, g2⟩ := variants_ok r (upf h b (st.blk b)) (fun c hc => h1 c (List.mem_cons_of_mem _ hc)) (key _ hb)
   exact ⟨h0, List.mem_append.2 (.inl g1), g2⟩
  ·obtain ⟨h0, g1, g2⟩ := variants_ok r (upf h b (frozenB (st.blk b))) (fun c hc => h1 c (List.mem_cons_of_mem _ hc)) (key _ hb)
   exact ⟨h0, List.mem_append.2 (.inr g1), g2⟩
def hardB (tb : List (List Nat)) (l : List Ent) (i b : Nat) : Bool := l.zipIdx.all fun (e, j) => !(keysU e).contains b || sep tb i j
def entChk (T : Tab) (sig : FuncId → Option Sig) (ops : Array Oper) (tb : List (List Nat)) (l : List Ent) (st : St) (far : Nat) (i : Nat) (o : Oper) (e : Ent) : Bool :=
 (looks ops o).all (fun x => match wrS ops.toList x with
   | some j => sep tb i j
   | none => true) && match e.2 with
 | none => true
 | some out =>
  let V := reachB e.1.blk 3 (o.op.operands.toList.flatMap fun x => svB (opLook e.1.get x)).eraseDups
  let nb := if out.upd.any (fun u => decide (e.1.nb ≤ u.1)) then e.1.nb else far
  (V.filter fun b => !hardB tb l i b).all (softB l st) && ((variants st (V.filter fun b => !hardB tb l i b) (restr (V.filter (hardB tb l i)) e.1.blk)).all (fun h => decide (symop T sig o.op (opLook e.1.get) h nb e.1.ne = some out)) &&
    ((List.range (max (nb + 1) (nextB nb out.upd))).all (fun b => decide (b < nb) || freeB tb l st i b) && out.upd.all (fun p => !p.2.frz || decide (p.1 < nb))))
def drawChk (T : Tab) (sig : FuncId → Option Sig) (ops : Array Oper) (st : St) (l : List Ent) : Bool :=
 let os := ops.toList
 let tb := tbOf os
 let far := l.foldl (fun n e => match e.2 with
   | some out => nextB n out.upd
   | none => n) st.nb
 okTb os tb && (os.zipIdx.all (fun (o, i) => match o.dst with
   | some x => wrS os x == some i
   | none => true) && (chain tb l && (decide (l.length = os.length) && (os.zipIdx.all (fun (o, i) => match l[i]? with
   | some e => entChk T sig ops tb l st far i o e
   | none => false)))))
section
variable {P : Program} {T : Tab} {sig : FuncId → Option Sig} {ops : Array Oper} {w0 : W0} {S0 : Nat → Prop} {Q : Exit → Act → World → Prop} {env : List DV} {l : List Ent} {st : St}
theorem zip_all {α : Type} {l : List α} {f : α × Nat → Bool} (h : l.zipIdx.all f = true) {i : Nat} {x : α} (hi : l[i]? = some x) : f (x, i) = true := by
 refine List.all_eq_true.1 h (x, i) ?_
 rw [List.mem_zipIdx_iff_getElem?]
 simpa using hi
def Closed (os : List Oper) (p : Nat → Bool) : Prop := ∀ (i : Nat) o, os[i]? = some o → p i = true → ∀ k ∈ dirs o, p k = true
theorem tb_closed {os : List Oper} {tb : List (List Nat)} (h : okTb os tb = true) {p : Nat → Bool} (hc : Closed os p) : ∀ (i : Nat) o, os[i]? = some o → (∀ k ∈ dirs o, p k = true) → ∀ j ∈ tb.getD i [], p j = true := by
 intro i
 induction i using Nat.strongRecOn with
 | _ i ih =>
  intro o ho hd j hj
  have h1 := zip_all h ho
  simp only [Bool.and_eq_true, List.all_eq_true, List.any_eq_true, Bool.or_eq_true, beq_iff_eq, decide_eq_true_eq, List.contains_iff_mem] at h1
  obtain ⟨k, hk, h2⟩ := h1.2 j hj
  rcases h2 with rfl | ⟨h2, h3⟩
  ·exact hd _ hk
  ·have hlt : i < os.length := (List.getElem?_eq_some_iff.1 ho).1
   have hok : os[k]? = some os[k] := List.getElem?_eq_getElem (by omega)
   exact ih k h2 _ hok (fun k' hk' => hc k _ hok (hd k hk) k' hk') j h3
structure Inv (T : Tab) (w0 : W0) (S0 : Nat → Prop) (ops : Array Oper) (l : List Ent) (st : St) (env : List DV) (p : Nat → Bool) (a : Act) (m : Mem) : Prop where
 env : m.env = env
 ok : MOk T w0 S0 m
 h : ∀ b, m.h b = blkP l st p b
 sl : ∀ x, SVr T m (slotP ops.toList l st p x) (a.tmps.getD x undef)
 df : a.defers = []
 nt : a.tmps.size = st.nt
def addP (p : Nat → Bool) (i : Nat) : Nat → Bool := fun j => j == i || p j
theorem Inv.put {p : Nat → Bool} {a : Act} {m m' : Mem} {i : Nat} {o : Oper} {e : Ent} {v : Value} (hu : Uniq ops.toList) (hch : ∀ j e' b, i < j → l[j]? = some e' → b ∈ keysU e' → b ∈ keysU e → p j = true → blkE b e' = blkE b e) (hI : Inv T w0 S0 ops l st env p a m) (ho : ops.toList[i]? = some o) (he : l[i]? = some e) (hk : Keep T m m') (hE : m'.env = env) (hok : MOk T w0 S0 m')
  (hh : ∀ b, m'.h b = if b ∈ keysU e then blkE b e else m.h b) (hv : SVr T m' (valE e) v) (hd : ∀ x, o.dst = some x → x < st.nt) : Inv T w0 S0 ops l st env (addP p i) (a.put o.dst v) m' := by
 refine ⟨hE, hok, fun b => ?_, fun x => ?_, ?_, ?_⟩
 ·rw [hh b]
  by_cases hb : b ∈ keysU e
  ·rw [if_pos hb, blkP_last he hb (by simp [addP]) (fun j e' h1 h2 h3 h4 => ?_)]
   have : j ≠ i := by omega
   exact hch j e' b h1 h2 h3 hb (by simpa [addP, this] using h4)
  ·rw [if_neg hb, hI.h b]
   refine blkP_congr fun j e' hj hk' => ?_
   have : j ≠ i := fun e2 => by
    rw [e2, he] at hj; cases hj; exact hb hk'
   simp [addP, this]
 ·by_cases hx : o.dst = some x
  ·rw [hx, getD_put (by rw [hI.nt]; exact hd x hx), if_pos rfl]
   unfold slotP
   rw [hu.s i o x ho hx]
   simp only [addP, beq_self_eq_true, Bool.true_or, if_true, he, Option.map_some, Option.getD_some]
   exact hv
  ·have e1 : slotP ops.toList l st (addP p i) x = slotP ops.toList l st p x := slotP_congr fun j hj => by
    have : j ≠ i := fun e' => by
     obtain ⟨o', h1, h2⟩ := wrS_dst hj
     rw [e', ho] at h1; cases h1; exact hx h2
    simp [addP, this]
   rw [e1]
   have e2 : (a.put o.dst v).tmps.getD x undef = a.tmps.getD x undef := by
    cases hd' : o.dst with
    | none => rfl
    | some d => rw [getD_put (by rw [hI.nt]; exact hd d hd'), if_neg (fun e' => hx (by rw [hd', e']))]
   rw [e2]
   exact hk.sv (hI.sl x)
 ·cases o.dst <;> exact hI.df
 ·cases o.dst with
  | none => exact hI.nt
  | some x => unfold Act.put; simp; exact hI.nt
theorem yields_sv {m : Mem} {a : Act} {s : SV} {j d : Nat} {b : Bool} (hs : SVr T m s (a.tmps.getD d undef)) (hd : (ops[j]?).bind (·.dst) = some d) (hv : s = .one (.c .bool (.B b))) : yielded ops a.tmps j = some b := by
 rw [hv] at hs
 obtain ⟨x, h1, h2⟩ := Rd.bool_inv (show CVr T m (.c .bool (.B b)) _ from hs)
 cases h1
 unfold yielded
 rw [hd]
 simp only [Option.bind_some]
 rw [Array.getD_eq_getD_getElem?] at h2
 cases ht : a.tmps[d]? with
 | none => rw [ht] at h2; cases h2
 | some v => rw [ht] at h2; simp at h2; subst h2; rfl
theorem yields_sv_no {m : Mem} {a : Act} {s : SV} {j d : Nat} (hs : SVr T m s (a.tmps.getD d undef)) (hd : (ops[j]?).bind (·.dst) = some d) (hv : s = .tup []) : yielded ops a.tmps j = none := by
 rw [hv] at hs
 obtain ⟨x, h1, -⟩ := hs
 unfold yielded
 rw [hd]
 simp only [Option.bind_some]
 rw [Array.getD_eq_getD_getElem?] at h1
 cases ht : a.tmps[d]? with
 | none => rfl
 | some v => rw [ht] at h1; simp at h1; subst h1; rfl
theorem inv_step (hT : T.Ok P) (hgo : ∀ f sg, sig f = some sg → isGo P (keyF f) = true) (hu : Uniq ops.toList) {tb : List (List Nat)} (htb : okTb ops.toList tb = true) (hch : chain tb l = true) {far i : Nat} {o : Oper} {e : Ent} (hc : entChk T sig ops tb l st far i o e = true) (ho : ops.toList[i]? = some o) (he : l[i]? = some e) (hent : EntOk T sig ops env l st i e)
  (hf : FactL P T sig env l) (hll : l.length = ops.toList.length) {p : Nat → Bool} (hcl : Closed ops.toList p) (hpi : p i = false) (hdi : ∀ k ∈ dirs o, p k = true) {a : Act} {m : Mem} (hI : Inv T w0 S0 ops l st env p a m) {K : Act → World → Prop} (hK : ∀ a' m', Inv T w0 S0 ops l st env (addP p i) a' m' → K a' m'.w) : wpOp P ops Q i K a m.w := by
 obtain ⟨o', ho', hA, hB, hnt, hm⟩ := hent
 rw [ho] at ho'; cases ho'
 -- what is ahead, what is behind
 have hsep : ∀ j, j < ops.toList.length → sep tb i j = true → p j = decide (j < i) := fun j hjl hj => by
  simp only [sep, Bool.or_eq_true, beq_iff_eq, Bool.and_eq_true, decide_eq_true_eq, List.contains_iff_mem] at hj
  rcases hj with (rfl | ⟨h1, h2⟩) | ⟨h1, h2⟩
  ·rw [hpi]; simp
  ·rw [tb_closed htb hcl i o ho hdi j h2]; simp [h1]
  ·have : ¬ j < i := by omega
   cases hpj : p j with
   | false => simp [this]
   | true =>
    have hoj := List.getElem?_eq_getElem hjl
    have := tb_closed htb hcl j _ hoj (hcl j _ hoj hpj) i h2
    rw [hpi] at this; cases this
 have hch' : ∀ j e' b, i < j → l[j]? = some e' → b ∈ keysU e' → b ∈ keysU e → p j = true → blkE b e' = blkE b e := fun j e' b h1 h2 h3 h4 h5 => by
  have h6 := zip_all (i := i) (x := e) (List.all_eq_true.1 (zip_all hch h2) b h3) he
  simp only [Bool.or_eq_true, Bool.not_eq_true', Bool.and_eq_false_iff, decide_eq_false_iff_not, decide_eq_true_eq, List.contains_iff_mem] at h6
  rcases h6 with (h6 | h6) | h6 | h6
  ·exact absurd h1 h6
  ·rw [List.contains_eq_mem] at h6; simp only [decide_eq_false_iff_not] at h6; exact absurd h4 h6
  ·have hjl : j < ops.toList.length := by rw [← hll]; exact (List.getElem?_eq_some_iff.1 h2).1
   have hoj := List.getElem?_eq_getElem hjl
   have := tb_closed htb hcl j _ hoj (hcl j _ hoj h5) i h6
   rw [hpi] at this; cases this
  ·exact h6
 unfold entChk at hc
 rw [Bool.and_eq_true] at hc
 obtain ⟨hlk, hc⟩ := hc
 have hslot : ∀ x ∈ looks ops o, SVr T m (e.1.get x) (a.tmps.getD x undef) := fun x hx => by
  refine hA x m _ hI.env ?_
  have e1 : slotP ops.toList l st (fun j => decide (j < i)) x = slotP ops.toList l st p x := slotP_congr fun j hj => by
   have := List.all_eq_true.1 hlk x hx
   rw [hj] at this
   obtain ⟨o2, h1, -⟩ := wrS_dst hj
   exact (hsep j (List.getElem?_eq_some_iff.1 h1).1 this).symm
  rw [e1]
  exact hI.sl x
 have hoi : ops[i]? = some o := by rw [← Array.getElem?_toList]; exact ho
 have hguard : ∀ j want d, o.guard = some (j, want) → (ops[j]?).bind (·.dst) = some d → d ∈ looks ops o := fun j want d hg hd => by
  unfold looks
  rw [hg]
  simp [hd]
 unfold wpOp
 rw [hoi]
 simp only
 obtain ⟨s, oo⟩ := e
 cases oo with
 | none =>
  obtain ⟨⟨j, want, d, hg, hd, hv⟩, hn⟩ := hm
  have hs := hslot d (hguard j want d hg hd)
  have hwant : ¬ Region.wanted o (yielded ops a.tmps) = true := by
   rcases hv with hv | hv
   ·simp [Region.wanted, hg, yields_sv hs hd hv]
   ·simp [Region.wanted, hg, yields_sv_no hs hd hv]
  rw [if_neg hwant]
  exact hK _ m (hI.put hu hch' ho he Keep.refl hI.env hI.ok (fun b => by rw [if_neg (by simp [keysU])]) ⟨#[], rfl, rfl, fun j p hp => by cases hp⟩ hn)
 | some out =>
  obtain ⟨hg, st1, hs1⟩ := hm
  have hwant : Region.wanted o (yielded ops a.tmps) = true := by
   rcases hg with hg | ⟨j, want, d, hg, hd, hv⟩
   ·simp [Region.wanted, hg]
   ·simp [Region.wanted, hg, yields_sv (hslot d (hguard j want d hg hd)) hd hv]
  rw [if_pos hwant]
  left
  simp only [Bool.and_eq_true, decide_eq_true_eq] at hc
  generalize hV : reachB s.blk 3 (o.op.operands.toList.flatMap fun x => svB (opLook s.get x)).eraseDups = V at hc
  generalize hnb : (if (out.upd.any fun u => decide (s.nb ≤ u.1)) = true then s.nb else far) = nb at hc
  obtain ⟨c1, c2, c3, c4⟩ := hc
  obtain ⟨h0, hv0, hsub⟩ := variants_ok (st := st) (g := m.h) (V.filter fun b => !hardB tb l i b) (restr (V.filter (hardB tb l i)) s.blk) (fun b hb => by
    have h1 := List.all_eq_true.1 c1 b hb
    rw [hI.h b]
    by_cases hany : ∃ j e', l[j]? = some e' ∧ b ∈ keysU e' ∧ p j = true
    · right
      have : ∀ n, (∃ j e', j < n ∧ l[j]? = some e' ∧ b ∈ keysU e' ∧ p j = true) → lastB l st p b n = frozenB (st.blk b) := fun n => by
        induction n with
        | zero => rintro ⟨j, e', h, -⟩; omega
        | succ n ih =>
          rintro ⟨j, e', h2, h3, h4, h5⟩
          unfold lastB
          split
          · rename_i e2 he2
            split
            · rename_i hc2
              simp only [Bool.and_eq_true, List.contains_iff_mem] at hc2
              have h6 := List.all_eq_true.1 h1 e2 (List.mem_of_getElem? he2)
              have h7 : (keysU e2).contains b = true := by simpa using hc2.2
              simp only [h7, Bool.not_true, Bool.false_or, decide_eq_true_eq] at h6
              exact h6
            · rename_i hc2
              refine ih ⟨j, e', ?_, h3, h4, h5⟩
              have : j ≠ n := fun e3 => by
                subst e3
                rw [he2] at h3; cases h3
                exact hc2 (by simp [h4, h5])
              omega
          · rename_i hn2
            refine ih ⟨j, e', ?_, h3, h4, h5⟩
            have : j ≠ n := fun e3 => by
              subst e3
              rw [hn2] at h3; cases h3
            omega
      obtain ⟨j, e', h3, h4, h5⟩ := hany
      exact this _ ⟨j, e', (List.getElem?_eq_some_iff.1 h3).1, h3, h4, h5⟩
    · left
      exact blkP_none fun j e' h2 h3 => by
        cases hp : p j with
        | false => rfl
        | true => exact absurd ⟨j, e', h2, h3, hp⟩ hany) (fun b hb => by
    unfold restr
    by_cases hbv : (V.filter (hardB tb l i)).contains b = true
    · refine .inr ?_
      rw [if_pos hbv, hB b, hI.h b]
      have hh := (List.mem_filter.1 (List.contains_iff_mem.1 hbv)).2
      refine blkP_congr fun j e' hj hk' => ?_
      have h5 := zip_all hh hj
      have h6 : (keysU e').contains b = true := by simpa using hk'
      simp only [h6, Bool.not_true, Bool.false_or] at h5
      exact (hsep j (by rw [← hll]; exact (List.getElem?_eq_some_iff.1 hj).1) h5).symm
    · exact .inl (if_neg hbv))
  have c2' : symop T sig o.op (opLook s.get) h0 nb s.ne = some out := by simpa using List.all_eq_true.1 c2 h0 hv0
  obtain ⟨f1, f2⟩ := hf s out (List.mem_of_getElem? he)
  have hfree : ∀ b, nb ≤ b → (b = nb ∨ b < nextB nb out.upd) → m.h b = .no := fun b hb hb2 => by
   have h1 := List.all_eq_true.1 c3 b (List.mem_range.2 (by rcases hb2 with rfl | hb2 <;> omega))
   simp only [Bool.or_eq_true, decide_eq_true_eq] at h1
   have h2 := h1.resolve_left (by omega)
   simp only [freeB, Bool.and_eq_true, Option.isNone_iff_eq_none] at h2
   rw [hI.h b]
   have hs0 : st.blk b = .no := by unfold St.blk; rw [h2.1]; rfl
   rw [blkP_none (fun j e' hj hk' => ?_)]
   ·exact hs0
   have h5 := zip_all h2.2 hj
   have h6 : (keysU e').contains b = true := by simpa using hk'
   simp only [h6, Bool.not_true, Bool.false_or, Bool.and_eq_true, decide_eq_true_eq] at h5
   rw [hsep j (by rw [← hll]; exact (List.getElem?_eq_some_iff.1 hj).1) h5.2]
   simp; omega
  have hold : ∀ b x, (b, x) ∈ out.upd → x.frz = true → b < nb := fun b x hx hfz => by
   have := List.all_eq_true.1 c4 (b, x) hx
   simpa [hfz] using this
  have hlook : ∀ x ∈ o.op.operands, SVr T m (opLook s.get x) (a.eval x) := fun x hx => by
   cases x with
   | tmp t => exact hslot t (List.mem_append.2 (.inl (List.mem_filterMap.2 ⟨.tmp t, by simpa using hx, rfl⟩)))
   | const v => exact svOf_ok v
   | func f => exact (rfl : Value.func (.func f) #[] #[] = _)
   | global g => trivial
  have hds : ∀ x, o.dst = some x → x < st.nt := fun x hx => by
   unfold St.step at hs1
   obtain ⟨out', ho2, hs1⟩ := Option.bind_eq_some_iff.1 hs1
   split at hs1
   case isFalse => cases hs1
   rename_i hok
   unfold okStep at hok
   simp only [Bool.and_eq_true] at hok
   have := hok.2.2.2.2.2
   rw [hx] at this
   rw [← hnt]
   simpa using this
  have main : ∀ rs : List DV, (∀ f es n, out.call = some (f, es, n) → ∃ sg, sig f = some sg ∧ Sp P T sg f (es.map (·.den m.env)) rs) → (∀ (j : Nat) d, rs[j]? = some d → m.env.getD (s.ne + j) (.I 0) = d) → Goes P o a m fun v m' => Inv T w0 S0 ops l st env (addP p i) (a.put o.dst v) m' := fun rs g1 g2 => by
   have := op_sound (P := P) (a := a) (rs := rs) (symop_mono hsub c2') ⟨hT, hgo, hI.ok, by rw [hI.env]; exact f1, g1, g2, hfree, hold⟩ hlook
   have conv : ∀ v m', (Went T w0 S0 m out.upd m' ∧ SVr T m' out.val v) → Inv T w0 S0 ops l st env (addP p i) (a.put o.dst v) m' := fun v m' ⟨hw, hv⟩ =>
    hI.put hu hch' ho he hw.keep (hw.env.trans hI.env) hw.ok (fun b => by
      rw [hw.h, upl_at]
      by_cases hb : b ∈ out.upd.map (·.1)
      · rw [if_pos (by exact hb)]
        obtain ⟨x, hx⟩ := lookup_some_of (u := out.upd.reverse) (b := b) (by rw [List.map_reverse]; exact List.mem_reverse.2 hb)
        simp [blkE, hx]
      · rw [if_neg (by exact hb), lookup_none_of (by rw [List.map_reverse]; exact fun h => hb (List.mem_reverse.1 h))]; rfl) hv hds
   rcases this with ⟨v, m', h1, h2⟩ | ⟨m', h1, h2⟩ | ⟨f, args, h1, h2⟩
   ·exact .inl ⟨v, m', h1, conv v m' h2⟩
   ·exact .inr (.inl ⟨m', h1, conv _ m' h2⟩)
   ·exact .inr (.inr ⟨f, args, h1, h2.mono fun e w' ⟨v, m', e1, e2, e3⟩ => ⟨v, m', e1, e2, conv v m' e3⟩⟩)
  have hgoes : Goes P o a m fun v m' => Inv T w0 S0 ops l st env (addP p i) (a.put o.dst v) m' := by
   cases hcl' : out.call with
   | none => exact main [] (fun f es n hf => by rw [hcl'] at hf; cases hf) (fun j d hj => by cases hj)
   | some y =>
    obtain ⟨f, xs, n⟩ := y
    obtain ⟨rs, sg, h1, h2, h3⟩ := f2 f xs n hcl'
    exact main rs (fun f' es' n' hf => by rw [hcl'] at hf; cases hf; exact ⟨sg, h1, by rw [hI.env]; exact h2⟩) (fun j d hj => by rw [hI.env]; exact h3 j d hj)
  exact hgoes.wp fun v m' h => hK _ m' h
theorem syn_path {r : List Oper} {s s' : St} {l' : List Ent} (hp : Path T sig ops env r s l' s') : (∀ p ∈ s.h, p.1 < s.nb) → (∀ p ∈ s.t, p.2.bd s.ne = true) → (∀ p ∈ s.h, p.2.bd s.ne = true) → (∀ p ∈ s'.h, p.1 < s'.nb) ∧ (∀ p ∈ s'.t, p.2.bd s'.ne = true) ∧ (∀ p ∈ s'.h, p.2.bd s'.ne = true) := by
 induction hp with
 | nil s => exact fun h1 h2 h3 => ⟨h1, h2, h3⟩
 | @go o r s s1 s2 out l' hg hs h ih =>
  intro h1 h2 h3
  unfold St.step at hs
  obtain ⟨out', ho, hs⟩ := Option.bind_eq_some_iff.1 hs
  split at hs
  case isFalse => cases hs
  rename_i hok
  cases hs
  unfold okStep at hok
  simp only [Bool.and_eq_true] at hok
  obtain ⟨c1, c2, c3, c4, c5, c6⟩ := hok
  have hnb := nextB_ge out.upd s.nb
  refine ih (fun p hp => ?_) (fun p hp => ?_) (fun p hp => ?_)
  ·rcases List.mem_append.1 hp with hp | hp
   ·exact hnb.2 p (List.mem_reverse.1 hp)
   ·exact Nat.lt_of_lt_of_le (h1 p hp) hnb.1
  ·have old : p ∈ s.t → p.2.bd (s.ne + out.n) = true := fun hp => SV.bd_mono (Nat.le_add_right _ _) p.2 (h2 p hp)
   dsimp only at hp ⊢
   split at hp
   ·rcases List.mem_cons.1 hp with rfl | hp
    ·exact c3
    ·exact old hp
   ·exact old hp
  ·rcases List.mem_append.1 hp with hp | hp
   ·exact List.all_eq_true.1 c4 p (List.mem_reverse.1 hp)
   ·exact Blk.bd_mono (Nat.le_add_right _ _) p.2 (h3 p hp)
 | @skip o r s s2 l' j want d hg hd hv hn h ih =>
  intro h1 h2 h3
  refine ih (by cases o.dst <;> exact h1) (fun p hp => ?_) (by cases o.dst <;> exact h3)
  have e : (s.put o.dst (.tup [])).ne = s.ne := by cases o.dst <;> rfl
  rw [e]
  cases hd : o.dst with
  | none => rw [hd] at hp; exact h2 p hp
  | some x =>
   rw [hd] at hp
   rcases List.mem_cons.1 hp with rfl | hp
   ·rfl
   ·exact h2 p hp
 | @fork o r s s2 l' d e b hv he h ih =>
  intro h1 h2 h3
  refine ih h1 (fun p hp => ?_) h3
  rcases List.mem_cons.1 hp with rfl | hp
  ·rfl
  ·exact h2 p hp
def leftN (n : Nat) (p : Nat → Bool) : Nat := ((List.range n).filter fun i => !p i).length
theorem left_add {n i : Nat} {p q : Nat → Bool} (hi : i < n) (hp : p i = false) (hq : ∀ j, q j = addP p i j) : leftN n q + 1 = leftN n p := by
 unfold leftN
 have hmem : i ∈ (List.range n).filter fun j => !p j := List.mem_filter.2 ⟨List.mem_range.2 hi, by simp [hp]⟩
 have hnd : ((List.range n).filter fun j => !p j).Nodup := List.nodup_range.filter _
 have e : ((List.range n).filter fun j => !q j) = ((List.range n).filter fun j => !p j).erase i := by
  rw [hnd.erase_eq_filter, List.filter_filter]
  refine List.filter_congr fun j hj => ?_
  rw [hq j]
  unfold addP
  cases p j <;> by_cases hji : j = i <;> simp [hji, bne]
 rw [e, List.length_erase_of_mem hmem]
 have := List.length_pos_of_mem hmem
 omega
theorem draw_any (hT : T.Ok P) (hgo : ∀ f sg, sig f = some sg → isGo P (keyF f) = true) (hu : Uniq ops.toList) {tb : List (List Nat)} (htb : okTb ops.toList tb = true) (hch : chain tb l = true) {far : Nat} (hc : ∀ (i : Nat) o e, ops.toList[i]? = some o → l[i]? = some e → entChk T sig ops tb l st far i o e = true) (hent : ∀ (i : Nat) e, l[i]? = some e → EntOk T sig ops env l st i e)
  (hf : FactL P T sig env l) (hll : l.length = ops.toList.length) (hq : ∀ a m, Inv T w0 S0 ops l st env (fun j => decide (j < ops.toList.length)) a m → Q .normal a m.w) : ∀ (fuel : Nat) (listed : Array Bool) (a : Act) (m : Mem), listed.size = ops.size → leftN ops.toList.length (fun j => listed.getD j false) = fuel → Closed ops.toList (fun j => listed.getD j false) → Inv T w0 S0 ops l st env (fun j => listed.getD j false) a m →
  wpAny P .any ops Q fuel listed a m.w := by
 have hdone : ∀ (listed : Array Bool) (a : Act) (m : Mem), listed.size = ops.size → Inv T w0 S0 ops l st env (fun j => listed.getD j false) a m → (∀ i, i < ops.toList.length → listed.getD i false = true) → Q .normal a m.w := fun listed a m hsz hI hall => by
  refine hq a m ⟨hI.env, hI.ok, fun b => ?_, fun x => ?_, hI.df, hI.nt⟩
  ·rw [hI.h b]
   refine blkP_congr fun j e' hj hk' => ?_
   have := (List.getElem?_eq_some_iff.1 hj).1
   have hj2 : j < ops.toList.length := by rw [← hll]; exact this
   simp only [hall j hj2, hj2, decide_true]
  ·have e1 : slotP ops.toList l st (fun j => decide (j < ops.toList.length)) x = slotP ops.toList l st (fun j => listed.getD j false) x := slotP_congr fun j hj => by
    obtain ⟨o2, h1, -⟩ := wrS_dst hj
    have := (List.getElem?_eq_some_iff.1 h1).1
    simp only [hall j this, this, decide_true]
   rw [e1]; exact hI.sl x
 have hnone : ∀ (listed : Array Bool), listed.size = ops.size → Region.ready .any ops listed = [] → ∀ i, i < ops.toList.length → listed.getD i false = true := fun listed hsz hr i => by
  induction i using Nat.strongRecOn with
  | _ i ih =>
   intro hi
   cases hli : listed.getD i false with
   | true => rfl
   | false =>
    exfalso
    have hoi : ops[i]? = some ops.toList[i] := by rw [← Array.getElem?_toList]; exact List.getElem?_eq_getElem hi
    have hmem : i ∈ Region.ready .any ops listed := mem_ready.2 ⟨by
      have hlt : i < listed.size := by rw [hsz]; simpa using hi
      simp only [Array.getD_eq_getD_getElem?, Array.getElem?_eq_getElem hlt, Option.getD_some] at hli ⊢
      exact hli, _, hoi, fun e he hb => by
        have h1 := zip_all htb (i := i) (x := ops.toList[i]) (List.getElem?_eq_getElem hi)
        simp only [Bool.and_eq_true] at h1
        have h2 := List.all_eq_true.1 h1.1 e.on (List.mem_map.2 ⟨e, List.mem_filter.2 ⟨by simpa using he, hb⟩, rfl⟩)
        have h3 : e.on < i := by simpa using h2
        exact ih e.on h3 (by omega)⟩
    rw [hr] at hmem; cases hmem
 intro fuel
 induction fuel with
 | zero =>
  intro listed a m hsz hn hcl hI
  have hall : ∀ i, i < ops.toList.length → listed.getD i false = true := fun i hi => by
   cases hli : listed.getD i false with
   | true => rfl
   | false =>
    exfalso
    have : i ∈ (List.range ops.toList.length).filter fun j => !(listed.getD j false) := List.mem_filter.2 ⟨List.mem_range.2 hi, by rw [hli]; rfl⟩
    have h2 := List.length_pos_of_mem this
    unfold leftN at hn
    dsimp only at hn
    omega
  refine ⟨?_, hdone listed a m hsz hI hall⟩
  refine List.eq_nil_iff_forall_not_mem.2 fun i hi => ?_
  obtain ⟨h1, o, h2, -⟩ := mem_ready.1 hi
  have hlt : i < ops.size := (Array.getElem?_eq_some_iff.1 h2).1
  have := hall i (by simpa using hlt)
  simp only [Array.getD_eq_getD_getElem?, Array.getElem?_eq_getElem (show i < listed.size by omega), Option.getD_some] at this h1
  rw [h1] at this; cases this
 | succ fuel ih =>
  intro listed a m hsz hn hcl hI
  refine ⟨fun hr => hdone listed a m hsz hI (hnone listed hsz hr), fun i hi => ?_⟩
  obtain ⟨h1, o, h2, h3⟩ := mem_ready.1 hi
  have hlt : i < ops.size := (Array.getElem?_eq_some_iff.1 h2).1
  have hlt' : i < ops.toList.length := by simpa using hlt
  have hls : i < listed.size := by omega
  have ho : ops.toList[i]? = some o := by rw [Array.getElem?_toList]; exact h2
  obtain ⟨e, he⟩ : ∃ e, l[i]? = some e := ⟨_, List.getElem?_eq_getElem (by rw [hll]; exact hlt')⟩
  have hpi : listed.getD i false = false := by
   simp only [Array.getD_eq_getD_getElem?, Array.getElem?_eq_getElem hls, Option.getD_some] at h1 ⊢
   exact h1
  have hdi : ∀ k ∈ dirs o, listed.getD k false = true := fun k hk => by
   obtain ⟨e', h4, rfl⟩ := List.mem_map.1 hk
   obtain ⟨h5, h6⟩ := List.mem_filter.1 h4
   exact h3 e' (by simpa using h5) h6
  have hadd : ∀ j, (listed.setIfInBounds i true).getD j false = addP (fun j => listed.getD j false) i j := fun j => by
   unfold addP
   by_cases hj : j = i
   ·subst hj
    simp [hls]
   ·rw [getD_set_ne false (Ne.symm hj)]
    simp [hj]
  refine inv_step hT hgo hu htb hch (hc i o e ho he) ho he (hent i e he) hf hll hcl hpi hdi hI fun a' m' hI' => ?_
  refine ih _ a' m' (by simp [hsz]) ?_ (fun j o' hj hpj k hk => ?_) ?_
  ·have := left_add (n := ops.toList.length) hlt' hpi hadd
   omega
  ·dsimp only at hpj ⊢
   rw [hadd] at hpj ⊢
   unfold addP at hpj ⊢
   simp only [Bool.or_eq_true, beq_iff_eq] at hpj ⊢
   rcases hpj with rfl | hpj
   ·rw [ho] at hj; cases hj
    exact .inr (hdi k hk)
   ·exact .inr (hcl j o' hj hpj k hk)
  ·rw [show (fun j => (listed.setIfInBounds i true).getD j false) = addP (fun j => listed.getD j false) i from funext hadd]
   exact hI'
end
theorem draws_ok {P : Program} {H : Help} (hm : P.follows .mixedOrders = true) (hT : H.T.Ok P) (hgo : ∀ f sg, H.sig f = some sg → isGo P (keyF f) = true) (hd : ∀ ops st l, H.draws ops st l = true → drawChk H.T H.sig ops st l = true) : DrawsOk P H := by
 intro w0 S0 id ops st st' l env a m Q h hp hf hr hq
 have hc := hd _ _ _ h
 unfold drawChk at hc
 simp only [Bool.and_eq_true, decide_eq_true_eq] at hc
 obtain ⟨htb, hs, hch, hll, hc⟩ := hc
 have hu : Uniq ops.toList := ⟨fun i o x ho hx => by
   have := zip_all hs ho
   simp only [hx] at this
   exact eq_of_beq this⟩
 obtain ⟨g1, g2, g3, g4⟩ := path_at (l := l) (st := st) hu hp 0 rfl rfl rfl (fun x m v he hv => by
   have e : slotP ops.toList l st (fun j => decide (j < 0)) x = st.get x := by
     unfold slotP
     split <;> simp
   rw [e] at hv; exact hv) (fun b => (blkP_none fun j e hj hk => by simp).symm)
 obtain ⟨s1, s2, s3⟩ := syn_path hp hr.nb hr.bt hr.bh
 have hgrow := mok_grow (w' := { m.w with drawn := m.w.drawn + 1 }) hr.ok ⟨rfl, rfl, rfl, Nat.le_refl _, fun _ _ => rfl⟩
 have hrep : ∀ j, (Array.replicate ops.size false).getD j false = false := fun j => by
  simp only [Array.getD_eq_getD_getElem?, Array.getElem?_replicate]
  split <;> rfl
 have key := draw_any (P := P) (Q := Q) (w0 := w0) (S0 := S0) hT hgo hu htb hch (fun i o e ho he => by
   have := zip_all hc ho
   simp only [he] at this
   exact this) (fun i e he => g1 i e (Nat.zero_le _) he) hf hll (fun a' m' hI => hq a' m' ⟨hI.env, hI.ok, funext fun b => by rw [hI.h b, g4 b]; simp only [Nat.zero_add], fun x => g3 x m' _ hI.env (by simpa using hI.sl x), hI.df, hI.nt.trans g2.symm, s1, s2, s3⟩)
  ops.size (Array.replicate ops.size false) a { m with w := { m.w with drawn := m.w.drawn + 1 } } (by simp) (by
    unfold leftN
    simp only [hrep, Bool.not_false]
    rw [List.filter_eq_self.2 (fun _ _ => rfl)]
    simp) (fun i o ho hp => by dsimp only at hp; rw [hrep] at hp; cases hp) ⟨hr.env, hgrow.2, fun b => by
      rw [hr.h]
      exact (blkP_none fun j e hj hk => hrep j).symm, fun x => by
      have e : slotP ops.toList l st (fun j => (Array.replicate ops.size false).getD j false) x = st.get x := by
        unfold slotP
        split
        · simp only [hrep]; simp
        · rfl
      rw [e]
      exact hgrow.1.sv (hr.sl x), hr.df, hr.nt⟩
 exact wp_region_any hm key
abbrev Uni := List (Nat × E) × Ren
def uniE (n : Nat) (u : Uni) : E → E → Uni
 | .V k, e => if n ≤ k ∧ (u.1.lookup k).isNone then ((k, e) :: u.1, u.2) else u
 | _, _ => u
def uniC (n : Nat) (hd st : St) : Nat → Uni → CV → CV → Uni
 | 0, u, _, _ => u
 | f + 1, u, p, c =>
  let block (u : Uni) (b b' : Nat) : Uni :=
   if (u.2.lookup b).isSome then u else
   let u := (u.1, (b, some b') :: u.2)
   match hd.blk b, st.blk b' with
   | .arr _ p _, .arr _ e _ => uniE n u p e
   | .box l, .box l' => (l.zip l').foldl (fun u x => uniC n hd st f u x.1 x.2) u
   | _, _ => u
  match p, c with
  | .c _ p, .c _ e => uniE n u p e
  | .c _ p, .nl => uniE n u p .N
  | .own b _, .own b' _ => block u b b'
  | .own b _, .nl => if (u.2.lookup b).isSome then u else match hd.blk b with
   | .arr _ p _ => uniE n (u.1, (b, none) :: u.2) p .N
   | _ => (u.1, (b, none) :: u.2)
  | .sub b _ o l, .sub b' _ o' l' => uniE n (uniE n (block u b b') o o') l l'
  | .rp b _, .rp b' _ => block u b b'
  | _, _ => u
def uniS (n : Nat) (hd st : St) (u : Uni) : SV → SV → Uni
 | .one p, .one c => uniC n hd st 6 u p c
 | .agg l, .agg l' => (l.zip l').foldl (fun u x => uniC n hd st 6 u x.1 x.2) u
 | _, _ => u
def keysOf {α : Type} (l : List (Nat × α)) : List Nat := l.foldl (fun k p => if k.contains p.1 then k else p.1 :: k) []
def uniK (kb n : Nat) (hd st : St) : Uni := (List.range kb).foldl (fun u b => match hd.blk b with
  | .box _ => uniC n hd st 6 u (.rp b 0) (.rp b 0)
  | .arr el _ _ => uniC n hd st 6 u (.own b el) (.own b el)
  | _ => u) ([], [])
def uniSt (kb : Nat) (hd st : St) (n : Nat) : Option (List E × Ren) :=
 let u := (keysOf hd.t).foldl (fun u i => uniS n hd st u (hd.get i) (st.get i)) (uniK kb n hd st)
 ((List.range (hd.ne - n)).mapM fun i => u.1.lookup (n + i)).map fun es => (es, u.2)
def reach (kb : Nat) (hd : St) : Uni := (keysOf hd.t).foldl (fun u i => uniS 0 hd hd u (hd.get i) (hd.get i)) (uniK kb 0 hd hd)
def writes : Code → List Nat × List Nat
 | .region _ ops _ => ops.foldl (fun a o => match o.dst with
   | none => a
   | some d => match o.op with
     | .assign _ => (d :: a.1, a.2)
     | _ => (a.1, d :: a.2)) ([], [])
 | .seq a b => let x := writes a; let y := writes b; (x.1 ++ y.1, x.2 ++ y.2)
 | .cond _ a b => let x := writes a; let y := writes b; (x.1 ++ y.1, x.2 ++ y.2)
 | .block _ c => writes c
 | .loop c => writes c
 | .scope c => writes c
 | _ => ([], [])
def addL (a b : List Nat) : List Nat := b.foldl (fun l x => if l.contains x then l else x :: l) a
def tmpsOf (l : List Operand) : List Nat := l.filterMap fun x => match x with
 | .tmp t => some t
 | _ => none
def liveOps (ops : Array Oper) : List Oper → List Nat → List Nat
 | [], out => out
 | o :: r, out =>
  let s := liveOps ops r out
  let s := match o.dst with
   | some d => s.filter fun x => x != d
   | none => s
  let s := addL s (tmpsOf o.op.operands.toList)
  match o.guard.bind fun g => (ops[g.1]?).bind (·.dst) with
  | some d => addL s [d]
  | none => s
def keyC : Code → Option Nat
 | .region i _ _ => some i
 | .seq a b => (keyC a).or (keyC b)
 | .cond _ a b => (keyC a).or (keyC b)
 | .block _ c => keyC c
 | .loop c => keyC c
 | .scope c => keyC c
 | _ => none
abbrev Lives := List (Nat × List Nat)
def liveC (ret : List Nat) : Code → List Nat → Lives → Lives → List Nat × Lives
 | .region _ ops _, out, _, tb => (liveOps ops ops.toList out, tb)
 | .seq a b, out, ex, tb =>
  let (s, tb) := liveC ret b out ex tb
  liveC ret a s ex tb
 | .cond c x y, out, ex, tb =>
  let (s, tb) := liveC ret x out ex tb
  let (s', tb) := liveC ret y out ex tb
  (addL (addL s s') (tmpsOf [c]), tb)
 | .block i c, out, ex, tb => liveC ret c out ((i, out) :: ex) tb
 | .loop c, _, ex, tb =>
  let (s, _) := liveC ret c [] ex []
  let (s, _) := liveC ret c s ex []
  let (s, tb) := liveC ret c s ex tb
  (s, match keyC c with
    | some k => (k, s) :: tb
    | none => tb)
 | .scope c, out, ex, tb => liveC ret c out ex tb
 | .exit i, _, ex, tb => ((ex.lookup i).getD [], tb)
 | .ret, _, _, tb => (ret, tb)
 | _, out, _, tb => (out, tb)
def livesF (fn : Func) : Lives :=
 let ret := fn.results.toList.flatMap fun r => match r with
  | .tmp t => [t]
  | .cell a _ => [a]
 match fn.body with
 | some c => (liveC ret c ret [] []).2
 | none => []
structure Hv where
 arr : List Nat := []
 cell : List (Nat × Nat) := []
 slotO : List (Nat × TypeId) := []
 cellO : List ((Nat × Nat) × TypeId) := []
deriving DecidableEq
def hvC (st : St) (el : Option TypeId) : CV → St × CV
 | .c k _ => ({ st with ne := st.ne + 1 }, .c k (.V st.ne))
 | .own b e => ({ st with ne := st.ne + 1, nb := st.nb + 1, h := (st.nb, .arr e (.V st.ne) false) :: (b, .no) :: st.h }, .own st.nb e)
 | .nl => match el with
  | some e => ({ st with ne := st.ne + 1, nb := st.nb + 1, h := (st.nb, .arr e (.V st.ne) false) :: st.h }, .own st.nb e)
  | none => (st, .nl)
 | .sub b e o l => ({ st with ne := st.ne + 2 }, .sub b e (.V st.ne) (.V (st.ne + 1)))
 | c => (st, c)
def mkHead (kb : Nat) (lv : List Nat) (wr : List Nat × List Nat) (hv : Hv) (st : St) : St :=
 let st1 := { st with t := [], h := (keysOf st.h).map fun b => (b, st.blk b), lv := st.lv + 1 }
 -- the lists' contents
 let st2 := hv.arr.foldl (fun s b => match s.blk b with
   | .arr el _ f => { s with ne := s.ne + 1, h := (b, .arr el (.V s.ne) f) :: s.h }
   | _ => s) st1
 -- variables' cells
 let st3 := hv.cell.foldl (fun s p => match s.blk p.1 with
   | .box l => let r := hvC s (hv.cellO.lookup p) (l.getD p.2 .any); { r.1 with h := (p.1, .box (l.set p.2 r.2)) :: r.1.h }
   | _ => s) st2
 let st4 := (keysOf st.t).foldl (fun s i =>
   if !lv.contains i then s
   else if wr.1.contains i || wr.2.contains i then
     match st.get i with
     | .one c => let r := hvC s (hv.slotO.lookup i) c; { r.1 with t := (i, .one r.2) :: r.1.t }
     | .agg l => let r := l.foldl (fun (a : St × List CV) c => let x := hvC a.1 none c; (x.1, a.2 ++ [x.2])) (s, []); { r.1 with t := (i, .agg r.2) :: r.1.t }
     | _ => s
   else match st.get i with
     | .tup _ => s
     | v => { s with t := (i, v) :: s.t }) st3
 let st5 := { st4 with h := (keysOf st4.h).filterMap fun b => match st4.blk b with
   | .no => none
   | x => some (b, x) }
 -- blocks that nothing reaches are left out
 let re := (reach kb st5).2
 { st5 with h := st5.h.filter fun p => Nat.blt p.1 kb || (re.lookup p.1).isSome }
def diffs (hd st : St) (hv : Hv) : Hv :=
 let hv := (keysOf hd.h).foldl (fun (hv : Hv) b => match hd.blk b, st.blk b with
   | .arr _ e _, .arr _ e' _ => if e = e' ∨ hv.arr.contains b then hv else { hv with arr := b :: hv.arr }
   | .box l, .box l' => (List.range l.length).foldl (fun (hv : Hv) j =>
       if l.getD j .any = l'.getD j .any then hv else
       let hv := if hv.cell.contains (b, j) then hv else { hv with cell := (b, j) :: hv.cell }
       match l.getD j .any, l'.getD j .any with
       | .nl, .own _ e => if (hv.cellO.lookup (b, j)).isSome then hv else { hv with cellO := ((b, j), e) :: hv.cellO }
       | _, _ => hv) hv
   | _, _ => hv) hv
 (keysOf hd.t).foldl (fun (hv : Hv) i => match hd.get i, st.get i with
   | .one .nl, .one (.own _ e) => if (hv.slotO.lookup i).isSome then hv else { hv with slotO := (i, e) :: hv.slotO }
   | _, _ => hv) hv
def hvT (hv : Hv) : Tree := .again 0 ((.I hv.arr.length :: hv.arr.map fun (b : Nat) => E.I b) ++ (.I hv.cell.length :: hv.cell.flatMap fun p => [E.I (p.1 : Nat), .I (p.2 : Nat)]) ++
  (.I hv.slotO.length :: hv.slotO.flatMap fun p => [E.I (p.1 : Nat), .I (p.2 : Nat)]) ++ (.I hv.cellO.length :: hv.cellO.flatMap fun p => [E.I (p.1.1 : Nat), .I (p.1.2 : Nat), .I (p.2 : Nat)]))
def numE : E → Nat
 | .I n => n.toNat
 | _ => 0
def pairsOf : List Nat → List (Nat × Nat)
 | a :: b :: r => (a, b) :: pairsOf r
 | _ => []
def triplesOf : List Nat → List ((Nat × Nat) × Nat)
 | a :: b :: c :: r => ((a, b), c) :: triplesOf r
 | _ => []
def tHv (l : List Nat) : Hv :=
 match l with
 | na :: r =>
  let arr := r.take na
  match r.drop na with
  | nc :: r =>
   let cell := pairsOf (r.take (2 * nc))
   match r.drop (2 * nc) with
   | ns :: r =>
    let so := pairsOf (r.take (2 * ns))
    match r.drop (2 * ns) with
    | no :: r => { arr := arr, cell := cell, slotO := so, cellO := triplesOf (r.take (3 * no)) }
    | [] => {}
   | [] => {}
  | [] => {}
 | [] => {}
def union (a b : Hv) : Hv :=
 { arr := b.arr.foldl (fun l x => if l.contains x then l else x :: l) a.arr, cell := b.cell.foldl (fun l x => if l.contains x then l else x :: l) a.cell,
   slotO := b.slotO.foldl (fun l x => if (l.lookup x.1).isSome then l else x :: l) a.slotO, cellO := b.cellO.foldl (fun l x => if (l.lookup x.1).isSome then l else x :: l) a.cellO }
def gather : Tree → Hv → Hv
 | .need _ t, h => gather t h
 | .br _ a b, h => gather b (gather a h)
 | .call _ _ _ t, h => gather t h
 | .loop _ b, h => gather b h
 | .again lv es, h => if lv = 0 then union h (tHv (es.map numE)) else h
 | .ret _, h => h
def settle (kb : Nat) (ex : St → (AX → St → Option Tree) → Option Tree) (lv : List Nat) (wr : List Nat × List Nat) (st : St) : Nat → Hv → Option St
 | 0, _ => none
 | r + 1, hv =>
  let hd := mkHead kb lv wr hv st
  match ex hd (fun x s => match x with
    | .normal => some (hvT (diffs hd s {}))
    | _ => some (.ret [])) with
  | none => none
  | some t =>
   let hv' := gather t hv
   if hv' = hv then some hd else settle kb ex lv wr st r hv'
def guess (kb : Nat) (lt : Lives) (T : Tab) (sig : FuncId → Option Sig) (dr : Array Oper → St → List (St × Option Out) → Bool) : Nat → Code → St → Option St
 | 0, _, _ => none
 | f + 1, c, st => settle kb (fun hd k => exec { T := T, sig := sig, head := guess kb lt T sig dr f, uni := uniSt kb, draws := dr, unroll := fun c st => if (guess kb lt T sig dr f c st).isSome then 0 else 5, kb := kb } c hd k) (((keyC c).bind (fun k => List.lookup k lt)).getD []) (writes c) st 8 {}
def mkHelp (fn : Func) (T : Tab) (sig : FuncId → Option Sig) (dr : Array Oper → St → List (St × Option Out) → Bool) (kb : Nat := 0) : Help := { T := T, sig := sig, head := guess kb (livesF fn) T sig dr 5, uni := uniSt kb, draws := dr, unroll := fun c st => if (guess kb (livesF fn) T sig dr 5 c st).isSome then 0 else 5, kb := kb }
noncomputable def T1 : Tab := [(0, Tryz.t0), (1, Tryz.t1), (2, Tryz.t2), (3, Tryz.t3), (4, Tryz.t4), (5, Tryz.t5), (6, Tryz.t6), (7, Tryz.t7), (8, Tryz.t8), (9, Tryz.t9), (10, Tryz.t10), (11, Tryz.t11), (12, Tryz.t12), (15, Tryz.t15), (16, Tryz.t16), (17, Tryz.t17), (18, Tryz.t18), (19, Tryz.t19), (20, Tryz.t20), (21, Tryz.t21), (22, Tryz.t22), (23, Tryz.t23), (24, Tryz.t24), (25, Tryz.t25), (26, Tryz.t26), (27, Tryz.t27), (28, Tryz.t28), (29, Tryz.t29), (30, Tryz.t30), (31, Tryz.t31), (32, Tryz.t32), (33, Tryz.t33), (34, Tryz.t34), (35, Tryz.t35), (36, Tryz.t36), (37, Tryz.t37), (38, Tryz.t38), (39, Tryz.t39), (40, Tryz.t40), (41, Tryz.t41), (42, Tryz.t42), (43, Tryz.t43), (44, Tryz.t44), (45, Tryz.t45), (46, Tryz.t46), (47, Tryz.t47), (48, Tryz.t48), (49, Tryz.t49), (50, Tryz.t50), (51, Tryz.t51), (52, Tryz.t52), (53, Tryz.t53), (54, Tryz.t54), (55, Tryz.t55), (56, Tryz.t56), (57, Tryz.t57), (58, Tryz.t58), (59, Tryz.t59), (60, Tryz.t60), (61, Tryz.t61), (62, Tryz.t62), (63, Tryz.t63), (64, Tryz.t64), (65, Tryz.t65), (66, Tryz.t66), (67, Tryz.t67), (68, Tryz.t68), (69, Tryz.t69), (70, Tryz.t70), (71, Tryz.t71), (72, Tryz.t72), (73, Tryz.t73), (74, Tryz.t74), (75, Tryz.t75), (76, Tryz.t76), (77, Tryz.t77), (78, Tryz.t78), (79, Tryz.t79), (80, Tryz.t80), (81, Tryz.t81), (82, Tryz.t82), (83, Tryz.t83), (84, Tryz.t84), (85, Tryz.t85), (86, Tryz.t86), (87, Tryz.t87), (88, Tryz.t88), (89, Tryz.t89), (90, Tryz.t90), (91, Tryz.t91), (92, Tryz.t92), (93, Tryz.t93), (94, Tryz.t94), (95, Tryz.t95), (96, Tryz.t96), (97, Tryz.t97), (98, Tryz.t98), (99, Tryz.t99), (100, Tryz.t100), (101, Tryz.t101), (102, Tryz.t102), (103, Tryz.t103), (104, Tryz.t104), (105, Tryz.t105), (106, Tryz.t106), (107, Tryz.t107), (108, Tryz.t108), (109, Tryz.t109), (110, Tryz.t110), (111, Tryz.t111), (112, Tryz.t112), (113, Tryz.t113), (114, Tryz.t114), (115, Tryz.t115), (116, Tryz.t116), (117, Tryz.t117), (118, Tryz.t118), (119, Tryz.t119), (120, Tryz.t120), (121, Tryz.t121), (122, Tryz.t122), (123, Tryz.t123), (124, Tryz.t124), (125, Tryz.t125), (126, Tryz.t126), (127, Tryz.t127), (128, Tryz.t128), (129, Tryz.t129), (130, Tryz.t130), (131, Tryz.t131), (132, Tryz.t132), (133, Tryz.t133), (134, Tryz.t134), (135, Tryz.t135), (136, Tryz.t136), (137, Tryz.t137), (138, Tryz.t138), (139, Tryz.t139), (140, Tryz.t140), (141, Tryz.t141), (142, Tryz.t142), (143, Tryz.t143), (144, Tryz.t144), (145, Tryz.t145), (146, Tryz.t146), (147, Tryz.t147), (148, Tryz.t148), (149, Tryz.t149), (150, Tryz.t150), (151, Tryz.t151), (152, Tryz.t152), (153, Tryz.t153), (154, Tryz.t154), (155, Tryz.t155), (156, Tryz.t156), (157, Tryz.t157), (158, Tryz.t158), (159, Tryz.t159), (160, Tryz.t160), (161, Tryz.t161), (162, Tryz.t162), (163, Tryz.t163), (164, Tryz.t164), (165, Tryz.t165), (166, Tryz.t166), (167, Tryz.t167), (168, Tryz.t168), (169, Tryz.t169), (170, Tryz.t170), (171, Tryz.t171), (172, Tryz.t172), (173, Tryz.t173), (174, Tryz.t174), (175, Tryz.t175), (176, Tryz.t176), (177, Tryz.t177), (178, Tryz.t178), (179, Tryz.t179), (180, Tryz.t180), (181, Tryz.t181), (182, Tryz.t182), (183, Tryz.t183)]
theorem t1types : ∀ p ∈ T1, Tryz.prog.types[p.1]? = some p.2 := List.forall_mem_cons.2 ⟨Tryz.type0, List.forall_mem_cons.2 ⟨Tryz.type1, List.forall_mem_cons.2 ⟨Tryz.type2, List.forall_mem_cons.2 ⟨Tryz.type3, List.forall_mem_cons.2 ⟨Tryz.type4, List.forall_mem_cons.2 ⟨Tryz.type5, List.forall_mem_cons.2 ⟨Tryz.type6, List.forall_mem_cons.2 ⟨Tryz.type7, List.forall_mem_cons.2 ⟨Tryz.type8, List.forall_mem_cons.2 ⟨Tryz.type9, List.forall_mem_cons.2 ⟨Tryz.type10, List.forall_mem_cons.2 ⟨Tryz.type11, List.forall_mem_cons.2 ⟨Tryz.type12, List.forall_mem_cons.2 ⟨Tryz.type15, List.forall_mem_cons.2 ⟨Tryz.type16, List.forall_mem_cons.2 ⟨Tryz.type17, List.forall_mem_cons.2 ⟨Tryz.type18, List.forall_mem_cons.2 ⟨Tryz.type19, List.forall_mem_cons.2 ⟨Tryz.type20, List.forall_mem_cons.2 ⟨Tryz.type21, List.forall_mem_cons.2 ⟨Tryz.type22, List.forall_mem_cons.2 ⟨Tryz.type23, List.forall_mem_cons.2 ⟨Tryz.type24, List.forall_mem_cons.2 ⟨Tryz.type25, List.forall_mem_cons.2 ⟨Tryz.type26, List.forall_mem_cons.2 ⟨Tryz.type27, List.forall_mem_cons.2 ⟨Tryz.type28, List.forall_mem_cons.2 ⟨Tryz.type29, List.forall_mem_cons.2 ⟨Tryz.type30, List.forall_mem_cons.2 ⟨Tryz.type31, List.forall_mem_cons.2 ⟨Tryz.type32, List.forall_mem_cons.2 ⟨Tryz.type33, List.forall_mem_cons.2 ⟨Tryz.type34, List.forall_mem_cons.2 ⟨Tryz.type35, List.forall_mem_cons.2 ⟨Tryz.type36, List.forall_mem_cons.2 ⟨Tryz.type37, List.forall_mem_cons.2 ⟨Tryz.type38, List.forall_mem_cons.2 ⟨Tryz.type39, List.forall_mem_cons.2 ⟨Tryz.type40, List.forall_mem_cons.2 ⟨Tryz.type41, List.forall_mem_cons.2 ⟨Tryz.type42, List.forall_mem_cons.2 ⟨Tryz.type43, List.forall_mem_cons.2 ⟨Tryz.type44, List.forall_mem_cons.2 ⟨Tryz.type45, List.forall_mem_cons.2 ⟨Tryz.type46, List.forall_mem_cons.2 ⟨Tryz.type47, List.forall_mem_cons.2 ⟨Tryz.type48, List.forall_mem_cons.2 ⟨Tryz.type49, List.forall_mem_cons.2 ⟨Tryz.type50, List.forall_mem_cons.2 ⟨Tryz.type51, List.forall_mem_cons.2 ⟨Tryz.type52, List.forall_mem_cons.2 ⟨Tryz.type53, List.forall_mem_cons.2 ⟨Tryz.type54, List.forall_mem_cons.2 ⟨Tryz.type55, List.forall_mem_cons.2 ⟨Tryz.type56, List.forall_mem_cons.2 ⟨Tryz.type57, List.forall_mem_cons.2 ⟨Tryz.type58, List.forall_mem_cons.2 ⟨Tryz.type59, List.forall_mem_cons.2 ⟨Tryz.type60, List.forall_mem_cons.2 ⟨Tryz.type61, List.forall_mem_cons.2 ⟨Tryz.type62, List.forall_mem_cons.2 ⟨Tryz.type63, List.forall_mem_cons.2 ⟨Tryz.type64, List.forall_mem_cons.2 ⟨Tryz.type65, List.forall_mem_cons.2 ⟨Tryz.type66, List.forall_mem_cons.2 ⟨Tryz.type67, List.forall_mem_cons.2 ⟨Tryz.type68, List.forall_mem_cons.2 ⟨Tryz.type69, List.forall_mem_cons.2 ⟨Tryz.type70, List.forall_mem_cons.2 ⟨Tryz.type71, List.forall_mem_cons.2 ⟨Tryz.type72, List.forall_mem_cons.2 ⟨Tryz.type73, List.forall_mem_cons.2 ⟨Tryz.type74, List.forall_mem_cons.2 ⟨Tryz.type75, List.forall_mem_cons.2 ⟨Tryz.type76, List.forall_mem_cons.2 ⟨Tryz.type77, List.forall_mem_cons.2 ⟨Tryz.type78, List.forall_mem_cons.2 ⟨Tryz.type79, List.forall_mem_cons.2 ⟨Tryz.type80, List.forall_mem_cons.2 ⟨Tryz.type81, List.forall_mem_cons.2 ⟨Tryz.type82, List.forall_mem_cons.2 ⟨Tryz.type83, List.forall_mem_cons.2 ⟨Tryz.type84, List.forall_mem_cons.2 ⟨Tryz.type85, List.forall_mem_cons.2 ⟨Tryz.type86, List.forall_mem_cons.2 ⟨Tryz.type87, List.forall_mem_cons.2 ⟨Tryz.type88, List.forall_mem_cons.2 ⟨Tryz.type89, List.forall_mem_cons.2 ⟨Tryz.type90, List.forall_mem_cons.2 ⟨Tryz.type91, List.forall_mem_cons.2 ⟨Tryz.type92, List.forall_mem_cons.2 ⟨Tryz.type93, List.forall_mem_cons.2 ⟨Tryz.type94, List.forall_mem_cons.2 ⟨Tryz.type95, List.forall_mem_cons.2 ⟨Tryz.type96, List.forall_mem_cons.2 ⟨Tryz.type97, List.forall_mem_cons.2 ⟨Tryz.type98, List.forall_mem_cons.2 ⟨Tryz.type99, List.forall_mem_cons.2 ⟨Tryz.type100, List.forall_mem_cons.2 ⟨Tryz.type101, List.forall_mem_cons.2 ⟨Tryz.type102, List.forall_mem_cons.2 ⟨Tryz.type103, List.forall_mem_cons.2 ⟨Tryz.type104, List.forall_mem_cons.2 ⟨Tryz.type105, List.forall_mem_cons.2 ⟨Tryz.type106, List.forall_mem_cons.2 ⟨Tryz.type107, List.forall_mem_cons.2 ⟨Tryz.type108, List.forall_mem_cons.2 ⟨Tryz.type109, List.forall_mem_cons.2 ⟨Tryz.type110, List.forall_mem_cons.2 ⟨Tryz.type111, List.forall_mem_cons.2 ⟨Tryz.type112, List.forall_mem_cons.2 ⟨Tryz.type113, List.forall_mem_cons.2 ⟨Tryz.type114, List.forall_mem_cons.2 ⟨Tryz.type115, List.forall_mem_cons.2 ⟨Tryz.type116, List.forall_mem_cons.2 ⟨Tryz.type117, List.forall_mem_cons.2 ⟨Tryz.type118, List.forall_mem_cons.2 ⟨Tryz.type119, List.forall_mem_cons.2 ⟨Tryz.type120, List.forall_mem_cons.2 ⟨Tryz.type121, List.forall_mem_cons.2 ⟨Tryz.type122, List.forall_mem_cons.2 ⟨Tryz.type123, List.forall_mem_cons.2 ⟨Tryz.type124, List.forall_mem_cons.2 ⟨Tryz.type125, List.forall_mem_cons.2 ⟨Tryz.type126, List.forall_mem_cons.2 ⟨Tryz.type127, List.forall_mem_cons.2 ⟨Tryz.type128, List.forall_mem_cons.2 ⟨Tryz.type129, List.forall_mem_cons.2 ⟨Tryz.type130, List.forall_mem_cons.2 ⟨Tryz.type131, List.forall_mem_cons.2 ⟨Tryz.type132, List.forall_mem_cons.2 ⟨Tryz.type133, List.forall_mem_cons.2 ⟨Tryz.type134, List.forall_mem_cons.2 ⟨Tryz.type135, List.forall_mem_cons.2 ⟨Tryz.type136, List.forall_mem_cons.2 ⟨Tryz.type137, List.forall_mem_cons.2 ⟨Tryz.type138, List.forall_mem_cons.2 ⟨Tryz.type139, List.forall_mem_cons.2 ⟨Tryz.type140, List.forall_mem_cons.2 ⟨Tryz.type141, List.forall_mem_cons.2 ⟨Tryz.type142, List.forall_mem_cons.2 ⟨Tryz.type143, List.forall_mem_cons.2 ⟨Tryz.type144, List.forall_mem_cons.2 ⟨Tryz.type145, List.forall_mem_cons.2 ⟨Tryz.type146, List.forall_mem_cons.2 ⟨Tryz.type147, List.forall_mem_cons.2 ⟨Tryz.type148, List.forall_mem_cons.2 ⟨Tryz.type149, List.forall_mem_cons.2 ⟨Tryz.type150, List.forall_mem_cons.2 ⟨Tryz.type151, List.forall_mem_cons.2 ⟨Tryz.type152, List.forall_mem_cons.2 ⟨Tryz.type153, List.forall_mem_cons.2 ⟨Tryz.type154, List.forall_mem_cons.2 ⟨Tryz.type155, List.forall_mem_cons.2 ⟨Tryz.type156, List.forall_mem_cons.2 ⟨Tryz.type157, List.forall_mem_cons.2 ⟨Tryz.type158, List.forall_mem_cons.2 ⟨Tryz.type159, List.forall_mem_cons.2 ⟨Tryz.type160, List.forall_mem_cons.2 ⟨Tryz.type161, List.forall_mem_cons.2 ⟨Tryz.type162, List.forall_mem_cons.2 ⟨Tryz.type163, List.forall_mem_cons.2 ⟨Tryz.type164, List.forall_mem_cons.2 ⟨Tryz.type165, List.forall_mem_cons.2 ⟨Tryz.type166, List.forall_mem_cons.2 ⟨Tryz.type167, List.forall_mem_cons.2 ⟨Tryz.type168, List.forall_mem_cons.2 ⟨Tryz.type169, List.forall_mem_cons.2 ⟨Tryz.type170, List.forall_mem_cons.2 ⟨Tryz.type171, List.forall_mem_cons.2 ⟨Tryz.type172, List.forall_mem_cons.2 ⟨Tryz.type173, List.forall_mem_cons.2 ⟨Tryz.type174, List.forall_mem_cons.2 ⟨Tryz.type175, List.forall_mem_cons.2 ⟨Tryz.type176, List.forall_mem_cons.2 ⟨Tryz.type177, List.forall_mem_cons.2 ⟨Tryz.type178, List.forall_mem_cons.2 ⟨Tryz.type179, List.forall_mem_cons.2 ⟨Tryz.type180, List.forall_mem_cons.2 ⟨Tryz.type181, List.forall_mem_cons.2 ⟨Tryz.type182, List.forall_mem_cons.2 ⟨Tryz.type183, fun p hp => nomatch hp⟩⟩⟩⟩⟩⟩⟩⟩⟩⟩⟩⟩⟩⟩⟩⟩⟩⟩⟩⟩⟩⟩⟩⟩⟩⟩⟩⟩⟩⟩⟩⟩⟩⟩⟩⟩⟩⟩⟩⟩⟩⟩⟩⟩⟩⟩⟩⟩⟩⟩⟩⟩⟩⟩⟩⟩⟩⟩⟩⟩⟩⟩⟩⟩⟩⟩⟩⟩⟩⟩⟩⟩⟩⟩⟩⟩⟩⟩⟩⟩⟩⟩⟩⟩⟩⟩⟩⟩⟩⟩⟩⟩⟩⟩⟩⟩⟩⟩⟩⟩⟩⟩⟩⟩⟩⟩⟩⟩⟩⟩⟩⟩⟩⟩⟩⟩⟩⟩⟩⟩⟩⟩⟩⟩⟩⟩⟩⟩⟩⟩⟩⟩⟩⟩⟩⟩⟩⟩⟩⟩⟩⟩⟩⟩⟩⟩⟩⟩⟩⟩⟩⟩⟩⟩⟩⟩⟩⟩⟩⟩⟩⟩⟩⟩⟩⟩⟩⟩⟩⟩⟩⟩⟩⟩⟩⟩⟩⟩⟩⟩⟩⟩
theorem t1plain : plainAll T1 Tryz.prog = true := by decide +kernel
theorem t1ok : T1.Ok Tryz.prog := .of t1types t1plain
abbrev kR0 : List CK := [.int .i64, .int .i64, .lst 65, .int .i64, .int .i64, .bool, .int .u16, .int .i64, .int .i64, .lst 4, .int .i64, .int .i64, .int .u16, .bool, .bool, .bool, .lst 65, .int .i64, .int .i64, .int .i64, .int .u8, .lst 3, .lst 5, .lst 5]
abbrev kR1 : List (CK × Bool) := [(.int .i64, false), (.int .i64, false), (.lst 65, false), (.int .i64, false), (.int .i64, false), (.bool, false), (.int .u16, false), (.int .i64, false), (.int .i64, false), (.lst 4, false), (.int .i64, false), (.int .i64, false), (.int .u16, false), (.bool, false), (.bool, false), (.bool, false), (.lst 65, false), (.int .i64, false), (.int .i64, false), (.int .i64, false), (.int .u8, false), (.lst 3, false), (.lst 5, false), (.lst 5, false)]
abbrev kR2 : List (CK × Bool) := [(.int .i64, false), (.int .i64, false), (.lst 65, true), (.int .i64, false), (.int .i64, false), (.bool, false), (.int .u16, false), (.int .i64, false), (.int .i64, false), (.lst 4, true), (.int .i64, false), (.int .i64, false), (.int .u16, false), (.bool, false), (.bool, false), (.bool, false), (.lst 65, true), (.int .i64, false), (.int .i64, false), (.int .i64, false), (.int .u8, false), (.lst 3, true), (.lst 5, true), (.lst 5, true)]
abbrev kR3 : List (CK × Bool) := [(.int .i64, false), (.int .u8, false), (.lst 3, false), (.lst 5, false), (.lst 5, false)]
abbrev kR4 : List (CK × Bool) := [(.int .u64, false), (.int .i32, false), (.int .u16, false), (.int .u8, false)]
abbrev n_law10_SnapTells : Nat := 3
def sg_law10_SnapTells : Sig := { params := [(true, kR0), (false, [.int .u8]), (false, [.int .u8]), (false, [.lst 5]), (false, [.lst 5]), (false, [.lst 5]), (false, [.int .u16]), (false, [.int .u8]), (false, [.int .u8])], results := [(false, [(.bool, false)])] }
def sg_law10_SnapBack : Sig := { params := [(false, [.int .u8]), (false, [.int .u8]), (false, [.lst 5]), (false, [.lst 5])], results := [(false, [(.bool, false)])] }
def sg_law10_SnapCut : Sig := { params := [(false, [.int .u8]), (false, [.int .u8]), (false, [.lst 5]), (false, [.int .u16]), (false, [.int .u8])], results := [(false, [(.bool, false)])] }
abbrev n_law10_known : Nat := 6
def sg_law10_known : Sig := { params := [], results := [(false, [(.bool, false)])] }
abbrev n_seat_SmallScreen : Nat := 7
def sg_seat_SmallScreen : Sig := { params := [(true, kR0)], results := [(false, [(.bool, false)])] }
abbrev n_seat_Screen : Nat := 8
def sg_seat_Screen : Sig := { params := [(false, [.int .u8]), (false, [.int .u8]), (false, [.lst 5])], results := [(true, kR1)] }
abbrev n_snap_Put : Nat := 9
def sg_snap_Put : Sig := { params := [(true, kR0)], results := [(false, [(.lst 5, true)]), (false, [(.int .i64, false)])] }
abbrev n_r7_Put : Nat := 10
def sg_r7_Put : Sig := { params := [(true, kR0)], results := [(false, [(.lst 5, true)]), (false, [(.int .i64, false)])] }
abbrev n_snap_Same : Nat := 11
def sg_snap_Same : Sig := { params := [(true, kR0), (true, kR0)], results := [(false, [(.bool, false)])] }
abbrev n_r7_Same : Nat := 12
def sg_r7_Same : Sig := { params := [(true, kR0), (true, kR0)], results := [(false, [(.bool, false)])] }
abbrev n_snap_Read : Nat := 13
def sg_snap_Read : Sig := { params := [(false, [.lst 5])], results := [(true, kR2), (false, [(.int .i64, false)])] }
abbrev n_r7_Read : Nat := 14
def sg_r7_Read : Sig := { params := [(false, [.lst 5])], results := [(true, kR1), (false, [(.int .i64, false)])] }
abbrev n_r7_New : Nat := 15
def sg_r7_New : Sig := { params := [(false, [.int .i64]), (false, [.int .i64])], results := [(true, kR2), (false, [(.int .i64, false)])] }
abbrev n_r7_Feed : Nat := 16
def sg_r7_Feed : Sig := { params := [(true, kR0), (false, [.lst 5])], results := [(true, kR1)] }
abbrev n_seat_Bytes : Nat := 17
def sg_seat_Bytes : Sig := { params := [(false, [.lst 5])], results := [(false, [(.lst 5, true)])] }
abbrev n_screen_Right : Nat := 18
def sg_screen_Right : Sig := { params := [(true, kR0)], results := [(false, [(.bool, false)])] }
abbrev n_snap_putNumbers : Nat := 19
def sg_snap_putNumbers : Sig := { params := [(false, [.lst 3])], results := [(false, [(.lst 5, true)])] }
abbrev n_snap_bitsOf : Nat := 20
def sg_snap_bitsOf : Sig := { params := [(true, kR0)], results := [(false, [(.int .i64, false)])] }
abbrev n_snap_putTabs : Nat := 21
def sg_snap_putTabs : Sig := { params := [(false, [.lst 4])], results := [(false, [(.lst 5, true)])] }
abbrev n_snap_putCells : Nat := 22
def sg_snap_putCells : Sig := { params := [(false, [.lst 65])], results := [(false, [(.lst 5, true)])] }
abbrev n_snap_putParser : Nat := 23
def sg_snap_putParser : Sig := { params := [(true, [.int .i64, .int .u8, .lst 3, .lst 5, .lst 5])], results := [(false, [(.lst 5, true)])] }
abbrev n_r7_Right : Nat := 24
def sg_r7_Right : Sig := { params := [(true, kR0)], results := [(false, [(.bool, false)])] }
abbrev n_r7_num : Nat := 25
def sg_r7_num : Sig := { params := [], results := [], pat := some { t0 := [(.one (.own 0 5)), (.one (.c (.lst 3) (.V 1)))], h0 := [(0, (.arr 5 (.V 0) false))], n0 := 2, kb := 0, t1 := [(.one (.own 0 5))], h1 := [(0, (.arr 5 (.V 0) false))], n1 := 1 } }
abbrev n_r7_bit : Nat := 26
def sg_r7_bit : Sig := { params := [(false, [.bool]), (false, [.int .i64])], results := [(false, [(.int .i64, false)])] }
abbrev n_r5_PutCells : Nat := 27
def sg_r5_PutCells : Sig := { params := [(false, [.lst 65])], results := [(false, [(.lst 5, true)]), (false, [(.int .i64, false)])] }
abbrev n_r1_PutBytes : Nat := 28
def sg_r1_PutBytes : Sig := { params := [(false, [.lst 5])], results := [(false, [(.lst 5, true)])] }
abbrev n_snap_fixedOf : Nat := 29
def sg_snap_fixedOf : Sig := { params := [(true, kR0)], results := [(true, [(.int .i64, false), (.int .i64, false), (.int .i64, false), (.int .i64, false), (.bool, false), (.bool, false), (.bool, false), (.bool, false), (.int .u16, false), (.int .u16, false), (.int .i64, false), (.int .i64, false), (.int .i64, false), (.int .i64, false), (.int .i64, false), (.int .i64, false), (.int .i64, false), (.int .u8, false)])] }
abbrev n_slices_Equal_Cell : Nat := 30
def sg_slices_Equal_Cell : Sig := { params := [(false, [.lst 65]), (false, [.lst 65])], results := [(false, [(.bool, false)])] }
abbrev n_slices_Equal_bool : Nat := 31
def sg_slices_Equal_bool : Sig := { params := [(false, [.lst 4]), (false, [.lst 4])], results := [(false, [(.bool, false)])] }
abbrev n_slices_Equal_int : Nat := 32
def sg_slices_Equal_int : Sig := { params := [(false, [.lst 3]), (false, [.lst 3])], results := [(false, [(.bool, false)])] }
abbrev n_slices_Equal_byte : Nat := 33
def sg_slices_Equal_byte : Sig := { params := [(false, [.lst 5]), (false, [.lst 5])], results := [(false, [(.bool, false)])] }
abbrev n_r7_SameCells : Nat := 34
def sg_r7_SameCells : Sig := { params := [(false, [.lst 65]), (false, [.lst 65])], results := [(false, [(.bool, false)])] }
abbrev n_r7_SameParser : Nat := 35
def sg_r7_SameParser : Sig := { params := [(true, [.int .i64, .int .u8, .lst 3, .lst 5, .lst 5]), (true, [.int .i64, .int .u8, .lst 3, .lst 5, .lst 5])], results := [(false, [(.bool, false)])] }
abbrev n_snap_reader_screen : Nat := 36
def sg_snap_reader_screen : Sig := { params := [], results := [], pat := some { t0 := [(.one (.rp 0 0))], h0 := [(0, (.box [(.c (.lst 5) (.V 0)), (.c (.bool) (.V 1))]))], n0 := 2, kb := 1, t1 := [(.agg [(.c (.int .i64) (.V 0)), (.c (.int .i64) (.V 1)), (.own 1 65), (.c (.int .i64) (.V 3)), (.c (.int .i64) (.V 4)), (.c (.bool) (.V 5)), (.c (.int .u16) (.V 6)), (.c (.int .i64) (.V 7)), (.c (.int .i64) (.V 8)), (.own 2 4), (.c (.int .i64) (.V 10)), (.c (.int .i64) (.V 11)), (.c (.int .u16) (.V 12)), (.c (.bool) (.V 13)), (.c (.bool) (.V 14)), (.c (.bool) (.V 15)), (.own 3 65), (.c (.int .i64) (.V 17)), (.c (.int .i64) (.V 18)), (.c (.int .i64) (.V 19)), (.c (.int .u8) (.V 20)), (.own 4 3), (.own 5 5), (.own 6 5)])], h1 := [(1, (.arr 65 (.V 2) false)), (2, (.arr 4 (.V 9) false)), (3, (.arr 65 (.V 16) false)), (4, (.arr 3 (.V 21) false)), (5, (.arr 5 (.V 22) false)), (6, (.arr 5 (.V 23) false)), (0, (.box [(.c (.lst 5) (.V 24)), (.c (.bool) (.V 25))]))], n1 := 26 } }
abbrev n_r7_part_n : Nat := 37
def sg_r7_part_n : Sig := { params := [], results := [], pat := some { t0 := [(.one (.rp 0 0))], h0 := [(0, (.box [(.c (.lst 5) (.V 0)), (.c (.bool) (.V 1))]))], n0 := 2, kb := 1, t1 := [(.one (.c (.int .i64) (.V 0)))], h1 := [(0, (.box [(.c (.lst 5) (.V 1)), (.c (.bool) (.V 2))]))], n1 := 3 } }
abbrev n_r7_part_cells : Nat := 38
def sg_r7_part_cells : Sig := { params := [], results := [], pat := some { t0 := [(.one (.rp 0 0)), (.one (.c (.int .i64) (.V 0)))], h0 := [(0, (.box [(.c (.lst 5) (.V 1)), (.c (.bool) (.V 2))]))], n0 := 3, kb := 1, t1 := [(.one (.own 1 65))], h1 := [(1, (.arr 65 (.V 0) false)), (0, (.box [(.c (.lst 5) (.V 1)), (.c (.bool) (.V 2))]))], n1 := 3 } }
abbrev n_r7_part_bytes : Nat := 39
def sg_r7_part_bytes : Sig := { params := [], results := [], pat := some { t0 := [(.one (.rp 0 0))], h0 := [(0, (.box [(.c (.lst 5) (.V 0)), (.c (.bool) (.V 1))]))], n0 := 2, kb := 1, t1 := [(.one (.c (.lst 5) (.V 0)))], h1 := [(0, (.box [(.c (.lst 5) (.V 1)), (.c (.bool) (.V 2))]))], n1 := 3 } }
abbrev n_r7_Blank : Nat := 40
def sg_r7_Blank : Sig := { params := [(false, [.int .i64]), (false, [.int .i64])], results := [(false, [(.lst 65, true)])] }
abbrev n_r7_Step : Nat := 41
def sg_r7_Step : Sig := { params := [(true, [.int .i64, .int .u8, .lst 3, .lst 5, .lst 5]), (false, [.int .u8])], results := [(true, kR3), (false, [(.lst 85, false)])] }
abbrev n_r7_Do : Nat := 42
def sg_r7_Do : Sig := { params := [(true, kR0), (true, [.int .i64, .int .i32, .int .u8, .int .u8, .lst 3, .lst 5])], results := [(true, kR1)] }
abbrev n_screen_isSize : Nat := 43
def sg_screen_isSize : Sig := { params := [(false, [.int .i64])], results := [(false, [(.bool, false)])] }
abbrev n_screen_rightCells : Nat := 44
def sg_screen_rightCells : Sig := { params := [(true, kR0), (false, [.lst 65])], results := [(false, [(.bool, false)])] }
abbrev n_screen_rightOther : Nat := 45
def sg_screen_rightOther : Sig := { params := [(true, kR0)], results := [(false, [(.bool, false)])] }
abbrev n_screen_isPlace : Nat := 46
def sg_screen_isPlace : Sig := { params := [(true, kR0), (false, [.int .i64]), (false, [.int .i64])], results := [(false, [(.bool, false)])] }
abbrev n_screen_rightAttr : Nat := 47
def sg_screen_rightAttr : Sig := { params := [(false, [.int .u16])], results := [(false, [(.bool, false)])] }
abbrev n_screen_rightRegion : Nat := 48
def sg_screen_rightRegion : Sig := { params := [(true, kR0)], results := [(false, [(.bool, false)])] }
abbrev n_vt_Right : Nat := 49
def sg_vt_Right : Sig := { params := [(true, [.int .i64, .int .u8, .lst 3, .lst 5, .lst 5])], results := [(false, [(.bool, false)])] }
abbrev n_leb_Put : Nat := 50
def sg_leb_Put : Sig := { params := [(false, [.int .u64])], results := [(false, [(.lst 5, true)])] }
abbrev n_snap_bitIf : Nat := 51
def sg_snap_bitIf : Sig := { params := [(false, [.bool]), (false, [.int .i64])], results := [(false, [(.int .i64, false)])] }
abbrev n_runs_Put : Nat := 52
def sg_runs_Put : Sig := { params := [(false, [.lst 65])], results := [(false, [(.lst 5, true)]), (false, [(.int .i64, false)])] }
abbrev n_leb_PutBytes : Nat := 53
def sg_leb_PutBytes : Sig := { params := [(false, [.lst 5])], results := [(false, [(.lst 5, true)])] }
abbrev n_r7_cellsRight : Nat := 54
def sg_r7_cellsRight : Sig := { params := [(false, [.lst 65]), (false, [.int .i64]), (false, [.int .i64])], results := [(false, [(.bool, false)])] }
abbrev n_r7_attr : Nat := 55
def sg_r7_attr : Sig := { params := [(false, [.int .u16])], results := [(false, [(.bool, false)])] }
abbrev n_r7_ParserRight : Nat := 56
def sg_r7_ParserRight : Sig := { params := [(true, [.int .i64, .int .u8, .lst 3, .lst 5, .lst 5])], results := [(false, [(.bool, false)])] }
abbrev n_r1_Put : Nat := 57
def sg_r1_Put : Sig := { params := [(false, [.int .u64])], results := [(false, [(.lst 5, true)])] }
abbrev n_r5_CellRight : Nat := 58
def sg_r5_CellRight : Sig := { params := [(true, [.int .i32, .int .u16, .int .u8])], results := [(false, [(.bool, false)])] }
abbrev n_snap_reader_place : Nat := 59
def sg_snap_reader_place : Sig := { params := [], results := [], pat := some { t0 := [(.one (.rp 0 0))], h0 := [(0, (.box [(.c (.lst 5) (.V 0)), (.c (.bool) (.V 1))]))], n0 := 2, kb := 1, t1 := [(.one (.c (.int .i64) (.V 0))), (.one (.c (.int .i64) (.V 1)))], h1 := [(0, (.box [(.c (.lst 5) (.V 2)), (.c (.bool) (.V 3))]))], n1 := 4 } }
abbrev n_snap_reader_number : Nat := 60
def sg_snap_reader_number : Sig := { params := [], results := [], pat := some { t0 := [(.one (.rp 0 0)), (.one (.c (.int .u64) (.V 0)))], h0 := [(0, (.box [(.c (.lst 5) (.V 1)), (.c (.bool) (.V 2))]))], n0 := 3, kb := 1, t1 := [(.one (.c (.int .i64) (.V 0)))], h1 := [(0, (.box [(.c (.lst 5) (.V 1)), (.c (.bool) (.V 2))]))], n1 := 3 } }
abbrev n_snap_reader_tabs : Nat := 61
def sg_snap_reader_tabs : Sig := { params := [], results := [], pat := some { t0 := [(.one (.rp 0 0)), (.one (.c (.int .i64) (.V 0)))], h0 := [(0, (.box [(.c (.lst 5) (.V 1)), (.c (.bool) (.V 2))]))], n0 := 3, kb := 1, t1 := [(.one (.own 1 4))], h1 := [(1, (.arr 4 (.V 0) false)), (0, (.box [(.c (.lst 5) (.V 1)), (.c (.bool) (.V 2))]))], n1 := 3 } }
abbrev n_snap_reader_cells : Nat := 62
def sg_snap_reader_cells : Sig := { params := [], results := [], pat := some { t0 := [(.one (.rp 0 0)), (.one (.c (.int .i64) (.V 0)))], h0 := [(0, (.box [(.c (.lst 5) (.V 1)), (.c (.bool) (.V 2))]))], n0 := 3, kb := 1, t1 := [(.one (.own 1 65))], h1 := [(1, (.arr 65 (.V 0) false)), (0, (.box [(.c (.lst 5) (.V 1)), (.c (.bool) (.V 2))]))], n1 := 3 } }
abbrev n_snap_reader_parser : Nat := 63
def sg_snap_reader_parser : Sig := { params := [], results := [], pat := some { t0 := [(.one (.rp 0 0))], h0 := [(0, (.box [(.c (.lst 5) (.V 0)), (.c (.bool) (.V 1))]))], n0 := 2, kb := 1, t1 := [(.agg [(.c (.int .i64) (.V 0)), (.c (.int .u8) (.V 1)), (.own 1 3), (.own 2 5), (.own 3 5)])], h1 := [(1, (.arr 3 (.V 2) false)), (2, (.arr 5 (.V 3) false)), (3, (.arr 5 (.V 4) false)), (0, (.box [(.c (.lst 5) (.V 5)), (.c (.bool) (.V 6))]))], n1 := 7 } }
abbrev n_r1_Read : Nat := 64
def sg_r1_Read : Sig := { params := [(false, [.lst 5])], results := [(false, [(.int .u64, false)]), (false, [(.int .i64, false)]), (false, [(.int .i64, false)])] }
abbrev n_r5_ReadCells : Nat := 65
def sg_r5_ReadCells : Sig := { params := [(false, [.lst 5]), (false, [.int .i64])], results := [(false, [(.lst 65, true)]), (false, [(.int .i64, false)]), (false, [(.int .i64, false)])] }
abbrev n_r1_ReadBytes : Nat := 66
def sg_r1_ReadBytes : Sig := { params := [(false, [.lst 5]), (false, [.int .i64])], results := [(false, [(.lst 5, false)]), (false, [(.int .i64, false)]), (false, [(.int .i64, false)])] }
abbrev n_r7_blank : Nat := 67
def sg_r7_blank : Sig := { params := [], results := [(true, [(.int .i32, false), (.int .u16, false), (.int .u8, false)])] }
abbrev n_r1_Step : Nat := 68
def sg_r1_Step : Sig := { params := [(false, [.lst 5]), (false, [.int .u8])], results := [(false, [(.lst 5, true)]), (false, [(.lst 21, true)])] }
abbrev n_r7_formed : Nat := 69
def sg_r7_formed : Sig := { params := [(false, [.lst 5]), (false, [.int .u8])], results := [(false, [(.bool, false)])] }
abbrev n_r7_prints : Nat := 70
def sg_r7_prints : Sig := { params := [(false, [.lst 21])], results := [(false, [(.lst 85, true)])] }
abbrev n_r7_step : Nat := 71
def sg_r7_step : Sig := { params := [(true, [.int .i64, .int .u8, .lst 3, .lst 5, .lst 5]), (false, [.int .u8])], results := [(true, kR3), (false, [(.lst 85, false)])] }
abbrev n_r7_print : Nat := 72
def sg_r7_print : Sig := { params := [(true, kR0), (false, [.int .i32])], results := [(true, kR1)] }
abbrev n_r7_control : Nat := 73
def sg_r7_control : Sig := { params := [(true, kR0), (false, [.int .u8])], results := [(true, kR1)] }
abbrev n_r7_escape : Nat := 74
def sg_r7_escape : Sig := { params := [(true, kR0), (false, [.int .u8])], results := [(true, kR1)] }
abbrev n_r7_mode : Nat := 75
def sg_r7_mode : Sig := { params := [(true, kR0), (false, [.int .i64]), (false, [.bool])], results := [(true, kR1)] }
abbrev n_r7_sequence : Nat := 76
def sg_r7_sequence : Sig := { params := [(true, kR0), (false, [.int .u8]), (false, [.lst 3])], results := [(true, kR1)] }
abbrev n_screen_allRight : Nat := 77
def sg_screen_allRight : Sig := { params := [(false, [.lst 65])], results := [(false, [(.bool, false)])] }
abbrev n_grid_Mend : Nat := 78
def sg_grid_Mend : Sig := { params := [(false, [.lst 65]), (false, [.int .i64]), (false, [.int .i64])], results := [(false, [(.lst 65, true)])] }
abbrev n_runs_Right : Nat := 79
def sg_runs_Right : Sig := { params := [(true, [.int .i32, .int .u16, .int .u8])], results := [(false, [(.bool, false)])] }
abbrev n_screen_isRegion : Nat := 80
def sg_screen_isRegion : Sig := { params := [(true, kR0), (false, [.int .i64]), (false, [.int .i64])], results := [(false, [(.bool, false)])] }
abbrev n_vt_rightUtf : Nat := 81
def sg_vt_rightUtf : Sig := { params := [(true, [.int .i64, .int .u8, .lst 3, .lst 5, .lst 5])], results := [(false, [(.bool, false)])] }
abbrev n_vt_rightParams : Nat := 82
def sg_vt_rightParams : Sig := { params := [(true, [.int .i64, .int .u8, .lst 3, .lst 5, .lst 5])], results := [(false, [(.bool, false)])] }
abbrev n_vt_rightInter : Nat := 83
def sg_vt_rightInter : Sig := { params := [(true, [.int .i64, .int .u8, .lst 3, .lst 5, .lst 5])], results := [(false, [(.bool, false)])] }
abbrev n_runs_firstRun : Nat := 84
def sg_runs_firstRun : Sig := { params := [(false, [.lst 65])], results := [(true, kR4)] }
abbrev n_runs_putRun : Nat := 85
def sg_runs_putRun : Sig := { params := [(true, [.int .u64, .int .i32, .int .u16, .int .u8])], results := [(false, [(.lst 5, true)])] }
abbrev n_r7_Mend : Nat := 86
def sg_r7_Mend : Sig := { params := [(false, [.lst 65]), (false, [.int .i64]), (false, [.int .i64])], results := [(false, [(.lst 65, true)])] }
abbrev n_r1_Begins : Nat := 87
def sg_r1_Begins : Sig := { params := [(false, [.lst 5])], results := [(false, [(.bool, false)])] }
abbrev n_r7_inter : Nat := 88
def sg_r7_inter : Sig := { params := [(false, [.int .u8])], results := [(false, [(.bool, false)])] }
abbrev n_r1_May : Nat := 89
def sg_r1_May : Sig := { params := [(false, [.int .i32])], results := [(false, [(.bool, false)])] }
abbrev n_leb_Read : Nat := 90
def sg_leb_Read : Sig := { params := [(false, [.lst 5])], results := [(false, [(.int .u64, false)]), (false, [(.int .i64, false)]), (false, [(.int .i64, false)])] }
abbrev n_snap_reader_fail : Nat := 91
def sg_snap_reader_fail : Sig := { params := [], results := [], pat := some { t0 := [(.one (.rp 0 0))], h0 := [(0, (.box [(.c (.lst 5) (.V 0)), (.c (.bool) (.V 1))]))], n0 := 2, kb := 1, t1 := [], h1 := [(0, (.box [(.c (.lst 5) (.V 0)), (.c (.bool) (.V 1))]))], n1 := 2 } }
abbrev n_runs_Read : Nat := 92
def sg_runs_Read : Sig := { params := [(false, [.lst 5]), (false, [.int .i64])], results := [(false, [(.lst 65, true)]), (false, [(.int .i64, false)]), (false, [(.int .i64, false)])] }
abbrev n_snap_reader_bytes : Nat := 93
def sg_snap_reader_bytes : Sig := { params := [], results := [], pat := some { t0 := [(.one (.rp 0 0))], h0 := [(0, (.box [(.c (.lst 5) (.V 0)), (.c (.bool) (.V 1))]))], n0 := 2, kb := 1, t1 := [(.one (.own 1 5))], h1 := [(1, (.arr 5 (.V 0) false)), (0, (.box [(.c (.lst 5) (.V 1)), (.c (.bool) (.V 2))]))], n1 := 3 } }
abbrev n_r1_whole : Nat := 94
def sg_r1_whole : Sig := { params := [(false, [.lst 5])], results := [(false, [(.int .i32, false)]), (false, [(.bool, false)])] }
abbrev n_r7_with : Nat := 95
def sg_r7_with : Sig := { params := [(false, [.lst 5]), (false, [.int .u8])], results := [(false, [(.lst 5, true)])] }
abbrev n_r7_csi : Nat := 96
def sg_r7_csi : Sig := { params := [(true, [.int .i64, .int .u8, .lst 3, .lst 5, .lst 5]), (false, [.int .u8])], results := [(true, kR3), (false, [(.lst 85, false)])] }
abbrev n_r1_Width : Nat := 97
def sg_r1_Width : Sig := { params := [(false, [.int .i32])], results := [(false, [(.int .i64, false)])] }
abbrev n_r7_down : Nat := 98
def sg_r7_down : Sig := { params := [(true, kR0)], results := [(true, kR1)] }
abbrev n_r7_own : Nat := 99
def sg_r7_own : Sig := { params := [(false, [.lst 65])], results := [(false, [(.lst 65, true)])] }
abbrev n_r7_Down : Nat := 100
def sg_r7_Down : Sig := { params := [(false, [.lst 65]), (false, [.int .i64]), (false, [.int .i64]), (false, [.int .i64]), (false, [.int .i64])], results := [(false, [(.lst 65, true)])] }
abbrev n_r7_param : Nat := 101
def sg_r7_param : Sig := { params := [(false, [.lst 3]), (false, [.int .i64]), (false, [.int .i64])], results := [(false, [(.int .i64, false)])] }
abbrev n_r7_to : Nat := 102
def sg_r7_to : Sig := { params := [(true, kR0), (false, [.int .i64]), (false, [.int .i64])], results := [(true, kR1)] }
abbrev n_r7_erase : Nat := 103
def sg_r7_erase : Sig := { params := [(true, kR0), (false, [.bool]), (false, [.int .i64])], results := [(true, kR1)] }
abbrev n_r7_Up : Nat := 104
def sg_r7_Up : Sig := { params := [(false, [.lst 65]), (false, [.int .i64]), (false, [.int .i64]), (false, [.int .i64]), (false, [.int .i64])], results := [(false, [(.lst 65, true)])] }
abbrev n_r7_Insert : Nat := 105
def sg_r7_Insert : Sig := { params := [(false, [.lst 65]), (false, [.int .i64]), (false, [.int .i64]), (false, [.int .i64]), (false, [.int .i64])], results := [(false, [(.lst 65, true)])] }
abbrev n_r7_Delete : Nat := 106
def sg_r7_Delete : Sig := { params := [(false, [.lst 65]), (false, [.int .i64]), (false, [.int .i64]), (false, [.int .i64]), (false, [.int .i64])], results := [(false, [(.lst 65, true)])] }
abbrev n_r7_Erase : Nat := 107
def sg_r7_Erase : Sig := { params := [(false, [.lst 65]), (false, [.int .i64]), (false, [.int .i64]), (false, [.int .i64]), (false, [.int .i64])], results := [(false, [(.lst 65, true)])] }
abbrev n_r7_look : Nat := 108
def sg_r7_look : Sig := { params := [(false, [.int .u16]), (false, [.int .i64])], results := [(false, [(.int .u16, false)])] }
abbrev n_grid_own : Nat := 109
def sg_grid_own : Sig := { params := [(false, [.lst 65])], results := [(false, [(.lst 65, true)])] }
abbrev n_grid_hasRows : Nat := 110
def sg_grid_hasRows : Sig := { params := [(false, [.lst 65]), (false, [.int .i64]), (false, [.int .i64]), (false, [.int .i64])], results := [(false, [(.bool, false)])] }
abbrev n_grid_mend : Nat := 111
def sg_grid_mend : Sig := { params := [], results := [], pat := some { t0 := [(.one (.sub 0 65 (.V 1) (.V 2)))], h0 := [(0, (.arr 65 (.V 0) false))], n0 := 3, kb := 1, t1 := [], h1 := [(0, (.arr 65 (.V 0) false))], n1 := 1 } }
abbrev n_grid_rowOf : Nat := 112
def sg_grid_rowOf : Sig := { params := [], results := [], pat := some { t0 := [(.one (.own 0 65)), (.one (.c (.int .i64) (.V 1))), (.one (.c (.int .i64) (.V 2)))], h0 := [(0, (.arr 65 (.V 0) false))], n0 := 3, kb := 1, t1 := [(.one (.sub 0 65 (.V 0) (.V 1)))], h1 := [(0, (.arr 65 (.V 2) false))], n1 := 3 } }
abbrev n_runs_rightRune : Nat := 113
def sg_runs_rightRune : Sig := { params := [(false, [.int .i32])], results := [(false, [(.bool, false)])] }
abbrev n_runs_rightAttr : Nat := 114
def sg_runs_rightAttr : Sig := { params := [(false, [.int .u16])], results := [(false, [(.bool, false)])] }
abbrev n_utf_Begins : Nat := 115
def sg_utf_Begins : Sig := { params := [(false, [.lst 5])], results := [(false, [(.bool, false)])] }
abbrev n_slices_ContainsFunc_int : Nat := 116
def sg_slices_ContainsFunc_int : Sig := { params := [], results := [], pat := some { t0 := [(.one (.c (.lst 3) (.V 0))), (.one (.fn 117))], h0 := [], n0 := 1, kb := 0, t1 := [(.one (.c (.bool) (.V 0)))], h1 := [], n1 := 1 } }
abbrev n_vt_noParam : Nat := 117
def sg_vt_noParam : Sig := { params := [(false, [.int .i64])], results := [(false, [(.bool, false)])] }
abbrev n_slices_ContainsFunc_byte : Nat := 118
def sg_slices_ContainsFunc_byte : Sig := { params := [], results := [], pat := some { t0 := [(.one (.c (.lst 5) (.V 0))), (.one (.fn 119))], h0 := [], n0 := 1, kb := 0, t1 := [(.one (.c (.bool) (.V 0)))], h1 := [], n1 := 1 } }
abbrev n_vt_noInter : Nat := 119
def sg_vt_noInter : Sig := { params := [(false, [.int .u8])], results := [(false, [(.bool, false)])] }
abbrev n_r7_place : Nat := 120
def sg_r7_place : Sig := { params := [(false, [.lst 65]), (false, [.int .i64]), (false, [.int .i64]), (false, [.int .i64])], results := [(false, [(.bool, false)])] }
abbrev n_runs_readRuns : Nat := 121
def sg_runs_readRuns : Sig := { params := [(false, [.lst 5]), (false, [.int .u64])], results := [(false, [(.lst 123, true)]), (false, [(.int .i64, false)]), (false, [(.int .i64, false)])] }
abbrev n_runs_spread : Nat := 122
def sg_runs_spread : Sig := { params := [(false, [.lst 123]), (false, [.int .i64])], results := [(false, [(.lst 65, true)])] }
abbrev n_leb_ReadBytes : Nat := 123
def sg_leb_ReadBytes : Sig := { params := [(false, [.lst 5]), (false, [.int .i64])], results := [(false, [(.lst 5, true)]), (false, [(.int .i64, false)]), (false, [(.int .i64, false)])] }
abbrev n_r1_in : Nat := 124
def sg_r1_in : Sig := { params := [(false, [.int .i32]), (false, [.int .i32]), (false, [.int .i32])], results := [(false, [(.bool, false)])] }
abbrev n_r7_grid : Nat := 125
def sg_r7_grid : Sig := { params := [(false, [.lst 65]), (false, [.int .i64])], results := [(false, [(.int .i64, false)]), (false, [(.bool, false)])] }
abbrev n_grid_isGrid : Nat := 126
def sg_grid_isGrid : Sig := { params := [(false, [.lst 65]), (false, [.int .i64])], results := [(false, [(.bool, false)])] }
abbrev n_grid_blank : Nat := 127
def sg_grid_blank : Sig := { params := [], results := [(true, [(.int .i32, false), (.int .u16, false), (.int .u8, false)])] }
abbrev n_utf_fits : Nat := 128
def sg_utf_fits : Sig := { params := [(false, [.lst 5])], results := [(false, [(.bool, false)])] }
abbrev n_utf_formSize : Nat := 129
def sg_utf_formSize : Sig := { params := [(false, [.int .u8])], results := [(false, [(.int .i64, false)])] }
abbrev n_slices_IndexFunc_int : Nat := 130
def sg_slices_IndexFunc_int : Sig := { params := [], results := [], pat := some { t0 := [(.one (.c (.lst 3) (.V 0))), (.one (.fn 117))], h0 := [], n0 := 1, kb := 0, t1 := [(.one (.c (.int .i64) (.V 0)))], h1 := [], n1 := 1 } }
abbrev n_slices_IndexFunc_byte : Nat := 131
def sg_slices_IndexFunc_byte : Sig := { params := [], results := [], pat := some { t0 := [(.one (.c (.lst 5) (.V 0))), (.one (.fn 119))], h0 := [], n0 := 1, kb := 0, t1 := [(.one (.c (.int .i64) (.V 0)))], h1 := [], n1 := 1 } }
abbrev n_vt_kindOf : Nat := 132
def sg_vt_kindOf : Sig := { params := [(false, [.int .u8])], results := [(false, [(.int .i64, false)])] }
abbrev n_runs_readRun : Nat := 133
def sg_runs_readRun : Sig := { params := [(false, [.lst 5]), (false, [.int .u64])], results := [(true, kR4), (false, [(.int .i64, false)]), (false, [(.int .i64, false)])] }
abbrev n_grid_isSize : Nat := 134
def sg_grid_isSize : Sig := { params := [(false, [.int .i64])], results := [(false, [(.bool, false)])] }
abbrev n_utf_secondBytes : Nat := 135
def sg_utf_secondBytes : Sig := { params := [(false, [.int .u8])], results := [(false, [(.int .u8, false)]), (false, [(.int .u8, false)])] }
abbrev n_runs_cellOf : Nat := 136
def sg_runs_cellOf : Sig := { params := [(false, [.int .u64]), (false, [.int .u64])], results := [(true, [(.int .i32, false), (.int .u16, false), (.int .u8, false)]), (false, [(.bool, false)])] }
def sigL : List (Nat × Sig) := [(3, sg_law10_SnapTells), (4, sg_law10_SnapBack), (5, sg_law10_SnapCut), (6, sg_law10_known), (7, sg_seat_SmallScreen), (8, sg_seat_Screen), (9, sg_snap_Put), (10, sg_r7_Put), (11, sg_snap_Same), (12, sg_r7_Same), (13, sg_snap_Read), (14, sg_r7_Read), (15, sg_r7_New), (16, sg_r7_Feed), (17, sg_seat_Bytes), (18, sg_screen_Right), (19, sg_snap_putNumbers), (20, sg_snap_bitsOf), (21, sg_snap_putTabs), (22, sg_snap_putCells), (23, sg_snap_putParser), (24, sg_r7_Right), (25, sg_r7_num), (26, sg_r7_bit), (27, sg_r5_PutCells), (28, sg_r1_PutBytes), (29, sg_snap_fixedOf), (30, sg_slices_Equal_Cell), (31, sg_slices_Equal_bool), (32, sg_slices_Equal_int), (33, sg_slices_Equal_byte), (34, sg_r7_SameCells), (35, sg_r7_SameParser), (36, sg_snap_reader_screen), (37, sg_r7_part_n), (38, sg_r7_part_cells), (39, sg_r7_part_bytes), (40, sg_r7_Blank), (41, sg_r7_Step), (42, sg_r7_Do), (43, sg_screen_isSize), (44, sg_screen_rightCells), (45, sg_screen_rightOther), (46, sg_screen_isPlace), (47, sg_screen_rightAttr), (48, sg_screen_rightRegion), (49, sg_vt_Right), (50, sg_leb_Put), (51, sg_snap_bitIf), (52, sg_runs_Put), (53, sg_leb_PutBytes), (54, sg_r7_cellsRight), (55, sg_r7_attr), (56, sg_r7_ParserRight), (57, sg_r1_Put), (58, sg_r5_CellRight), (59, sg_snap_reader_place), (60, sg_snap_reader_number), (61, sg_snap_reader_tabs), (62, sg_snap_reader_cells), (63, sg_snap_reader_parser), (64, sg_r1_Read), (65, sg_r5_ReadCells), (66, sg_r1_ReadBytes), (67, sg_r7_blank), (68, sg_r1_Step), (69, sg_r7_formed), (70, sg_r7_prints), (71, sg_r7_step), (72, sg_r7_print), (73, sg_r7_control), (74, sg_r7_escape), (75, sg_r7_mode), (76, sg_r7_sequence), (77, sg_screen_allRight), (78, sg_grid_Mend), (79, sg_runs_Right), (80, sg_screen_isRegion), (81, sg_vt_rightUtf), (82, sg_vt_rightParams), (83, sg_vt_rightInter), (84, sg_runs_firstRun), (85, sg_runs_putRun), (86, sg_r7_Mend), (87, sg_r1_Begins), (88, sg_r7_inter), (89, sg_r1_May), (90, sg_leb_Read), (91, sg_snap_reader_fail), (92, sg_runs_Read), (93, sg_snap_reader_bytes), (94, sg_r1_whole), (95, sg_r7_with), (96, sg_r7_csi), (97, sg_r1_Width), (98, sg_r7_down), (99, sg_r7_own), (100, sg_r7_Down), (101, sg_r7_param), (102, sg_r7_to), (103, sg_r7_erase), (104, sg_r7_Up), (105, sg_r7_Insert), (106, sg_r7_Delete), (107, sg_r7_Erase), (108, sg_r7_look), (109, sg_grid_own), (110, sg_grid_hasRows), (111, sg_grid_mend), (112, sg_grid_rowOf), (113, sg_runs_rightRune), (114, sg_runs_rightAttr), (115, sg_utf_Begins), (116, sg_slices_ContainsFunc_int), (117, sg_vt_noParam), (118, sg_slices_ContainsFunc_byte), (119, sg_vt_noInter), (120, sg_r7_place), (121, sg_runs_readRuns), (122, sg_runs_spread), (123, sg_leb_ReadBytes), (124, sg_r1_in), (125, sg_r7_grid), (126, sg_grid_isGrid), (127, sg_grid_blank), (128, sg_utf_fits), (129, sg_utf_formSize), (130, sg_slices_IndexFunc_int), (131, sg_slices_IndexFunc_byte), (132, sg_vt_kindOf), (133, sg_runs_readRun), (134, sg_grid_isSize), (135, sg_utf_secondBytes), (136, sg_runs_cellOf)]
def sigs : FuncId → Option Sig := fun i => sigL.lookup i
theorem sigsGo : ∀ f sg, sigs f = some sg → isGo Tryz.prog (keyF f) = true := fun f sg h => by
 have h1 : sigL.all (fun p => isGo Tryz.prog (keyF p.1)) = true := by decide +kernel
 exact List.all_eq_true.1 h1 _ (lookup_mem h)
noncomputable def hp (fn : Func) (kb : Nat := 0) : Help := mkHelp fn T1 sigs (drawChk T1 sigs) kb
theorem hpD (fn : Func) (kb : Nat) : DrawsOk Tryz.prog (hp fn kb) := draws_ok (by decide +kernel) t1ok sigsGo (fun _ _ _ h => h)
abbrev Spn (f : Nat) (sg : Sig) (das rs : List DV) : Prop := Sp Tryz.prog T1 sg f das rs
abbrev SpF1 : FuncId → List DV → List DV → Prop := SpF Tryz.prog T1 sigs
def tr_r7_blank : Tree := (.ret [(.I 32), (.I 0), (.I 0)])
theorem rd_r7_blank {das rs : List DV} (hl : das.length = parN sg_r7_blank.params) (hd : tr_r7_blank.den SpF1 (fun es => es = rs) das []) : Spn n_r7_blank sg_r7_blank das rs :=
 fn_short t1ok sigsGo (hpD Tryz.f67 0) Tryz.func67 (by decide +kernel) hl hd
def tr_r1_in : Tree := (.br (.O .le (.V 1) (.V 0)) (.ret [(.O .le (.V 0) (.V 2))]) (.ret [(.B false)]))
theorem rd_r1_in {das rs : List DV} (hl : das.length = parN sg_r1_in.params) (hd : tr_r1_in.den SpF1 (fun es => es = rs) das []) : Spn n_r1_in sg_r1_in das rs :=
 fn_short t1ok sigsGo (hpD Tryz.f124 0) Tryz.func124 (by decide +kernel) hl hd
def tr_r7_grid : Tree := (.br (.O .lt (.V 1) (.I 1)) (.ret [(.I 0), (.B false)]) (.br (.O .lt (.I 1000) (.V 1)) (.ret [(.I 0), (.B false)]) (.br (.O .eq (.O .rem (.U .len (.V 0)) (.V 1)) (.I 0)) (.need (.U (.fit .i64) (.O .quo (.U .len (.V 0)) (.V 1))) (.br (.O .lt (.O .quo (.U .len (.V 0)) (.V 1)) (.I 1)) (.ret [(.I 0), (.B false)]) (.br (.O .lt (.I 1000) (.O .quo (.U .len (.V 0)) (.V 1))) (.ret [(.I 0), (.B false)]) (.ret [(.O .quo (.U .len (.V 0)) (.V 1)), (.B true)])))) (.ret [(.I 0), (.B false)]))))
theorem rd_r7_grid {das rs : List DV} (hl : das.length = parN sg_r7_grid.params) (hd : tr_r7_grid.den SpF1 (fun es => es = rs) das []) : Spn n_r7_grid sg_r7_grid das rs :=
 fn_short t1ok sigsGo (hpD Tryz.f125 0) Tryz.func125 (by decide +kernel) hl hd
def tr_r7_place : Tree := (.call n_r7_grid [(.V 0), (.V 1)] 2 (.br (.V 5) (.br (.O .le (.I 0) (.V 2)) (.br (.O .lt (.V 2) (.V 4)) (.br (.O .le (.I 0) (.V 3)) (.ret [(.O .le (.V 3) (.V 1))]) (.ret [(.B false)])) (.ret [(.B false)])) (.ret [(.B false)])) (.ret [(.B false)])))
theorem rd_r7_place {das rs : List DV} (hl : das.length = parN sg_r7_place.params) (hd : tr_r7_place.den SpF1 (fun es => es = rs) das []) : Spn n_r7_place sg_r7_place das rs :=
 fn_short t1ok sigsGo (hpD Tryz.f120 0) Tryz.func120 (by decide +kernel) hl hd
def tr_r7_own : Tree := (.need (.O .le (.O .add (.U .len .N) (.U .len (.V 0))) (.I 1099511627776)) (.ret [(.O .app .N (.V 0))]))
theorem rd_r7_own {das rs : List DV} (hl : das.length = parN sg_r7_own.params) (hd : tr_r7_own.den SpF1 (fun es => es = rs) das []) : Spn n_r7_own sg_r7_own das rs :=
 fn_short t1ok sigsGo (hpD Tryz.f99 0) Tryz.func99 (by decide +kernel) hl hd
def tr_r7_Up : Tree := (.call n_r7_own [(.V 0)] 1 (.call n_r7_grid [(.V 0), (.V 1)] 2 (.br (.V 7) (.br (.O .lt (.V 2) (.I 0)) (.ret [(.V 5)]) (.br (.O .le (.V 6) (.V 3)) (.ret [(.V 5)]) (.br (.O .lt (.V 3) (.V 2)) (.ret [(.V 5)]) (.loop [(.V 5), (.V 2)] (.br (.O .le (.V 9) (.V 3)) (.loop [(.V 8), (.I 0)] (.br (.O .lt (.V 11) (.V 1)) (.call n_r7_blank [] 3 (.need (.U (.fit .i64) (.O .add (.V 9) (.O .min (.O .max (.V 4) (.I 0)) (.I 1000)))) (.br (.O .le (.O .add (.V 9) (.O .min (.O .max (.V 4) (.I 0)) (.I 1000))) (.V 3)) (.need (.U (.fit .i64) (.O .mul (.O .add (.V 9) (.O .min (.O .max (.V 4) (.I 0)) (.I 1000))) (.V 1))) (.need (.U (.fit .i64) (.O .add (.O .mul (.O .add (.V 9) (.O .min (.O .max (.V 4) (.I 0)) (.I 1000))) (.V 1)) (.V 11))) (.need (.O .and (.O .le (.I 0) (.O .add (.O .mul (.O .add (.V 9) (.O .min (.O .max (.V 4) (.I 0)) (.I 1000))) (.V 1)) (.V 11))) (.O .lt (.O .add (.O .mul (.O .add (.V 9) (.O .min (.O .max (.V 4) (.I 0)) (.I 1000))) (.V 1)) (.V 11)) (.U .len (.V 0)))) (.need (.U (.fit .i64) (.O .mul (.V 9) (.V 1))) (.need (.U (.fit .i64) (.O .add (.O .mul (.V 9) (.V 1)) (.V 11))) (.need (.O .and (.O .le (.I 0) (.O .add (.O .mul (.V 9) (.V 1)) (.V 11))) (.O .lt (.O .add (.O .mul (.V 9) (.V 1)) (.V 11)) (.U .len (.V 10)))) (.need (.U (.fit .i64) (.O .add (.V 11) (.I 1))) (.again 1 [(.P (.V 10) (.O .add (.O .mul (.V 9) (.V 1)) (.V 11)) (.O .cns (.O .cns (.O .cns .R (.O (.at 0) (.V 0) (.O .add (.O .mul (.O .add (.V 9) (.O .min (.O .max (.V 4) (.I 0)) (.I 1000))) (.V 1)) (.V 11)))) (.O (.at 1) (.V 0) (.O .add (.O .mul (.O .add (.V 9) (.O .min (.O .max (.V 4) (.I 0)) (.I 1000))) (.V 1)) (.V 11)))) (.O (.at 2) (.V 0) (.O .add (.O .mul (.O .add (.V 9) (.O .min (.O .max (.V 4) (.I 0)) (.I 1000))) (.V 1)) (.V 11))))), (.O .add (.V 11) (.I 1))])))))))) (.need (.U (.fit .i64) (.O .mul (.V 9) (.V 1))) (.need (.U (.fit .i64) (.O .add (.O .mul (.V 9) (.V 1)) (.V 11))) (.need (.O .and (.O .le (.I 0) (.O .add (.O .mul (.V 9) (.V 1)) (.V 11))) (.O .lt (.O .add (.O .mul (.V 9) (.V 1)) (.V 11)) (.U .len (.V 10)))) (.need (.U (.fit .i64) (.O .add (.V 11) (.I 1))) (.again 1 [(.P (.V 10) (.O .add (.O .mul (.V 9) (.V 1)) (.V 11)) (.O .cns (.O .cns (.O .cns .R (.V 12)) (.V 13)) (.V 14))), (.O .add (.V 11) (.I 1))])))))))) (.need (.U (.fit .i64) (.O .add (.V 9) (.I 1))) (.again 0 [(.V 10), (.O .add (.V 9) (.I 1))])))) (.ret [(.V 8)])))))) (.ret [(.V 5)]))))
theorem rd_r7_Up {das rs : List DV} (hl : das.length = parN sg_r7_Up.params) (hd : tr_r7_Up.den SpF1 (fun es => es = rs) das []) : Spn n_r7_Up sg_r7_Up das rs :=
 fn_short t1ok sigsGo (hpD Tryz.f104 0) Tryz.func104 (by decide +kernel) hl hd
def tr_r7_Down : Tree := (.call n_r7_own [(.V 0)] 1 (.call n_r7_grid [(.V 0), (.V 1)] 2 (.br (.V 7) (.br (.O .lt (.V 2) (.I 0)) (.ret [(.V 5)]) (.br (.O .le (.V 6) (.V 3)) (.ret [(.V 5)]) (.br (.O .lt (.V 3) (.V 2)) (.ret [(.V 5)]) (.loop [(.V 5), (.V 2)] (.br (.O .le (.V 9) (.V 3)) (.loop [(.V 8), (.I 0)] (.br (.O .lt (.V 11) (.V 1)) (.call n_r7_blank [] 3 (.need (.U (.fit .i64) (.O .sub (.V 9) (.O .min (.O .max (.V 4) (.I 0)) (.I 1000)))) (.br (.O .le (.V 2) (.O .sub (.V 9) (.O .min (.O .max (.V 4) (.I 0)) (.I 1000)))) (.need (.U (.fit .i64) (.O .mul (.O .sub (.V 9) (.O .min (.O .max (.V 4) (.I 0)) (.I 1000))) (.V 1))) (.need (.U (.fit .i64) (.O .add (.O .mul (.O .sub (.V 9) (.O .min (.O .max (.V 4) (.I 0)) (.I 1000))) (.V 1)) (.V 11))) (.need (.O .and (.O .le (.I 0) (.O .add (.O .mul (.O .sub (.V 9) (.O .min (.O .max (.V 4) (.I 0)) (.I 1000))) (.V 1)) (.V 11))) (.O .lt (.O .add (.O .mul (.O .sub (.V 9) (.O .min (.O .max (.V 4) (.I 0)) (.I 1000))) (.V 1)) (.V 11)) (.U .len (.V 0)))) (.need (.U (.fit .i64) (.O .mul (.V 9) (.V 1))) (.need (.U (.fit .i64) (.O .add (.O .mul (.V 9) (.V 1)) (.V 11))) (.need (.O .and (.O .le (.I 0) (.O .add (.O .mul (.V 9) (.V 1)) (.V 11))) (.O .lt (.O .add (.O .mul (.V 9) (.V 1)) (.V 11)) (.U .len (.V 10)))) (.need (.U (.fit .i64) (.O .add (.V 11) (.I 1))) (.again 1 [(.P (.V 10) (.O .add (.O .mul (.V 9) (.V 1)) (.V 11)) (.O .cns (.O .cns (.O .cns .R (.O (.at 0) (.V 0) (.O .add (.O .mul (.O .sub (.V 9) (.O .min (.O .max (.V 4) (.I 0)) (.I 1000))) (.V 1)) (.V 11)))) (.O (.at 1) (.V 0) (.O .add (.O .mul (.O .sub (.V 9) (.O .min (.O .max (.V 4) (.I 0)) (.I 1000))) (.V 1)) (.V 11)))) (.O (.at 2) (.V 0) (.O .add (.O .mul (.O .sub (.V 9) (.O .min (.O .max (.V 4) (.I 0)) (.I 1000))) (.V 1)) (.V 11))))), (.O .add (.V 11) (.I 1))])))))))) (.need (.U (.fit .i64) (.O .mul (.V 9) (.V 1))) (.need (.U (.fit .i64) (.O .add (.O .mul (.V 9) (.V 1)) (.V 11))) (.need (.O .and (.O .le (.I 0) (.O .add (.O .mul (.V 9) (.V 1)) (.V 11))) (.O .lt (.O .add (.O .mul (.V 9) (.V 1)) (.V 11)) (.U .len (.V 10)))) (.need (.U (.fit .i64) (.O .add (.V 11) (.I 1))) (.again 1 [(.P (.V 10) (.O .add (.O .mul (.V 9) (.V 1)) (.V 11)) (.O .cns (.O .cns (.O .cns .R (.V 12)) (.V 13)) (.V 14))), (.O .add (.V 11) (.I 1))])))))))) (.need (.U (.fit .i64) (.O .add (.V 9) (.I 1))) (.again 0 [(.V 10), (.O .add (.V 9) (.I 1))])))) (.ret [(.V 8)])))))) (.ret [(.V 5)]))))
theorem rd_r7_Down {das rs : List DV} (hl : das.length = parN sg_r7_Down.params) (hd : tr_r7_Down.den SpF1 (fun es => es = rs) das []) : Spn n_r7_Down sg_r7_Down das rs :=
 fn_short t1ok sigsGo (hpD Tryz.f100 0) Tryz.func100 (by decide +kernel) hl hd
def tr_r7_Insert : Tree := (.call n_r7_own [(.V 0)] 1 (.call n_r7_place (vs 0 4) 1 (.br (.V 6) (.loop [(.V 5), (.V 3)] (.br (.O .lt (.V 8) (.V 1)) (.call n_r7_blank [] 3 (.need (.U (.fit .i64) (.O .sub (.V 8) (.O .min (.O .max (.V 4) (.I 0)) (.I 1000)))) (.br (.O .le (.V 3) (.O .sub (.V 8) (.O .min (.O .max (.V 4) (.I 0)) (.I 1000)))) (.need (.U (.fit .i64) (.O .mul (.V 2) (.V 1))) (.need (.U (.fit .i64) (.O .add (.O .mul (.V 2) (.V 1)) (.V 8))) (.need (.U (.fit .i64) (.O .sub (.O .add (.O .mul (.V 2) (.V 1)) (.V 8)) (.O .min (.O .max (.V 4) (.I 0)) (.I 1000)))) (.need (.O .and (.O .le (.I 0) (.O .sub (.O .add (.O .mul (.V 2) (.V 1)) (.V 8)) (.O .min (.O .max (.V 4) (.I 0)) (.I 1000)))) (.O .lt (.O .sub (.O .add (.O .mul (.V 2) (.V 1)) (.V 8)) (.O .min (.O .max (.V 4) (.I 0)) (.I 1000))) (.U .len (.V 0)))) (.need (.O .and (.O .le (.I 0) (.O .add (.O .mul (.V 2) (.V 1)) (.V 8))) (.O .lt (.O .add (.O .mul (.V 2) (.V 1)) (.V 8)) (.U .len (.V 7)))) (.need (.U (.fit .i64) (.O .add (.V 8) (.I 1))) (.again 0 [(.P (.V 7) (.O .add (.O .mul (.V 2) (.V 1)) (.V 8)) (.O .cns (.O .cns (.O .cns .R (.O (.at 0) (.V 0) (.O .sub (.O .add (.O .mul (.V 2) (.V 1)) (.V 8)) (.O .min (.O .max (.V 4) (.I 0)) (.I 1000))))) (.O (.at 1) (.V 0) (.O .sub (.O .add (.O .mul (.V 2) (.V 1)) (.V 8)) (.O .min (.O .max (.V 4) (.I 0)) (.I 1000))))) (.O (.at 2) (.V 0) (.O .sub (.O .add (.O .mul (.V 2) (.V 1)) (.V 8)) (.O .min (.O .max (.V 4) (.I 0)) (.I 1000)))))), (.O .add (.V 8) (.I 1))]))))))) (.need (.U (.fit .i64) (.O .mul (.V 2) (.V 1))) (.need (.U (.fit .i64) (.O .add (.O .mul (.V 2) (.V 1)) (.V 8))) (.need (.O .and (.O .le (.I 0) (.O .add (.O .mul (.V 2) (.V 1)) (.V 8))) (.O .lt (.O .add (.O .mul (.V 2) (.V 1)) (.V 8)) (.U .len (.V 7)))) (.need (.U (.fit .i64) (.O .add (.V 8) (.I 1))) (.again 0 [(.P (.V 7) (.O .add (.O .mul (.V 2) (.V 1)) (.V 8)) (.O .cns (.O .cns (.O .cns .R (.V 9)) (.V 10)) (.V 11))), (.O .add (.V 8) (.I 1))])))))))) (.call n_r7_Mend [(.V 7), (.V 1), (.V 2)] 1 (.ret [(.V 9)])))) (.ret [(.V 5)]))))
theorem rd_r7_Insert {das rs : List DV} (hl : das.length = parN sg_r7_Insert.params) (hd : tr_r7_Insert.den SpF1 (fun es => es = rs) das []) : Spn n_r7_Insert sg_r7_Insert das rs :=
 fn_short t1ok sigsGo (hpD Tryz.f105 0) Tryz.func105 (by decide +kernel) hl hd
def tr_r7_Delete : Tree := (.call n_r7_own [(.V 0)] 1 (.call n_r7_place (vs 0 4) 1 (.br (.V 6) (.loop [(.V 5), (.V 3)] (.br (.O .lt (.V 8) (.V 1)) (.call n_r7_blank [] 3 (.need (.U (.fit .i64) (.O .add (.V 8) (.O .min (.O .max (.V 4) (.I 0)) (.I 1000)))) (.br (.O .lt (.O .add (.V 8) (.O .min (.O .max (.V 4) (.I 0)) (.I 1000))) (.V 1)) (.need (.U (.fit .i64) (.O .mul (.V 2) (.V 1))) (.need (.U (.fit .i64) (.O .add (.O .mul (.V 2) (.V 1)) (.V 8))) (.need (.U (.fit .i64) (.O .add (.O .add (.O .mul (.V 2) (.V 1)) (.V 8)) (.O .min (.O .max (.V 4) (.I 0)) (.I 1000)))) (.need (.O .and (.O .le (.I 0) (.O .add (.O .add (.O .mul (.V 2) (.V 1)) (.V 8)) (.O .min (.O .max (.V 4) (.I 0)) (.I 1000)))) (.O .lt (.O .add (.O .add (.O .mul (.V 2) (.V 1)) (.V 8)) (.O .min (.O .max (.V 4) (.I 0)) (.I 1000))) (.U .len (.V 0)))) (.need (.O .and (.O .le (.I 0) (.O .add (.O .mul (.V 2) (.V 1)) (.V 8))) (.O .lt (.O .add (.O .mul (.V 2) (.V 1)) (.V 8)) (.U .len (.V 7)))) (.need (.U (.fit .i64) (.O .add (.V 8) (.I 1))) (.again 0 [(.P (.V 7) (.O .add (.O .mul (.V 2) (.V 1)) (.V 8)) (.O .cns (.O .cns (.O .cns .R (.O (.at 0) (.V 0) (.O .add (.O .add (.O .mul (.V 2) (.V 1)) (.V 8)) (.O .min (.O .max (.V 4) (.I 0)) (.I 1000))))) (.O (.at 1) (.V 0) (.O .add (.O .add (.O .mul (.V 2) (.V 1)) (.V 8)) (.O .min (.O .max (.V 4) (.I 0)) (.I 1000))))) (.O (.at 2) (.V 0) (.O .add (.O .add (.O .mul (.V 2) (.V 1)) (.V 8)) (.O .min (.O .max (.V 4) (.I 0)) (.I 1000)))))), (.O .add (.V 8) (.I 1))]))))))) (.need (.U (.fit .i64) (.O .mul (.V 2) (.V 1))) (.need (.U (.fit .i64) (.O .add (.O .mul (.V 2) (.V 1)) (.V 8))) (.need (.O .and (.O .le (.I 0) (.O .add (.O .mul (.V 2) (.V 1)) (.V 8))) (.O .lt (.O .add (.O .mul (.V 2) (.V 1)) (.V 8)) (.U .len (.V 7)))) (.need (.U (.fit .i64) (.O .add (.V 8) (.I 1))) (.again 0 [(.P (.V 7) (.O .add (.O .mul (.V 2) (.V 1)) (.V 8)) (.O .cns (.O .cns (.O .cns .R (.V 9)) (.V 10)) (.V 11))), (.O .add (.V 8) (.I 1))])))))))) (.call n_r7_Mend [(.V 7), (.V 1), (.V 2)] 1 (.ret [(.V 9)])))) (.ret [(.V 5)]))))
theorem rd_r7_Delete {das rs : List DV} (hl : das.length = parN sg_r7_Delete.params) (hd : tr_r7_Delete.den SpF1 (fun es => es = rs) das []) : Spn n_r7_Delete sg_r7_Delete das rs :=
 fn_short t1ok sigsGo (hpD Tryz.f106 0) Tryz.func106 (by decide +kernel) hl hd
def tr_r7_Erase : Tree := (.call n_r7_own [(.V 0)] 1 (.call n_r7_place [(.V 0), (.V 1), (.V 2), (.I 0)] 1 (.br (.V 6) (.loop [(.V 5), (.O .min (.O .max (.V 3) (.I 0)) (.V 1))] (.br (.O .lt (.V 8) (.O .min (.O .max (.V 4) (.I 0)) (.V 1))) (.need (.U (.fit .i64) (.O .mul (.V 2) (.V 1))) (.need (.U (.fit .i64) (.O .add (.O .mul (.V 2) (.V 1)) (.V 8))) (.call n_r7_blank [] 3 (.need (.O .and (.O .le (.I 0) (.O .add (.O .mul (.V 2) (.V 1)) (.V 8))) (.O .lt (.O .add (.O .mul (.V 2) (.V 1)) (.V 8)) (.U .len (.V 7)))) (.need (.U (.fit .i64) (.O .add (.V 8) (.I 1))) (.again 0 [(.P (.V 7) (.O .add (.O .mul (.V 2) (.V 1)) (.V 8)) (.O .cns (.O .cns (.O .cns .R (.V 9)) (.V 10)) (.V 11))), (.O .add (.V 8) (.I 1))])))))) (.call n_r7_Mend [(.V 7), (.V 1), (.V 2)] 1 (.ret [(.V 9)])))) (.ret [(.V 5)]))))
theorem rd_r7_Erase {das rs : List DV} (hl : das.length = parN sg_r7_Erase.params) (hd : tr_r7_Erase.den SpF1 (fun es => es = rs) das []) : Spn n_r7_Erase sg_r7_Erase das rs :=
 fn_short t1ok sigsGo (hpD Tryz.f107 0) Tryz.func107 (by decide +kernel) hl hd
def tr_r7_Mend : Tree := (.call n_r7_own [(.V 0)] 1 (.call n_r7_place [(.V 0), (.V 1), (.V 2), (.I 0)] 1 (.br (.V 4) (.loop [(.V 3), (.I 0)] (.br (.O .lt (.V 6) (.V 1)) (.need (.U (.fit .i64) (.O .mul (.V 2) (.V 1))) (.need (.U (.fit .i64) (.O .add (.O .mul (.V 2) (.V 1)) (.V 6))) (.need (.O .and (.O .le (.I 0) (.O .add (.O .mul (.V 2) (.V 1)) (.V 6))) (.O .lt (.O .add (.O .mul (.V 2) (.V 1)) (.V 6)) (.U .len (.V 0)))) (.br (.O .eq (.O (.at 2) (.V 0) (.O .add (.O .mul (.V 2) (.V 1)) (.V 6))) (.I 1)) (.need (.U (.fit .i64) (.O .sub (.V 1) (.I 1))) (.br (.O .eq (.V 6) (.O .sub (.V 1) (.I 1))) (.call n_r7_blank [] 3 (.need (.O .lt (.O .add (.O .mul (.V 2) (.V 1)) (.V 6)) (.U .len (.V 5))) (.need (.U (.fit .i64) (.O .add (.V 6) (.I 1))) (.again 0 [(.P (.V 5) (.O .add (.O .mul (.V 2) (.V 1)) (.V 6)) (.O .cns (.O .cns (.O .cns .R (.V 7)) (.V 8)) (.V 9))), (.O .add (.V 6) (.I 1))])))) (.need (.U (.fit .i64) (.O .add (.O .add (.O .mul (.V 2) (.V 1)) (.V 6)) (.I 1))) (.need (.O .and (.O .le (.I 0) (.O .add (.O .add (.O .mul (.V 2) (.V 1)) (.V 6)) (.I 1))) (.O .lt (.O .add (.O .add (.O .mul (.V 2) (.V 1)) (.V 6)) (.I 1)) (.U .len (.V 0)))) (.br (.O .eq (.O (.at 2) (.V 0) (.O .add (.O .add (.O .mul (.V 2) (.V 1)) (.V 6)) (.I 1))) (.I 2)) (.need (.U (.fit .i64) (.O .add (.V 6) (.I 1))) (.again 0 [(.V 5), (.O .add (.V 6) (.I 1))])) (.call n_r7_blank [] 3 (.need (.O .lt (.O .add (.O .mul (.V 2) (.V 1)) (.V 6)) (.U .len (.V 5))) (.need (.U (.fit .i64) (.O .add (.V 6) (.I 1))) (.again 0 [(.P (.V 5) (.O .add (.O .mul (.V 2) (.V 1)) (.V 6)) (.O .cns (.O .cns (.O .cns .R (.V 7)) (.V 8)) (.V 9))), (.O .add (.V 6) (.I 1))]))))))))) (.br (.O .eq (.O (.at 2) (.V 0) (.O .add (.O .mul (.V 2) (.V 1)) (.V 6))) (.I 2)) (.br (.O .eq (.V 6) (.I 0)) (.call n_r7_blank [] 3 (.need (.O .lt (.O .add (.O .mul (.V 2) (.V 1)) (.V 6)) (.U .len (.V 5))) (.need (.U (.fit .i64) (.O .add (.V 6) (.I 1))) (.again 0 [(.P (.V 5) (.O .add (.O .mul (.V 2) (.V 1)) (.V 6)) (.O .cns (.O .cns (.O .cns .R (.V 7)) (.V 8)) (.V 9))), (.O .add (.V 6) (.I 1))])))) (.need (.U (.fit .i64) (.O .sub (.O .add (.O .mul (.V 2) (.V 1)) (.V 6)) (.I 1))) (.need (.O .and (.O .le (.I 0) (.O .sub (.O .add (.O .mul (.V 2) (.V 1)) (.V 6)) (.I 1))) (.O .lt (.O .sub (.O .add (.O .mul (.V 2) (.V 1)) (.V 6)) (.I 1)) (.U .len (.V 0)))) (.br (.O .eq (.O (.at 2) (.V 0) (.O .sub (.O .add (.O .mul (.V 2) (.V 1)) (.V 6)) (.I 1))) (.I 1)) (.need (.U (.fit .i64) (.O .add (.V 6) (.I 1))) (.again 0 [(.V 5), (.O .add (.V 6) (.I 1))])) (.call n_r7_blank [] 3 (.need (.O .lt (.O .add (.O .mul (.V 2) (.V 1)) (.V 6)) (.U .len (.V 5))) (.need (.U (.fit .i64) (.O .add (.V 6) (.I 1))) (.again 0 [(.P (.V 5) (.O .add (.O .mul (.V 2) (.V 1)) (.V 6)) (.O .cns (.O .cns (.O .cns .R (.V 7)) (.V 8)) (.V 9))), (.O .add (.V 6) (.I 1))])))))))) (.need (.U (.fit .i64) (.O .add (.V 6) (.I 1))) (.again 0 [(.V 5), (.O .add (.V 6) (.I 1))]))))))) (.ret [(.V 5)]))) (.ret [(.V 3)]))))
theorem rd_r7_Mend {das rs : List DV} (hl : das.length = parN sg_r7_Mend.params) (hd : tr_r7_Mend.den SpF1 (fun es => es = rs) das []) : Spn n_r7_Mend sg_r7_Mend das rs :=
 fn_short t1ok sigsGo (hpD Tryz.f86 0) Tryz.func86 (by decide +kernel) hl hd
def tr_r7_Blank : Tree := (.br (.O .lt (.V 0) (.I 1)) (.ret [.N]) (.br (.O .lt (.I 1000) (.V 0)) (.ret [.N]) (.br (.O .lt (.V 1) (.I 1)) (.ret [.N]) (.br (.O .lt (.I 1000) (.V 1)) (.ret [.N]) (.need (.U (.fit .i64) (.O .mul (.V 0) (.V 1))) (.need (.O .and (.O .le (.I 0) (.O .mul (.V 0) (.V 1))) (.O .le (.O .mul (.V 0) (.V 1)) (.I 1099511627776))) (.loop [(.O .rep (.O .mul (.V 0) (.V 1)) (.O .cns (.O .cns (.O .cns .R (.I 0)) (.I 0)) (.I 0))), (.I 0)] (.br (.O .lt (.V 3) (.U .len (.V 2))) (.call n_r7_blank [] 3 (.need (.O .le (.I 0) (.V 3)) (.need (.U (.fit .i64) (.O .add (.V 3) (.I 1))) (.again 0 [(.P (.V 2) (.V 3) (.O .cns (.O .cns (.O .cns .R (.V 4)) (.V 5)) (.V 6))), (.O .add (.V 3) (.I 1))])))) (.ret [(.V 2)])))))))))
theorem rd_r7_Blank {das rs : List DV} (hl : das.length = parN sg_r7_Blank.params) (hd : tr_r7_Blank.den SpF1 (fun es => es = rs) das []) : Spn n_r7_Blank sg_r7_Blank das rs :=
 fn_short t1ok sigsGo (hpD Tryz.f40 0) Tryz.func40 (by decide +kernel) hl hd
end Go.Proofs.YtbegccgpmhbnfaaGreat
