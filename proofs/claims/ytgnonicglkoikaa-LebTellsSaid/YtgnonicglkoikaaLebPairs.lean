/- What is proved here: three rows of bytes of the call's own that lie apart, and what an append onto one of them makes of all three: for a statement that leaves the order of its appends open. -/
import Derived.Test.YtgnonicglkoikaaLebWords
import Derived.Deep.RegionLaw
namespace Go.Proofs.Ytgnonicglkoikaa
open Go.RowKit
set_option linter.unusedVariables false

/-- Two values lie in no row together. -/
def Apart (v u : Value) : Prop := ∀ k, v.ownBlock = some k → u.ownBlock ≠ some k
theorem Apart.symm {v u : Value} (h : Apart v u) : Apart u v := fun k hk hv => h k hv hk
theorem Apart.nil (v : Value) : Apart v (.slice none 0 0) := fun k _ h => by cases h

/-- Three rows of the call's own, apart; below 'base' all is as it was. -/
structure Three (base : Nat) (w0 w : World) (v u z : Value) (lv lu lz : List UInt8) : Prop where
  bel : Below base w0 w
  size : base ≤ w.heap.size
  ov : OB w base v lv
  ou : OB w base u lu
  oz : OB w base z lz
  vu : Apart v u
  vz : Apart v z
  uz : Apart u z

theorem OB.kept {w w' : World} {base : Nat} {v : Value} {l : List UInt8} {row : Option Nat} (h : OB w base v l) (hg : w.grownBy w' row) (hne : ∀ k, row = some k → v.ownBlock ≠ some k) : OB w' base v l := by
  refine World.ownsRow.kept h hg ?_
  cases hv : v.ownBlock with
  | none => exact Or.inl rfl
  | some k =>
    right
    intro e
    exact hne k e.symm hv
theorem OB.lt {w : World} {base : Nat} {v : Value} {l : List UInt8} (h : OB w base v l) {k : Nat} (hk : v.ownBlock = some k) : k < w.heap.size := (World.ownsRow.lt h k hk).2

/-- What lies apart from v lies apart from what an append onto v has made. -/
theorem apart_new {w : World} {base : Nat} {v v' u : Value} {l : List UInt8} (hu : OB w base u l) (h : Apart v u) (hat : v'.ownBlock = v.ownBlock ∨ v'.ownBlock = some w.heap.size) : Apart v' u := by
  intro k hk
  rcases hat with e | e
  · rw [e] at hk; exact h k hk
  · rw [e] at hk
    injection hk with hk
    subst hk
    intro hu'
    have := hu.lt hu'
    omega

theorem Three.appV {base B : Nat} {w0 w : World} {v u z s : Value} {lv lu lz m : List UInt8} (h : Three base w0 w v u z lv lu lz) (ty : TypeId) (hs : BS w B s m) (hlen : lv.length + m.length ≤ 1099511627776) :
    ∃ v' w', (Builtin.append_ #[23, 23] ty #[v, s]).run Try.prog w = .ok v' w' ∧ Three base w0 w' v' u z (lv ++ m) lu lz := by
  obtain ⟨v', w', hrun, ho, hg, hb, hat⟩ := run_app w ty h.ov hs hlen h.size
  exact ⟨v', w', hrun, h.bel.trans hb, Nat.le_trans h.size hb.size, ho, h.ou.kept hg (fun k hk => h.vu k hk), h.oz.kept hg (fun k hk => h.vz k hk), apart_new h.ou h.vu hat, apart_new h.oz h.vz hat, h.uz⟩
theorem Three.appU {base B : Nat} {w0 w : World} {v u z s : Value} {lv lu lz m : List UInt8} (h : Three base w0 w v u z lv lu lz) (ty : TypeId) (hs : BS w B s m) (hlen : lu.length + m.length ≤ 1099511627776) :
    ∃ u' w', (Builtin.append_ #[23, 23] ty #[u, s]).run Try.prog w = .ok u' w' ∧ Three base w0 w' v u' z lv (lu ++ m) lz := by
  obtain ⟨u', w', hrun, ho, hg, hb, hat⟩ := run_app w ty h.ou hs hlen h.size
  exact ⟨u', w', hrun, h.bel.trans hb, Nat.le_trans h.size hb.size, h.ov.kept hg (fun k hk => h.vu.symm k hk), ho, h.oz.kept hg (fun k hk => h.uz k hk), (apart_new h.ov h.vu.symm hat).symm, h.vz, apart_new h.oz h.uz hat⟩
/-- A block of one byte is laid. -/
theorem Three.lay {base : Nat} {w0 w : World} {v u : Value} {lv lu : List UInt8} (h : Three base w0 w v u (.slice none 0 0) lv lu []) (x : Int) (h0 : 0 ≤ x) (h1 : x < 256) :
    Three base w0 (w.alloc (.cells #[.int .u8 x] 5)) v u (.slice (some ⟨w.heap.size, 0, none⟩) 1 1) lv lu [UInt8.ofNat x.toNat] := by
  refine ⟨h.bel.alloc h.size _, by have := h.size; simp; omega, h.ov.alloc _, h.ou.alloc _, ?_, h.vu, ?_, ?_⟩
  · rw [← vB_of x h0 h1]
    refine ⟨rfl, Or.inr ⟨w.heap.size, 1, _, rfl, h.size, heap_alloc_new w _, by simp, by simp [maxLen], rfl, rfl⟩⟩
  · intro k hk e
    have := h.ov.lt hk
    simp [Value.ownBlock] at e
    omega
  · intro k hk e
    have := h.ou.lt hk
    simp [Value.ownBlock] at e
    omega
theorem Three.start {base : Nat} {w0 w : World} (hb : Below base w0 w) (hs : base ≤ w.heap.size) : Three base w0 w (.slice none 0 0) (.slice none 0 0) (.slice none 0 0) [] [] [] :=
  ⟨hb, hs, OB.nil _ _, OB.nil _ _, OB.nil _ _, Apart.nil _, Apart.nil _, Apart.nil _⟩

/-- The two appends as steps of a region that draws its order. -/
theorem step_appV {ops : Array Oper} {o : Oper} {a : Act} {w : World} {K : Act → World → Prop} {Q : Exit → Act → World → Prop} {E : Prop} (hgd : o.guard = none) (s x : Operand)
    (ho : o.op = .call { callee := .builtin .append, args := #[s, x], argTypes := #[23, 23] })
    {base B : Nat} {w0 : World} {v u z src : Value} {lv lu lz m : List UInt8} (hv : a.eval s = v) (hx : a.eval x = src) (hG : Three base w0 w v u z lv lu lz) (hs : BS w B src m) (hlen : lv.length + m.length ≤ 1099511627776)
    (h : ∀ v' w', Three base w0 w' v' u z (lv ++ m) lu lz → K (a.put o.dst v') w') :
    if Region.wanted o (yielded ops a.tmps) = true then Oper.wp Try.prog o a w K Q else E := by
  have hw : Region.wanted o (yielded ops a.tmps) = true := by simp [Region.wanted, hgd]
  rw [if_pos hw]
  obtain ⟨v', w', hrun, h2⟩ := hG.appV o.type hs hlen
  unfold Oper.wp execOp
  simp only [ho, resolve, invoke, builtin, Sem.run_bind, Sem.run_pure, Result.andThen_ok, List.map_toArray, List.map_cons, List.map_nil, hv, hx, hrun]
  exact h v' w' h2
theorem step_appU {ops : Array Oper} {o : Oper} {a : Act} {w : World} {K : Act → World → Prop} {Q : Exit → Act → World → Prop} {E : Prop} (hgd : o.guard = none) (s x : Operand)
    (ho : o.op = .call { callee := .builtin .append, args := #[s, x], argTypes := #[23, 23] })
    {base B : Nat} {w0 : World} {v u z src : Value} {lv lu lz m : List UInt8} (hv : a.eval s = u) (hx : a.eval x = src) (hG : Three base w0 w v u z lv lu lz) (hs : BS w B src m) (hlen : lu.length + m.length ≤ 1099511627776)
    (h : ∀ u' w', Three base w0 w' v u' z lv (lu ++ m) lz → K (a.put o.dst u') w') :
    if Region.wanted o (yielded ops a.tmps) = true then Oper.wp Try.prog o a w K Q else E := by
  have hw : Region.wanted o (yielded ops a.tmps) = true := by simp [Region.wanted, hgd]
  rw [if_pos hw]
  obtain ⟨u', w', hrun, h2⟩ := hG.appU o.type hs hlen
  unfold Oper.wp execOp
  simp only [ho, resolve, invoke, builtin, Sem.run_bind, Sem.run_pure, Result.andThen_ok, List.map_toArray, List.map_cons, List.map_nil, hv, hx, hrun]
  exact h u' w' h2
/-- As steps of a region that draws: the first row grows by what was there before; the second row likewise; the second row grows by the third. -/
theorem step_V {ops : Array Oper} {o : Oper} {a : Act} {w : World} {K : Act → World → Prop} {Q : Exit → Act → World → Prop} {E : Prop} (hgd : o.guard = none) (s x : Operand)
    (ho : o.op = .call { callee := .builtin .append, args := #[s, x], argTypes := #[23, 23] })
    {base : Nat} {w0 : World} {v u z src : Value} {lv lu lz m : List UInt8} (hG : Three base w0 w v u z lv lu lz) (hv : a.eval s = v) (hx : a.eval x = src) (hs : BS w0 base src m) (hlen : lv.length + m.length ≤ 1099511627776)
    (h : ∀ v' w', Three base w0 w' v' u z (lv ++ m) lu lz → K (a.put o.dst v') w') :
    if Region.wanted o (yielded ops a.tmps) = true then Oper.wp Try.prog o a w K Q else E :=
  step_appV hgd s x ho hv hx hG (hs.below hG.bel) hlen h
theorem step_U {ops : Array Oper} {o : Oper} {a : Act} {w : World} {K : Act → World → Prop} {Q : Exit → Act → World → Prop} {E : Prop} (hgd : o.guard = none) (s x : Operand)
    (ho : o.op = .call { callee := .builtin .append, args := #[s, x], argTypes := #[23, 23] })
    {base : Nat} {w0 : World} {v u z src : Value} {lv lu lz m : List UInt8} (hG : Three base w0 w v u z lv lu lz) (hv : a.eval s = u) (hx : a.eval x = src) (hs : BS w0 base src m) (hlen : lu.length + m.length ≤ 1099511627776)
    (h : ∀ u' w', Three base w0 w' v u' z lv (lu ++ m) lz → K (a.put o.dst u') w') :
    if Region.wanted o (yielded ops a.tmps) = true then Oper.wp Try.prog o a w K Q else E :=
  step_appU hgd s x ho hv hx hG (hs.below hG.bel) hlen h
theorem step_UZ {ops : Array Oper} {o : Oper} {a : Act} {w : World} {K : Act → World → Prop} {Q : Exit → Act → World → Prop} {E : Prop} (hgd : o.guard = none) (s x : Operand)
    (ho : o.op = .call { callee := .builtin .append, args := #[s, x], argTypes := #[23, 23] })
    {base : Nat} {w0 : World} {v u z : Value} {lv lu lz : List UInt8} (hG : Three base w0 w v u z lv lu lz) (hv : a.eval s = u) (hx : a.eval x = z) (hlen : lu.length + lz.length ≤ 1099511627776)
    (h : ∀ u' w', Three base w0 w' v u' z lv (lu ++ lz) lz → K (a.put o.dst u') w') :
    if Region.wanted o (yielded ops a.tmps) = true then Oper.wp Try.prog o a w K Q else E :=
  step_appU hgd s x ho hv hx hG hG.oz.bs hlen h
end Go.Proofs.Ytgnonicglkoikaa
