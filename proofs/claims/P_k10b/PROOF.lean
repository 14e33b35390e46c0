import PyProof.Rows.All
import Wide.All
import OpenK.AllK
import Wide.FinOn
import HandS.ForMost
import HandS.AnyAll
import HandS.GenList
import HandS.IsInst
import HandS.Deep
import HandS.Strs
import HandS.Zip
import KE.GoesEnum
import PySem.Challenge.RW_mintlaw_k10_need_and_change
import HandS.WideMore
import HandS.TupMul
import HandS.TupAny
import HandS.TupLe
import HandS.EndOwn
set_option Elab.async false
set_option linter.all false
set_option maxRecDepth 100000
set_option maxHeartbeats 4000000
namespace Gx
open PySem PySem.Spec PyProof.Rows L2 GenW GxR

/-- the consumer has it awake again: nothing of the heap has changed -/
structure Woke (s s2 : Shared) : Prop where
  os : s2.os = s.os
  heap : s2.heap = s.heap
  bare : AllBare s2.gens
theorem Inv.woke {X : Cx} {pins : List (Addr × Obj)} {σ : L2.St} {H : Hp} {s s2 : Shared} (I : Inv X pins σ H s) (w : Woke s s2) : Inv X pins σ H s2 :=
  I.call' (ch := []) w.os (Un.kept fun b u e => by rw [w.heap]; exact e) (by rw [w.heap]; exact I.hok) w.bare fun b z => by simp at z

abbrev GxR' (Xg : Cx) (fp : List Addr) (Qt : Hp → Prop) : GenEnd := fun n s₀ r s1 =>
  ((r = .ok (.ret .none) ∨ r = .ok .next) ∧ (∃ σ' H', Inv Xg [] σ' H' s1 ∧ (∀ b ∈ fp, H' b = none) ∧ Qt H')) ∨ ∃ e, r = .error e ∧ (False : Prop)
abbrev GxY (Xg : Cx) (fp : List Addr) (Qf : Hp → Prop) : Protocol := fun n s₀ v s1 kap =>
  ∃ c σ' H', v = .bool c ∧ Inv Xg [] σ' H' s1 ∧ (∀ b ∈ fp, H' b = none) ∧ if c = true then ∀ s2, Woke s1 s2 → kap (.send .none) s2 else Qf H'

theorem gx_seg {Xg : Cx} {A : Around} {tg iter elt : Expr} {scope : Scope} {pos : Pos} {it : Addr} {fp : List Addr} {tn : Nat → Heap → Prop} {J : It} {g : TG} {te : TE}
    (T : Turn Xg.prog Xg.w Xg.K tg J fp it tn) (hg : PG Xg tg g) (he : PE Xg elt te) (hxe : ∀ e s, Xg.xe e s → False) (hcalm : Xg.calm = true) (hco : Xg.env.scope.isCoroutine = false)
    (hA : A.over (.compLoop (.GeneratorExp elt [⟨tg, iter, [], 0⟩] scope pos) 0 (.ref it) .none Xg.env) [] = Xg.A)
    (stat : ∀ H', (∀ b ∈ fp, H' b = none) → ∀ b ∈ fp, FpOk Xg [] H' b)
    (W : Nat → Nat → L2.St → Hp → Prop) (Qt Qf : Hp → Prop)
    (turn : ∀ i m σ H, W i m σ H → (J.stop i H ∧ Qt H) ∨ (J.go i H ∧ 0 < m ∧ ∀ x H', J.yld i H x H' → g x σ H' fun σ2 H2 => te σ2 H2 fun v H3 => ∃ c, v = .bl c ∧ if c = true then ∃ m', m' < m ∧ W (i + 1) m' σ2 H3 else Qf H3)) :
    ∀ (n i m : Nat) (σ : L2.St) (H : Hp) (s s₀ : Shared), m ≤ n → Inv Xg [] σ H s → tn i s.heap → (∀ b ∈ fp, H b = none) → W i m σ H →
      Seg (model Xg.prog Xg.w) A (GxR' Xg fp Qt) (GxY Xg fp Qf) n s₀ (.compLoop (.GeneratorExp elt [⟨tg, iter, [], 0⟩] scope pos) 0 (.ref it) .none Xg.env)
        ((model Xg.prog Xg.w).den (.compLoop (.GeneratorExp elt [⟨tg, iter, [], 0⟩] scope pos) 0 (.ref it) .none Xg.env)) [] s := by
  intro n
  induction n with
  | zero =>
    intro i m σ H s s₀ hm I st fr w
    show Seg _ A _ _ _ s₀ _ ((compTurn (.GeneratorExp elt [⟨tg, iter, [], 0⟩] scope pos) 0 (.ref it) .none Xg.env).onRaise (leaving Xg.env)) [] s
    rw [compTurn_gen, Sem.onRaise_eq_wrap]
    refine seg_bind_wrap (wpAny_standAt ?_)
    rcases turn i m σ H w with ⟨stop, qt⟩ | ⟨_, hm0, _⟩
    · refine seg_bind_wrap ?_
      rw [hA]
      refine thn (T.done Xg rfl rfl rfl hcalm i [] s σ H _ I (stat H fr) st stop) fun r s4 ⟨hr, I4⟩ => ?_
      subst hr
      exact seg_end (.ok .next) (.inl ⟨.inr rfl, σ, H, I4, fr, qt⟩)
    · omega
  | succ n ih =>
    intro i m σ H s s₀ hm I st fr w
    show Seg _ A _ _ _ s₀ _ ((compTurn (.GeneratorExp elt [⟨tg, iter, [], 0⟩] scope pos) 0 (.ref it) .none Xg.env).onRaise (leaving Xg.env)) [] s
    rw [compTurn_gen, Sem.onRaise_eq_wrap]
    refine seg_bind_wrap (wpAny_standAt ?_)
    rcases turn i m σ H w with ⟨stop, qt⟩ | ⟨go, hm0, step⟩
    · refine seg_bind_wrap ?_
      rw [hA]
      refine thn (T.done Xg rfl rfl rfl hcalm i [] s σ H _ I (stat H fr) st stop) fun r s4 ⟨hr, I4⟩ => ?_
      subst hr
      exact seg_end (.ok .next) (.inl ⟨.inr rfl, σ, H, I4, fr, qt⟩)
    · refine seg_bind_wrap ?_
      rw [hA]
      refine thn (T.item Xg rfl rfl rfl hcalm i [] s σ H _ I (stat H fr) st go) fun r s4 ⟨u, hr, h4⟩ => ?_
      subst hr
      refine seg_bind_wrap ?_
      rw [hA]
      refine wpAny_mono h4 (fun _ s5 ⟨x, H5, I5, r5, y5, st5, fr5⟩ => ?_) fun e s5 h => h
      have I5' := I5.pinned (stat H5 fr5) (T.obj _ _ st5)
      refine seg_bind_wrap ?_
      rw [hA]
      refine wpAny_mono (hg.run _ s5 σ H5 x u _ I5' r5 (step x H5 y5)) (fun _ s6 ⟨σ6, H6, I6, q6⟩ => ?_) fun e s5 h => (hxe e s5 h).elim
      simp only [List.forIn_nil]
      refine seg_bind_wrap (wpAny_pure ?_)
      simp only [if_true]
      have hy : ∀ v, yieldOut Xg.env v = yieldValue v := fun v => by simp only [yieldOut, hco, Bool.false_eq_true, if_false]
      simp only [hy]
      rw [Sem.bind_eq_wrap', Sem.bind_eq_wrap', Sem.wrap_wrap, Sem.wrap_wrap]
      refine seg_wrap ?_
      rw [hA]
      refine wpAny_mono (he.run _ s6 σ6 H6 _ I6 q6) (fun y s7 ⟨v, H7, I7, r7, c, ec, q7⟩ => ?_) fun e s5 h => (hxe e s5 h).elim
      subst ec
      obtain rfl : y = Value.bool c := r7
      have fr7 : ∀ b ∈ fp, H7 b = none := fun b hb => by
        obtain ⟨o, e, d⟩ := T.obj _ _ st5 b hb
        exact (I7.pin (b, o) (List.mem_append_right _ (List.mem_append_right _ (mem_pinsAt hb e)))).2.1
      have st7 : tn (i + 1) s7.heap := T.keep _ _ _ st5 fun b hb o e => (I7.pin (b, o) (List.mem_append_right _ (List.mem_append_right _ (mem_pinsAt hb e)))).1
      have I7' := I7.unpinned
      refine seg_at (seg_yield rfl rfl rfl ⟨c, σ6, H7, rfl, I7', fr7, ?_⟩)
      cases c with
      | false =>
        rw [if_neg Bool.false_ne_true] at q7 ⊢
        exact q7
      | true =>
        rw [if_pos rfl] at q7 ⊢
        obtain ⟨m', hm', w7⟩ := q7
        intro s2 hw
        exact seg_again rfl (ih (i + 1) m' σ6 H7 s2 s2 (by omega) (Inv.woke I7' hw) (by rw [hw.heap]; exact st7) fr7 w7)
end Gx


namespace Gx
open PySem PySem.Spec PyProof.Rows L2 GenW GxR

theorem gx_start {Xg : Cx} {A : Around} {tg iter elt : Expr} {scope : Scope} {pos : Pos} {it : Addr} {fp : List Addr} {tn : Nat → Heap → Prop} {J : It} {Qt Qf : Hp → Prop} {n : Nat} {s s₀ : Shared}
    (T : Turn Xg.prog Xg.w Xg.K tg J fp it tn) (st : tn 0 s.heap)
    (loop : Seg (model Xg.prog Xg.w) A (GxR' Xg fp Qt) (GxY Xg fp Qf) n s₀ (.compLoop (.GeneratorExp elt [⟨tg, iter, [], 0⟩] scope pos) 0 (.ref it) .none Xg.env)
        ((model Xg.prog Xg.w).den (.compLoop (.GeneratorExp elt [⟨tg, iter, [], 0⟩] scope pos) 0 (.ref it) .none Xg.env)) [] s) :
    Seg (model Xg.prog Xg.w) A (GxR' Xg fp Qt) (GxY Xg fp Qf) n s₀ (.compStart (.GeneratorExp elt [⟨tg, iter, [], 0⟩] scope pos) 0 (.ref it) .none Xg.env)
        ((model Xg.prog Xg.w).den (.compStart (.GeneratorExp elt [⟨tg, iter, [], 0⟩] scope pos) 0 (.ref it) .none Xg.env)) [] s := by
  show Seg _ A _ _ _ s₀ _ ((compStart (.GeneratorExp elt [⟨tg, iter, [], 0⟩] scope pos) 0 (.ref it) .none Xg.env).onRaise (leaving Xg.env)) [] s
  unfold compStart
  rw [Sem.onRaise_eq_wrap]
  show Seg _ A _ _ _ s₀ _ ((ask >>= _).wrap _ _ _ _) [] s
  refine seg_bind_wrap (wpAny_askSetting ?_)
  split
  · exact seg_again rfl loop
  · first
      | exact seg_bind_wrap (wpAny_rule (seg_bind_wrap (wpAny_standAt (seg_bind_wrap (T.self _ 0 s _ _ st (seg_again rfl loop))))))
      | (refine seg_bind_wrap (wpAny_rule ?_); show Seg _ A _ _ _ s₀ _ ((standAt iter.pos >>= _).wrap _ _ _ _) [] s; exact seg_bind_wrap (wpAny_standAt (seg_bind_wrap (T.self _ 0 s _ _ st (seg_again rfl loop)))))

theorem gx_all {Xg : Cx} {A : Around} {fp : List Addr} {Qt Qf : Hp → Prop} {R : Result → Shared → Prop} {a : Addr} {g : Nat}
    (hh : A.handled = none) (hd : A.depth < recursionLimit) (gen : ∀ σ H s, Inv Xg [] σ H s → s.heap.IsGen a g)
    (ht : ∀ σ' H' s1 h', Inv Xg [] σ' H' s1 → (∀ b ∈ fp, H' b = none) → Qt H' → (∀ b o, s1.heap.get? b = some o → h'.get? b = some o) → R (.ok (.ret (.bool true))) { s1.setGen g .finished with heap := h' })
    (hf : ∀ σ' H' s1 gs', gs'.bare = true → Inv Xg [] σ' H' s1 → (∀ b ∈ fp, H' b = none) → Qf H' → R (.ok (.ret (.bool false))) (s1.setGen g gs')) :
    ∀ (n : Nat) (s : Shared), s.heap.IsGen a g → s.heap.NoLimit →
      (∃ gs, s.gens[g]? = some gs ∧ gs.Goes (model Xg.prog Xg.w) A.in1.in1 (GxR' Xg fp Qt) (GxY Xg fp Qf) n (.send .none) (s.setGen g .running)) →
      codeAny (model Xg.prog Xg.w) A (.builtin "all.loop" ⟨[.ref a], []⟩) R s := by
  intro n
  induction n with
  | zero =>
    intro s hg hl ⟨gs, hgs, hgo⟩
    refine codeAny_builtin F.entry_all_loop ?_
    rw [Around.under_plainId F.plain_all_loop _]
    show wpAny _ A.in1 (pyNext (.ref a) >>= _) _ _ s
    refine wpAny_bind (next_genG (A := A.in1) (Er := fun _ _ => False) hh hl hd hg hgs hgo (fun v s₁ gs' hbare hv => ?_) (fun s₁ hp h' hk => ?_) fun e s₁ he => he.elim)
    · obtain ⟨c, σ', H', rfl, I, fr, q⟩ := hv
      refine wpAny_bind (wpAny_holding (wpAny_truthy_bool ?_))
      refine wpAny_bind (wpAny_letGo ?_)
      cases c with
      | true =>
        rw [if_pos rfl] at q
        exact (q s₁ ⟨rfl, rfl, I.bare⟩).elim
      | false =>
        rw [if_neg Bool.false_ne_true] at q
        simp only [Bool.false_eq_true, if_false]
        refine wpAny_bind (wpAny_rule (wpAny_pure ?_))
        exact hf σ' H' s₁ gs' hbare I fr q
    · obtain ⟨σ', H', I, fr, q⟩ := hp
      refine wpAny_bind (wpAny_rule (wpAny_pure ?_))
      exact ht σ' H' s₁ h' I fr q hk
  | succ n ih =>
    intro s hg hl ⟨gs, hgs, hgo⟩
    have hgl : g < s.gens.size := (Array.getElem?_eq_some_iff.mp hgs).1
    refine codeAny_builtin F.entry_all_loop ?_
    rw [Around.under_plainId F.plain_all_loop _]
    show wpAny _ A.in1 (pyNext (.ref a) >>= _) _ _ s
    refine wpAny_bind (wpAny_gsz (n := g + 1) hgl (next_genG (A := A.in1) (Er := fun _ _ => False) hh hl hd hg hgs hgo (fun v s₁ gs' hbare hv => ?_) (fun s₁ hp h' hk => ?_) fun e s₁ he => he.elim))
    · intro hsz
      obtain ⟨c, σ', H', rfl, I, fr, q⟩ := hv
      refine wpAny_bind (wpAny_holding (wpAny_truthy_bool ?_))
      refine wpAny_bind (wpAny_letGo ?_)
      cases c with
      | true =>
        rw [if_pos rfl] at q
        simp only [if_true]
        have hsz1 : g < s₁.gens.size := by
          have q : (s₁.setGen g gs').gens.size = s₁.gens.size := setGen_size _ _ _
          have hsz' : g + 1 ≤ (s₁.setGen g gs').gens.size := hsz
          omega
        refine wpAny_pure ⟨plainId_quiet F.plain_all_loop _, ih (s₁.setGen g gs') (gen σ' H' s₁ I) I.nolimit ⟨gs', setGen_at hsz1, ?_⟩⟩
        exact q _ ⟨rfl, rfl, allBare_setGen (s := s₁.setGen g gs') (allBare_setGen I.bare hbare) rfl⟩
      | false =>
        rw [if_neg Bool.false_ne_true] at q
        simp only [Bool.false_eq_true, if_false]
        refine wpAny_bind (wpAny_rule (wpAny_pure ?_))
        exact hf σ' H' s₁ gs' hbare I fr q
    · intro hsz
      obtain ⟨σ', H', I, fr, q⟩ := hp
      refine wpAny_bind (wpAny_rule (wpAny_pure ?_))
      exact ht σ' H' s₁ h' I fr q hk
end Gx


namespace Gx
open PySem PySem.Spec PyProof.Rows L2 GenW GxR

theorem Inv.after {X : Cx} {pins : List (Addr × Obj)} {σ : L2.St} {H : Hp} {s s2 : Shared} (I : Inv X pins σ H s) (os : s2.os = s.os) (k : ∀ b o, s.heap.get? b = some o → s2.heap.get? b = some o) (hb : AllBare s2.gens) : Inv X pins σ H s2 :=
  I.call' (ch := []) os (Un.kept k) (I.hok.kept k) hb fun b z => by simp at z

/-- the slots of a generator expression's frame: js tells for each whether it is captured, and from which slot of the def -/
def capt (js : List (Option Nat)) (σ : L2.St) : L2.St := js.map fun o => match o with
  | some j => (σ[j]?).getD none
  | none => none

def capOk (XN N : List Str) (js : List (Option Nat)) (names : List (Str × NameKind)) : Bool :=
  (N.zip js).all fun p => match p.2 with
    | some j => (XN[j]? == some p.1) && (names.lookup p.1 == some .free)
    | none => true
def freeOk (sc : List (Str × NameKind)) (names : List (Str × NameKind)) : Bool :=
  names.all fun y => match y.2 with
    | .cell => false
    | .free => sc.lookup y.1 == some .cell || sc.lookup y.1 == some .free
    | _ => true
structure GxS (sc : Scope) (XN : List Str) (scope : Scope) (N : List Str) (js : List (Option Nat)) : Prop where
  kind : scope.kind = .function
  co : scope.isCoroutine = false
  dot : scope.names.lookup (".0" : Str) = some NameKind.local
  free : freeOk sc.names scope.names = true
  len : js.length = N.length
  cap : capOk XN N js scope.names = true
theorem GxS.nocell {sc : Scope} {XN : List Str} {scope : Scope} {N : List Str} {js : List (Option Nat)} (S : GxS sc XN scope N js) : ∀ y ∈ scope.names, y.2 ≠ .cell := fun y hy z => by
  have q := List.all_eq_true.mp S.free y hy
  rw [z] at q
  cases q
theorem GxS.frees {sc : Scope} {XN : List Str} {scope : Scope} {N : List Str} {js : List (Option Nat)} (S : GxS sc XN scope N js) : ∀ y ∈ scope.names, y.2 = .free → sc.names.lookup y.1 = some .cell ∨ sc.names.lookup y.1 = some .free := fun y hy z => by
  have q := List.all_eq_true.mp S.free y hy
  rw [z] at q
  simpa using q
theorem GxS.caps {sc : Scope} {XN : List Str} {scope : Scope} {N : List Str} {js : List (Option Nat)} (S : GxS sc XN scope N js) {i j : Nat} {x : Str} (h : js[i]? = some (some j)) (hx : N[i]? = some x) : XN[j]? = some x ∧ scope.names.lookup x = some .free := by
  have hm : (x, some j) ∈ N.zip js := by
    rw [List.mem_iff_getElem?]
    exact ⟨i, by rw [List.getElem?_zip_eq_some]; exact ⟨hx, h⟩⟩
  have q := List.all_eq_true.mp S.cap _ hm
  simpa using q

abbrev gxEnv (X : Cx) (scope : Scope) (C : Addr) (code : Value) : Env := genEnv scope (cloFrom X.env.cells scope.names []) C code builtinsNs X.env
def gxCx (X : Cx) (scope : Scope) (N : List Str) (C : Addr) (code : Value) (s : Shared) (H : Hp) (fp : List Addr) (pn : List (Addr × Obj)) : Cx :=
  { X with A := X.A.in1.in1.deeper (gxEnv X scope C code), N := N, s_0 := s, H_0 := H, env := gxEnv X scope C code, outer := X.stack, stack := gxEnv X scope C code :: X.stack, ex := fp, fn := fun _ => false, calm := true, pn := pn, xe := fun _ _ => False }
theorem gxRoom {X : Cx} {k : Nat} (hr : Room (k + 1) X.A) (env : Env) : Room k (X.A.in1.in1.deeper env) :=
  ⟨hr.hd, by have := hr.dp; show X.A.depth + 1 + 3 * k + 5 < _; omega, by have := hr.un; show X.A.units + 1 + 1 + 3 + 16 * k + 200 < _; omega⟩

theorem over_comp {A : Around} {elt tg iter : Expr} {scope : Scope} {pos : Pos} {it acc : Value} {env : Env} :
    A.over (.compLoop (.GeneratorExp elt [⟨tg, iter, [], 0⟩] scope pos) 0 it acc env) [] = A.deeper env := by
  first
    | rfl
    | (obtain ⟨hd, d, fr, gs, u⟩ := A; simp [Around.over, Around.deeper, marksOver, frameCount, unitsOf, envsOf, guardsOf, pushEnvs, pushGuards, Code.envs, Code.env?, Code.isFrame, Code.guards, Code.isGuard, Code.weight, Code.frames, Code.isCreation, Code.isCaller, Code.cUnits])

/-- a captured name's cell is the def's -/
theorem clo_cell {X : Cx} {scope : Scope} {N : List Str} {js : List (Option Nat)} {pins : List (Addr × Obj)} {σ : L2.St} {H : Hp} {s : Shared} (S : GxS X.env.scope X.N scope N js) (I : Inv X pins σ H s) {x : Str} {c : Addr} (h : (cloFrom X.env.cells scope.names []).lookup x = some c) :
    X.env.cells.lookup x = some c := by
  rcases cloFrom_mem (PySem.mem_of_lookup h) with z | ⟨h1, h2⟩
  · cases z
  · obtain ⟨c', hc⟩ := I.ok.has x (S.frees _ h1 rfl)
    rw [hc] at h2
    rw [hc, h2]
    rfl
theorem clo_has {X : Cx} {scope : Scope} {N : List Str} {js : List (Option Nat)} {pins : List (Addr × Obj)} {σ : L2.St} {H : Hp} {s : Shared} (S : GxS X.env.scope X.N scope N js) (I : Inv X pins σ H s) {x : Str} (h : (x, NameKind.free) ∈ scope.names) :
    ∃ c, (cloFrom X.env.cells scope.names []).lookup x = some c := mem_lookup (cloFrom_has h)

theorem inv_gx {X : Cx} {scope : Scope} {N : List Str} {js : List (Option Nat)} {pins : List (Addr × Obj)} {σ : L2.St} {H H3 : Hp} {s s5 : Shared} {C : Addr} {code : Value} {fp : List Addr} {a : Addr} {go : Obj} {itv : Value}
    (hd : X.A.handled = none) (S : GxS X.env.scope X.N scope N js) (I : Inv X pins σ H s) (f2 : ∀ b ∈ fp, FpOk X pins H b) (ofp : ∀ b ∈ fp, ∃ o, s.heap.get? b = some o)
    (hC : s.heap.objs.size ≤ C) (os : s5.os = s.os) (hb : AllBare s5.gens) (un : Un (frs X.stack) [] H H3 s.heap s5.heap) (hn : s5.heap.Ns C (fun y => if y = ".0" then some itv else none)) (hok : HOk X.prog X.w H3 s5.heap)
    (ha : s5.heap.get? a = some go) (haC : a ≠ C) (haS : s.heap.objs.size ≤ a) (hgo : ∀ v, go.data ≠ .cell v) (hyoung : ∀ b, s.heap.objs.size ≤ b → H3 b = none) :
    Inv (gxCx X scope N C code s H fp [(a, go)]) [] (capt js σ) H3 s5 := by
  have nst : ∀ b, s.heap.objs.size ≤ b → b ∉ frs X.stack := fun b hb hm => by
    rcases List.mem_cons.mp (I.stkSub b hm) with z | z
    · rw [z] at hb
      exact absurd (Nat.lt_of_lt_of_le I.lt hb) (Nat.lt_irrefl _)
    · exact I.nofs hb z
  have fpn : ∀ b ∈ fp, b ∉ frs X.stack := fun b hb hm => by
    obtain ⟨_, f1, f2', _⟩ := f2 b hb
    rcases List.mem_cons.mp (I.stkSub b hm) with z | z
    · exact f1 z
    · exact f2' z
  have cellK : ∀ c v, s.heap.IsCell c v → H c = none → s5.heap.IsCell c v := fun c v ⟨o, ho, hd⟩ hc => by
    obtain ⟨sl, e⟩ := un.any ho hc (by simp)
    exact ⟨_, e, hd⟩
  refine ⟨⟨I.ok.mod, S.kind, I.ok.glob, rfl, hC, fun x y c h1 h2 => I.ok.inj x y c (clo_cell S I h1) (clo_cell S I h2), fun x hx => ?_, fun _ _ h _ => (by cases h), fun _ => hd, Around.frames_deeper (A := X.A.in1.in1) I.ok.frames, .inr ⟨rfl, rfl⟩, fun b hb => ⟨?_, fun x c h => ?_⟩, I.bs, Nat.le_trans I.ok.bsz I.sz, fun b o e hb => ?_, fpn, I.stack, fun b hb => I.stkFree b hb⟩,
    os, hb, ⟨fun b o e n h1 h2 => un.keep b o e n h1 (by simp), fun b o e n h1 h2 => un.slot b o e n h1 (by simp), fun b o e n h => un.free b o e n (by simp), fun b o e h => un.there b o e (by simp), un.tups, un.frzs, un.tbls⟩,
    ⟨_, hn, fun i x v e1 e2 e3 => ?_⟩, fun x c h => ?_, hyoung C hC, fun x c h => ?_, fun p hp => ?_, hok, ?_⟩
  · have hx' : scope.names.lookup x = some .cell ∨ scope.names.lookup x = some .free := hx
    rcases hx' with hx' | hx'
    · exact absurd rfl (S.nocell _ (PySem.mem_of_lookup hx'))
    · exact clo_has S I (PySem.mem_of_lookup hx')
  · obtain ⟨o, ho⟩ := ofp b hb
    exact Nat.ne_of_lt (Nat.lt_of_lt_of_le (Heap.lt_size ho) hC)
  · obtain ⟨_, _, _, _, f4, _⟩ := f2 b hb
    exact f4 x c (clo_cell S I h)
  · obtain ⟨_, _, _, f3, _, _⟩ := f2 b hb
    rcases f3 with z | z
    · exact I.ok.noex b o e z
    · exact absurd (Nat.lt_of_lt_of_le (Heap.lt_size (I.ok.bs b o e).1) z) (Nat.lt_irrefl _)
  · -- a slot
    have e2' : (js.map fun o => match o with | some j => (σ[j]?).getD none | none => none)[i]? = some (some v) := e2
    rw [List.getElem?_map] at e2'
    cases hj : js[i]? with
    | none => rw [hj] at e2'; cases e2'
    | some o =>
      rw [hj] at e2'
      cases o with
      | none => cases e2'
      | some j =>
        have e4 : (σ[j]?).getD none = some v := Option.some.inj e2'
        have e5 : σ[j]? = some (some v) := by
          cases q : σ[j]? with
          | none => rw [q] at e4; cases e4
          | some z => rw [q] at e4; exact congrArg some e4
        obtain ⟨h1, h2⟩ := S.caps hj e1
        obtain ⟨m, hm, hl⟩ := I.loc
        have hfr := S.frees _ (PySem.mem_of_lookup h2) rfl
        obtain ⟨u, r, l⟩ := hl j x v h1 e5 (.inr hfr)
        refine ⟨u, r, .inr ⟨.inr h2, ?_⟩⟩
        rcases l with ⟨hk, _⟩ | ⟨_, c, hc, hcell⟩
        · have hk' : X.env.scope.names.lookup x = some .local := hk
          rcases hfr with z | z <;> (rw [hk'] at z; cases z)
        · obtain ⟨c', hc'⟩ := clo_has S I (PySem.mem_of_lookup h2)
          have e6 := clo_cell S I hc'
          rw [hc] at e6
          cases e6
          exact ⟨c, hc', cellK c _ hcell (I.freeC x c hc)⟩
  · obtain ⟨v, hv⟩ := I.cell x c (clo_cell S I h)
    exact ⟨v, cellK c v hv (I.freeC x c (clo_cell S I h))⟩
  · obtain ⟨v, o, ho, _⟩ := I.cell x c (clo_cell S I h)
    exact un.free c o ho (I.freeC x c (clo_cell S I h)) (by simp)
  · have e : p = (a, go) := by simpa [gxCx] using hp
    subst e
    exact ⟨ha, hyoung a haS, haC, nst a haS, hgo⟩
  · show (js.map _).length = N.length
    rw [List.length_map]
    exact S.len
end Gx


namespace Gx
open PySem PySem.Spec PyProof.Rows L2 GenW GxR

/-- what all(elt for tg in iter) asks -/
def tAllG (P : Addr) (js : List (Option Nat)) (wi : TI) (g : TG) (te : TE) : TE := fun σ H Q => wi σ H fun J H1 => TabG H1 P ∧ ∀ H2, Tabbed P H1 H2 →
  ∃ W : Nat → Nat → L2.St → Hp → Prop, (∃ m, W 0 m (capt js σ) H2) ∧ ∀ i m σ' H', W i m σ' H' →
    (J.stop i H' ∧ Q (.bl true) H') ∨ (J.go i H' ∧ 0 < m ∧ ∀ x H'', J.yld i H' x H'' → g x σ' H'' fun σ2 H3 => te σ2 H3 fun v H4 => ∃ c, v = .bl c ∧ if c = true then ∃ m', m' < m ∧ W (i + 1) m' σ2 H4 else Q (.bl false) H4)

theorem pe_allG {X : Cx} {c P : Addr} {k : Nat} {elt iter tg : Expr} {p pos gpos : Pos} {scope : Scope} {N : List Str} {js : List (Option Nat)} {wi : TI} {g : TG} {te : TE}
    (hr : Room (k + 1) X.A) (hg : Gl X "all") (hm : X.mg "all" = none) (TB : TabB X.base X.mg c P) (hcode : X.env.code = .ref c) (S : GxS X.env.scope X.N scope N js) (hi : PI X tg iter wi)
    (hgt : ∀ C code s H fp pn, PG (gxCx X scope N C code s H fp pn) tg g)
    (hel : ∀ C code s H fp pn, Room k (gxCx X scope N C code s H fp pn).A → PE (gxCx X scope N C code s H fp pn) elt te)
    (hs : ∀ v, genFold iter X.env v = pure v := by intro _; rfl) (hb : bootBuiltins "all" = some (.builtin "all") := by decide +kernel)
    (he : starEach [.GeneratorExp elt [⟨tg, iter, [], 0⟩] scope gpos] X.env = (false, eval (.GeneratorExp elt [⟨tg, iter, [], 0⟩] scope gpos) X.env) :: starEach [] X.env := by rfl) :
    PE X (.Call (.Name "all" p) [.GeneratorExp elt [⟨tg, iter, [], 0⟩] scope gpos] [] pos) (tAllG P js wi g te) := by
  refine ⟨fun pins s σ H Q I h => ?_⟩
  refine wpAny_Call_Name_kw (ld_blt I hg hm hb ?_)
  refine PyProof.Rows.callWith_builtin1 ?_ he (by rfl)
  rw [he]
  show wpAny _ _ (spliced ((false, eval (.GeneratorExp elt [⟨tg, iter, [], 0⟩] scope gpos) X.env) :: backTo pos (starEach [] X.env))) _ _ s
  have hh : X.A.handled = none := hr.hd
  have hroom : X.A.depth < recursionLimit := by have := hr.dp; omega
  refine Calls.spliced_cons (wpAny_GeneratorExp_make S.co (closure_ok fun y hy hf => ?_) S.nocell S.dot S.kind hroom ?_ hs)
  · exact I.ok.has y.1 (S.frees y hy hf)
  refine thn (hi.run pins s σ H _ I h) fun v s1 h1 => thn h1 fun itv s2 ⟨it, fp, tn, J, H2, eit, I2, T, st2, f2, ⟨ps, hP, ht⟩, q⟩ => ?_
  subst eit
  refine ⟨I2.nolimit, ?_⟩
  have hPs : s2.heap.get? P = some { cls := .none, data := .fields ps } := I2.hok P _ hP
  have hPlt : P < s2.heap.objs.size := Heap.lt_size hPs
  have cd : PySem.W.CodeHd s2.heap c P := TB.code.keeps fun b u e => I2.bk b u e
  have cont : ∀ (code : Value) (h3 : Heap) (tk : Nat) (ps' : Array Value), Heap.ExtBut P s2.heap h3 → s2.heap.objs.size ≤ h3.objs.size → h3.get? P = some { cls := .none, data := .fields ps' } → (∃ more, ps' = ps ++ more) → TriplesOk ps'.toList →
      wpAny (model X.prog X.w) X.A (builtinsFor X.env.globals X.env.builtins) (fun bi s₄ =>
        ∀ h', h'.Ns s₄.heap.objs.size (fun y => if y = ".0" then some (.ref it) else none) → Heap.SameBut s₄.heap.objs.size (s₄.heap.push { cls := .type "frame", data := .dict #[] }) h' →
          wpAny (model X.prog X.w) X.A (spliced (backTo pos (starEach [] X.env))) (fun vs s₅ => wpAny (model X.prog X.w) X.A (call (.builtin "all") (.ref h'.objs.size :: vs)) (EP X pins σ Q) X.xe s₅) X.xe { s₄ with
            gens := s₄.gens.push (.fresh (.compStart (.GeneratorExp elt [⟨tg, iter, [], 0⟩] scope gpos) 0 (.ref it) .none (genEnv scope (cloFrom X.env.cells scope.names []) s₄.heap.objs.size code bi X.env))),
            toks := s₄.toks + 1 + 1 + 1,
            heap := h'.push { cls := .type "generator", data := .fields #[.int s₄.gens.size 0, .str "<genexpr>" (s₄.toks + 1), .str (X.env.qual ++ "<genexpr>") (s₄.toks + 1 + 1)] } }) X.xe { s2 with heap := h3, toks := tk } := by
    intro code h3 tk ps' hx hsz hP3 hmore ht3
    obtain ⟨more, em⟩ := hmore
    obtain ⟨bm, ob, e1, e2, e3, e4, e5, e6, e7, e8⟩ := TB.bm
    have keep3 : ∀ b u, b ≠ P → s2.heap.get? b = some u → h3.get? b = some u := fun b u hb e => hx b u hb e
    refine wpAny_builtinsFor (m := X.mg) (by rw [I2.ok.glob]; exact (I2.mod.glob.keeps I2.bk).extBut hx TB.gP) e1 e2 (keep3 _ _ e4 (I2.bk _ _ e5)) e6 e7 e8 ?_
    intro h' hn' hs'
    have hsz' : h'.objs.size = h3.objs.size + 1 := by rw [hs'.1, Heap.size_push]
    have keep' : ∀ b o, h3.get? b = some o → h'.get? b = some o := fun b o e => hs'.extBut b o (Nat.ne_of_lt (Heap.lt_size e)) (Heap.get?_push_of_some _ e)
    refine Calls.spliced_nil ?_
    -- the state behind the making
    have core : ∀ (go : Obj) (nm qn : Value) (tk5 : Nat) (gs : GenState), go.cls = .type "generator" → go.data = .fields #[.int s2.gens.size 0, nm, qn] → go.slots = #[] → (∀ h : Heap, (h.push go).get? h.objs.size = some go) →
        gs = .fresh (.compStart (.GeneratorExp elt [⟨tg, iter, [], 0⟩] scope gpos) 0 (.ref it) .none (gxEnv X scope h3.objs.size code)) →
        wpAny (model X.prog X.w) X.A (call (.builtin "all") [.ref h'.objs.size]) (EP X pins σ Q) X.xe { s2 with gens := s2.gens.push gs, toks := tk5, heap := h'.push go } := by
      intro go nm qn tk5 gs hgc hgd hgs hgp egs
      have hgen : ∀ h : Heap, h.get? h'.objs.size = some go → h.IsGen h'.objs.size s2.gens.size := fun h e => ⟨go, nm, qn, e, hgc, hgd, hgs⟩
      have hat : (h'.push go).get? h'.objs.size = some go := hgp _
      have bareN : AllBare (s2.gens.push gs) := AllBare.push I2.bare (by rw [egs]; rfl)
      have keep5 : ∀ b u, b ≠ P → s2.heap.get? b = some u → (h'.push go).get? b = some u := fun b u hb e => Heap.get?_push_of_some _ (keep' b u (keep3 b u hb e))
      have hP5 : (h'.push go).get? P = some { cls := .none, data := .fields (ps ++ more) } := by
        rw [← em]
        exact Heap.get?_push_of_some _ (keep' P _ hP3)
      have J5 := inv_tab (more := more) (h' := h'.push go) (g' := s2.gens.push gs) (d' := s2.drawn) (t' := tk5) I2 hP keep5 hP5 bareN
      have hT : Tabbed P H2 (upd H2 P (.tbl (ps ++ more))) := ⟨⟨ps ++ more, upd_same, by rw [← em]; exact ht3⟩, fun b hb => upd_ne hb⟩
      obtain ⟨W, ⟨m0, w0⟩, turn⟩ := q _ hT
      have nP : ∀ b u, H2 b = some u → (∀ q, u ≠ .tbl q) → b ≠ P := fun b u e q z => by
        rw [z, hP] at e
        exact q ps (Option.some.inj e).symm
      have nN : ∀ b, H2 b = none → b ≠ P := fun b e z => by
        rw [z, hP] at e
        cases e
      have un : Un (frs X.stack) [] H2 (upd H2 P (.tbl (ps ++ more))) s2.heap (h'.push go) := by
        refine ⟨fun b o e n _ _ => keep5 b o (nN b n) e, fun b o e n _ _ => ⟨o.slots, keep5 b o (nN b n) e⟩, fun b o _ n _ => by rw [upd_ne (nN b n)]; exact n, fun b o e _ => ?_, fun b xs e => by rw [upd_ne (nP b _ e fun q z => by cases z)]; exact e, fun b o u e => by rw [upd_ne (nP b _ e fun q z => by cases z)]; exact e, fun b qs e => ?_⟩
        · by_cases hb : b = P
          · rw [hb]
            exact ⟨_, hP5⟩
          · exact ⟨o, keep5 b o hb e⟩
        · by_cases hb : b = P
          · rw [hb, hP] at e
            cases e
            rw [hb, upd_same]
            exact ⟨more, rfl⟩
          · rw [upd_ne hb, e]
            exact ⟨#[], by simp⟩
      have ofp : ∀ b ∈ fp, ∃ o, s2.heap.get? b = some o := fun b hb => by
        obtain ⟨o, e, _⟩ := T.obj _ _ st2 b hb
        exact ⟨o, e⟩
      have fpP : ∀ b ∈ fp, b ≠ P := fun b hb => nN b (f2 b hb).1
      have hCa : h'.objs.size ≠ h3.objs.size := by rw [hsz']; exact Nat.succ_ne_self _
      have hSa : s2.heap.objs.size ≤ h'.objs.size := by rw [hsz']; exact Nat.le_succ_of_le hsz
      have Ig : L2.Inv (gxCx X scope N h3.objs.size code s2 H2 fp [(h'.objs.size, go)]) [] (capt js σ) (upd H2 P (.tbl (ps ++ more))) { s2 with gens := s2.gens.push gs, toks := tk5, heap := h'.push go } :=
        inv_gx hh S I2 f2 ofp hsz rfl bareN un (hn'.push _) J5.hok hat hCa hSa (fun v z => by rw [hgd] at z; cases z) fun b hb => by
          rw [upd_ne fun z => absurd (Nat.lt_of_lt_of_le hPlt (by rw [← z]; exact hb)) (Nat.lt_irrefl _)]
          exact I2.hok.fresh hb
      have stat : ∀ H', (∀ b ∈ fp, H' b = none) → ∀ b ∈ fp, FpOk (gxCx X scope N h3.objs.size code s2 H2 fp [(h'.objs.size, go)]) [] H' b := fun H' hn b hb => by
        obtain ⟨h1, h2⟩ := Ig.ok.exf b hb
        refine ⟨hn b hb, h1, Ig.ok.exfs b hb, .inl hb, h2, fun p hp => ?_⟩
        have e : p = (h'.objs.size, go) := by simpa [gxCx] using hp
        rw [e]
        obtain ⟨o, ho⟩ := ofp b hb
        exact Nat.ne_of_gt (Nat.lt_of_lt_of_le (Heap.lt_size ho) hSa)
      have genI : ∀ σ H s, L2.Inv (gxCx X scope N h3.objs.size code s2 H2 fp [(h'.objs.size, go)]) [] σ H s → s.heap.IsGen h'.objs.size s2.gens.size := fun σ H s J => hgen _ (J.pin (h'.objs.size, go) (List.mem_append_left _ (List.mem_singleton.mpr rfl))).1
      -- back in the def
      have back : ∀ {σ' : L2.St} {H' : Hp} {s' : Shared}, L2.Inv (gxCx X scope N h3.objs.size code s2 H2 fp [(h'.objs.size, go)]) [] σ' H' s' → L2.Inv X pins σ H' s' := fun {σ' H' s'} J =>
        I2.call' (ch := fp) J.os J.base J.hok J.bare fun b hb => by
          obtain ⟨_, f1, _, f3, f4, f5⟩ := f2 b hb
          exact ⟨f3, f1, f4, f5⟩
      have hel' := hel h3.objs.size code s2 H2 fp [(h'.objs.size, go)] (gxRoom hr _)
      have hgt' := hgt h3.objs.size code s2 H2 fp [(h'.objs.size, go)]
      have loop := gx_seg (Xg := gxCx X scope N h3.objs.size code s2 H2 fp [(h'.objs.size, go)]) (A := X.A.in1.in1) (scope := scope) (pos := gpos) (iter := iter) T hgt' hel' (fun _ _ h => h) rfl S.co over_comp stat W (fun H' => Q (.bl true) H') (fun H' => Q (.bl false) H') turn
      refine call_function_tree F.kind_all F.plain_all F.entry_all (F.args_all1 _) ?_
      unfold Builtin.«all»
      refine wpAny_bind (m := oneArg "all" _) (wpAny_pure ?_)
      have hgen5 : (h'.push go).IsGen h'.objs.size s2.gens.size := hgen _ hat
      refine wpAny_bind (wpAny_pyIter_gen (s := { s2 with gens := s2.gens.push gs, toks := tk5, heap := h'.push go }) hgen5 ?_)
      refine wpAny_pure ⟨plainId_quiet F.plain_all_loop _, ?_⟩
      refine gx_all (Xg := gxCx X scope N h3.objs.size code s2 H2 fp [(h'.objs.size, go)]) (fp := fp) (Qt := fun H' => Q (.bl true) H') (Qf := fun H' => Q (.bl false) H') (g := s2.gens.size) hh hroom genI (fun σ' H' s1 h' J fr qt hk => ?_) (fun σ' H' s1 gs' hbg J fr qf => ?_) m0 _ hgen5 Ig.nolimit ⟨gs, ?_, ?_⟩
      · exact ⟨.bl true, H', Inv.after (back J) rfl hk (allBare_setGen (s := s1) J.bare rfl), rfl, qt⟩
      · exact ⟨.bl false, H', Inv.after (back J) rfl (fun _ _ e => e) (allBare_setGen (s := s1) J.bare hbg), rfl, qf⟩
      · exact Array.getElem?_push_size ..
      · rw [egs]
        refine ⟨rfl, ?_⟩
        have wk : Woke { s2 with gens := s2.gens.push gs, toks := tk5, heap := h'.push go } (({ s2 with gens := s2.gens.push gs, toks := tk5, heap := h'.push go } : Shared).setGen s2.gens.size .running) :=
          ⟨rfl, rfl, allBare_setGen (s := { s2 with gens := s2.gens.push gs, toks := tk5, heap := h'.push go }) bareN rfl⟩
        have st5 : tn 0 (h'.push go) := T.keep _ _ _ st2 fun b hb o e => keep5 b o (fpP b hb) e
        rw [egs] at wk Ig
        refine gx_start (Xg := gxCx X scope N h3.objs.size code s2 H2 fp [(h'.objs.size, go)]) T st5 (loop m0 0 m0 _ _ _ _ (Nat.le_refl _) (Inv.woke Ig wk) st5 (fun b hb => ?_) w0)
        rw [upd_ne (fpP b hb)]
        exact (f2 b hb).1
    exact core _ _ _ _ _ rfl rfl rfl (fun h => Heap.get?_push_size _ rfl) rfl
  cases hf : codeAmong gpos ps.toList with
  | none =>
    refine wpAny_genexprCodeX hcode (cd.code hPs ht) (cd.tab hPs) hf fun c' h' tk hx hge hlt hco' _ htab' _ => ?_
    obtain ⟨o1, vs, f1, tf, fl, tg, inF, tx, tt, op, _, _, _, _, _, _, _, _, _, htr, _⟩ := hco'
    exact cont _ h' tk _ hx (Nat.le_trans hge (Nat.le_of_lt hlt)) htab'.2 ⟨_, rfl⟩ htr
  | some cv =>
    refine wpAny_genexprCode_hit hcode (cd.code hPs ht) hf ?_
    exact cont cv s2.heap s2.toks ps (Heap.ExtBut.refl _ _) (Nat.le_refl _) hPs ⟨#[], by simp⟩ ht
end Gx


namespace Mint
open PySem PySem.Spec PyProof.Rows L2 GxR Gx

/-! ### what a call keeps -/
def kp (dk : Bool) : HO → Bool
  | .tbl _ => false
  | .dK _ => dk
  | _ => true
structure Ext (dk : Bool) (H H' : Hp) : Prop where
  obj : ∀ b o, kp dk o = true → H b = some o → H' b = some o
  tab : ∀ P, TabG H P → TabG H' P
  non : ∀ b, H' b = none → H b = none
abbrev ExtP := Ext true
abbrev ExtL := Ext false
section
variable {dk : Bool} {H H1 H2 : Hp} {K : PySem.W.Frag}
theorem Ext.refl (dk : Bool) (H : Hp) : Ext dk H H := ⟨fun _ _ _ h => h, fun _ h => h, fun _ h => h⟩
theorem Ext.trans (a : Ext dk H H1) (b : Ext dk H1 H2) : Ext dk H H2 := ⟨fun c o k h => b.obj c o k (a.obj c o k h), fun P h => b.tab P (a.tab P h), fun p h => a.non p (b.non p h)⟩
theorem Ext.weak (a : ExtP H H1) : Ext dk H H1 := ⟨fun c o k h => a.obj c o (by cases o <;> first | rfl | exact k) h, a.tab, a.non⟩
theorem Ext.upd_new {p : Addr} {o : HO} (a : Ext dk H H1) (h : H p = none) : Ext dk H (upd H1 p o) := by
  refine ⟨fun c u k e => ?_, fun P ⟨ps, e, t⟩ => ?_, fun c e => ?_⟩
  · rw [upd_ne (ne_of_none e h)]
    exact a.obj c u k e
  · obtain ⟨ps', e', t'⟩ := a.tab P ⟨ps, e, t⟩
    exact ⟨ps', by rw [upd_ne (ne_of_none e h)]; exact e', t'⟩
  · by_cases z : c = p
    · rw [z, upd_same] at e
      cases e
    · rw [upd_ne z] at e
      exact a.non c e
theorem Ext.new {p : Addr} (h : H p = none) (o : HO) : Ext dk H (upd H p o) := (Ext.refl dk H).upd_new h
/-- a dict is written -/
theorem Ext.upd_dK {d : Addr} {kvs kvs' : List (Key × V)} (a : ExtL H H1) (h : H d = some (.dK kvs)) : ExtL H (upd H1 d (.dK kvs')) := by
  refine ⟨fun c u k e => ?_, fun P ⟨ps, e, t⟩ => ?_, fun c e => ?_⟩
  · have hc : c ≠ d := fun z => by
      rw [z, h] at e
      cases e
      cases k
    rw [upd_ne hc]
    exact a.obj c u k e
  · obtain ⟨ps', e', t'⟩ := a.tab P ⟨ps, e, t⟩
    exact ⟨ps', by rw [upd_ne (ne_of e h fun z => by cases z)]; exact e', t'⟩
  · by_cases z : c = d
    · rw [z, upd_same] at e
      cases e
    · rw [upd_ne z] at e
      exact a.non c e
theorem Ext.of_tabbed {P : Addr} (h : TabG H P) (t : Tabbed P H H1) : Ext dk H H1 := by
  obtain ⟨ps, e, _⟩ := h
  have ne : ∀ b o, kp dk o = true → H b = some o → b ≠ P := fun b o k q z => by
    rw [z, e] at q
    cases q
    cases k
  refine ⟨fun b o k q => (t.2 b (ne b o k q)).trans q, fun Q hq => ?_, fun b q => ?_⟩
  · by_cases z : Q = P
    · rw [z]
      exact t.1
    · obtain ⟨qs, e', t'⟩ := hq
      exact ⟨qs, (t.2 Q z).trans e', t'⟩
  · by_cases z : b = P
    · obtain ⟨ps', e', _⟩ := t.1
      rw [z, e'] at q
      cases q
    · exact (t.2 b z).symm.trans q
theorem Ext.rd {a : Addr} {u : HO} (e : Ext dk H H1) (k : kp dk u = true) (h : Rd H a u) : Rd H1 a u := by
  rcases h with h | ⟨o, h⟩
  · exact .inl (e.obj _ _ k h)
  · exact .inr ⟨o, e.obj _ _ rfl h⟩
theorem Ext.sqL {a : Addr} {xs : List V} (e : Ext dk H H1) (h : SqL K H a xs) : SqL K H1 a xs := by
  rcases h with h | h
  · exact .inl (e.rd rfl h)
  · exact .inr h
theorem Ext.sqT {a : Addr} {xs : List V} (e : Ext dk H H1) (h : SqT K H a xs) : SqT K H1 a xs := by
  rcases h with h | h
  · exact .inl (e.rd rfl h)
  · exact .inr h
mutual
theorem Ext.dp (e : Ext dk H H1) : ∀ {d : PyData} {v : V}, Dp K H v d → Dp K H1 v d
  | _, _, .non => .non
  | _, _, .bl b => .bl b
  | _, _, .int i => .int i
  | _, _, .str x => .str x
  | _, _, .lst h t => .lst (e.sqL h) (Ext.dps e t)
  | _, _, .tup h t => .tup (e.sqT h) (Ext.dps e t)
theorem Ext.dps (e : Ext dk H H1) : ∀ {ds : List PyData} {vs : List V}, DpAll K H vs ds → DpAll K H1 vs ds
  | _, _, .nil => .nil
  | _, _, .cons h t => .cons (Ext.dp e h) (Ext.dps e t)
end
end
theorem dpAll_len {K : PySem.W.Frag} {H : Hp} : ∀ {vs : List V} {ds : List PyData}, DpAll K H vs ds → vs.length = ds.length
  | _, _, .nil => rfl
  | _, _, .cons _ t => congrArg (· + 1) (dpAll_len t)
theorem dpAll_get {K : PySem.W.Frag} {H : Hp} : ∀ {vs : List V} {ds : List PyData} {i : Nat} {v : V}, DpAll K H vs ds → vs[i]? = some v → ∃ d, ds[i]? = some d ∧ Dp K H v d
  | _, _, _, _, .nil, e => by simp at e
  | _, _, 0, _, .cons h _, e => by simp at e; subst e; exact ⟨_, rfl, h⟩
  | _, _, i + 1, v, .cons _ t, e => by
    obtain ⟨d, h1, h2⟩ := dpAll_get (i := i) (v := v) t (by simpa using e)
    exact ⟨d, by simpa using h1, h2⟩
theorem dpAll_at {K : PySem.W.Frag} {H : Hp} : ∀ {vs : List V} {ds : List PyData} {i : Nat} {d : PyData}, DpAll K H vs ds → ds[i]? = some d → ∃ v, vs[i]? = some v ∧ Dp K H v d
  | _, _, _, _, .nil, e => by simp at e
  | _, _, 0, _, .cons h _, e => by simp at e; subst e; exact ⟨_, rfl, h⟩
  | _, _, i + 1, d, .cons _ t, e => by
    obtain ⟨v, h1, h2⟩ := dpAll_at (i := i) (d := d) t (by simpa using e)
    exact ⟨v, by simpa using h1, h2⟩

/-! ### types -/
def tyName : PyData → String
  | .none => "NoneType" | .bool _ => "bool" | .int _ => "int" | .str _ => "str" | .list _ => "list" | .tuple _ => "tuple" | .dict _ => "dict"
theorem Dp.ty {K : PySem.W.Frag} {H : Hp} {v : V} {d : PyData} (h : Dp K H v d) : TyX K H v (.type (tyName d)) := by
  cases h with
  | non => exact .base .non
  | bl b => exact .base (.bl b)
  | int i => exact .base (.int i)
  | str x => exact .base (.str x)
  | lst h _ =>
    rcases h with (h | ⟨o, h⟩) | ⟨o, its, n, h, c, _⟩
    · exact .base (.lst h)
    · exact .base (.frz h)
    · exact .kList h c
  | tup h _ =>
    rcases h with (h | ⟨o, h⟩) | ⟨o, its, n, h, c, _⟩
    · exact .base (.tup h)
    · exact .fTuple h
    · exact .kTuple h c
def gInt : PyData → Bool
  | .int _ => true | .bool _ => true | _ => false
def gBool : PyData → Bool
  | .bool _ => true | _ => false
def gStr : PyData → Bool
  | .str _ => true | _ => false
def gTup : PyData → Bool
  | .tuple _ => true | _ => false
theorem isa_int (K : PySem.W.Frag) (d : PyData) (h : ∀ kvs, d ≠ .dict kvs) : PySem.W.kitOne K (.type (tyName d)) (.type "int") = some (gInt d) := by
  cases d with
  | none => exact kit_ty (show kitB "NoneType" "int" = some false by decide +kernel)
  | bool b => exact kit_ty (show kitB "bool" "int" = some true by decide +kernel)
  | int i => exact kit_ty (show kitB "int" "int" = some true by decide +kernel)
  | str x => exact kit_ty (show kitB "str" "int" = some false by decide +kernel)
  | list x => exact kit_ty (show kitB "list" "int" = some false by decide +kernel)
  | tuple x => exact kit_ty (show kitB "tuple" "int" = some false by decide +kernel)
  | dict x => exact absurd rfl (h x)
theorem isa_bool (K : PySem.W.Frag) (d : PyData) (h : ∀ kvs, d ≠ .dict kvs) : PySem.W.kitOne K (.type (tyName d)) (.type "bool") = some (gBool d) := by
  cases d with
  | none => exact kit_ty (show kitB "NoneType" "bool" = some false by decide +kernel)
  | bool b => exact kit_ty (show kitB "bool" "bool" = some true by decide +kernel)
  | int i => exact kit_ty (show kitB "int" "bool" = some false by decide +kernel)
  | str x => exact kit_ty (show kitB "str" "bool" = some false by decide +kernel)
  | list x => exact kit_ty (show kitB "list" "bool" = some false by decide +kernel)
  | tuple x => exact kit_ty (show kitB "tuple" "bool" = some false by decide +kernel)
  | dict x => exact absurd rfl (h x)
theorem isa_str (K : PySem.W.Frag) (d : PyData) (h : ∀ kvs, d ≠ .dict kvs) : PySem.W.kitOne K (.type (tyName d)) (.type "str") = some (gStr d) := by
  cases d with
  | none => exact kit_ty (show kitB "NoneType" "str" = some false by decide +kernel)
  | bool b => exact kit_ty (show kitB "bool" "str" = some false by decide +kernel)
  | int i => exact kit_ty (show kitB "int" "str" = some false by decide +kernel)
  | str x => exact kit_ty (show kitB "str" "str" = some true by decide +kernel)
  | list x => exact kit_ty (show kitB "list" "str" = some false by decide +kernel)
  | tuple x => exact kit_ty (show kitB "tuple" "str" = some false by decide +kernel)
  | dict x => exact absurd rfl (h x)
theorem isa_tuple (K : PySem.W.Frag) (d : PyData) (h : ∀ kvs, d ≠ .dict kvs) : PySem.W.kitOne K (.type (tyName d)) (.type "tuple") = some (gTup d) := by
  cases d with
  | none => exact kit_ty (show kitB "NoneType" "tuple" = some false by decide +kernel)
  | bool b => exact kit_ty (show kitB "bool" "tuple" = some false by decide +kernel)
  | int i => exact kit_ty (show kitB "int" "tuple" = some false by decide +kernel)
  | str x => exact kit_ty (show kitB "str" "tuple" = some false by decide +kernel)
  | list x => exact kit_ty (show kitB "list" "tuple" = some false by decide +kernel)
  | tuple x => exact kit_ty (show kitB "tuple" "tuple" = some true by decide +kernel)
  | dict x => exact absurd rfl (h x)
theorem Dp.nodict {K : PySem.W.Frag} {H : Hp} {v : V} {d : PyData} (h : Dp K H v d) : ∀ kvs, d ≠ .dict kvs := fun kvs z => by
  subst z
  cases h

/-! ### a def whose code object is known -/
structure FunC (K : PySem.W.Frag) (x qual : Str) (st : Stmt) (f : Addr) (fd : FuncData) (c : Addr) : Prop where
  ex : ∃ (oc : Value) (od : Option Addr) (kV doc pm : Value) (an : Option Addr) (ct : Value) (osl : Array (Option Value)),
    fd = PySem.W.fnOf x qual (defArgs st) (defBody st) (defScope st) .none kV doc pm an (.ref c) ct ∧ K.lookup f = some ⟨oc, od, .func fd, osl⟩ ∧ PySem.W.codeIn K (.ref c) qual = true
  kp : PySem.W.keepIn K (.ref f) = true
section
variable {P : Program} {w : World} {K : PySem.W.Frag} {mg : Str → Option Value} {base : Heap}
theorem FunC.fun {x qual : Str} {st : Stmt} {f c : Addr} {fd : FuncData} (F : FunC K x qual st f fd c) : Fun K x qual st f fd := by
  obtain ⟨oc, od, kV, doc, pm, an, ct, osl, h⟩ := F.ex
  exact ⟨⟨oc, od, kV, doc, pm, an, _, ct, osl, h⟩, F.kp⟩
theorem FunC.ok {x qual : Str} {st : Stmt} {f c : Addr} {fd : FuncData} {N ps : List Str} {k : Nat} {sp : Sp} (F : FunC K x qual st f fd c) (S : FnScope N ps (defScope st)) (len : ∀ vs H Q E, sp vs H Q E → vs.length = ps.length)
    (hbody : ∀ (A : Around) (outer : List Env) (s : Shared) (H : Hp) (vs : List V) (Q : VK) (E : XK), Room k (A.deeper (envOfC qual (defScope st) s.heap.objs.size f (.ref c))) → sp vs H Q E →
      ∃ t, PSs (cxOf CX0 P w K mg base N qual (defScope st) f (.ref c) A outer s H E).nox (defBody st) t ∧ t { nx := fun _ H' => Q .non H', rt := Q } (start N vs) H) : FnOk P w K mg base CX0 (k + 1) f fd ps sp := by
  obtain ⟨oc, od, kV, doc, pm, an, ct, osl, rfl, lk, hcd⟩ := F.ex
  refine fn_of lk hcd S len fun A outer s H vs Q E hr hsp => ?_
  obtain ⟨t, h, q⟩ := hbody A outer s H vs Q E hr hsp
  exact ⟨t, h.nox, q⟩
theorem funC_mk {x qual : Str} {st : Stmt} {f c : Addr} {oc : Value} {od an : Option Addr} {osl : Array (Option Value)} {kV doc pm ct : Value} (l : K.lookup f = some ⟨oc, od, .func (PySem.W.fnOf x qual (defArgs st) (defBody st) (defScope st) .none kV doc pm an (.ref c) ct), osl⟩)
    (h : PySem.W.codeIn K (.ref c) qual = true) (k : PySem.W.keepIn K (.ref f) = true) : FunC K x qual st f (PySem.W.fnOf x qual (defArgs st) (defBody st) (defScope st) .none kV doc pm an (.ref c) ct) c := ⟨⟨oc, od, kV, doc, pm, an, ct, osl, rfl, l, h⟩, k⟩
end

/-! ### promises -/
abbrev Tabs (Ps : List Addr) (H : Hp) : Prop := ∀ P ∈ Ps, TabG H P
/-- a def that looks at data and answers with True or False, and changes nothing but tables -/
def spB (K : PySem.W.Frag) (Ps : List Addr) (n : Nat) (ok : List PyData → Prop) (f : List PyData → Bool) : Sp := fun vs H Q _ =>
  ∃ ds : List PyData, DpAll K H vs ds ∧ ds.length = n ∧ ok ds ∧ Tabs Ps H ∧ ∀ H', ExtP H H' → Q (.bl (f ds)) H'
theorem spB_len {K : PySem.W.Frag} {Ps : List Addr} {n : Nat} {ok : List PyData → Prop} {f : List PyData → Bool} {vs : List V} {H : Hp} {Q : VK} {E : XK} (h : spB K Ps n ok f vs H Q E) : vs.length = n := by
  obtain ⟨ds, h1, h2, _⟩ := h
  rw [dpAll_len h1, h2]
theorem Ext.tabs {dk : Bool} {H H1 : Hp} {Ps : List Addr} (e : Ext dk H H1) (h : Tabs Ps H) : Tabs Ps H1 := fun P hp => e.tab P (h P hp)
/-- the built-in names stand as they are -/
structure Glb (mg : Str → Option Value) : Prop where
  isinstance : mg "isinstance" = none
  int : mg "int" = none
  bool : mg "bool" = none
  str : mg "str" = none
  tuple : mg "tuple" = none
  len : mg "len" = none
  all : mg "all" = none
  max : mg "max" = none
  min : mg "min" = none
  list : mg "list" = none
  zip : mg "zip" = none
  set : mg "set" = none
  enumerate : mg "enumerate" = none
  abs : mg "abs" = none
  range : mg "range" = none

theorem tVar_mono (i : Nat) : ∀ σ H (Q Q' : VK), (∀ v H1, Q v H1 → Q' v H1) → tVar i σ H Q → tVar i σ H Q' := fun σ H Q Q' m ⟨v, e, q⟩ => ⟨v, e, m _ _ q⟩
/-! isinstance(x, T): the answer is known by the data -/
section
variable {X : Cx} {e : Expr} {te : TE} {p p2 pos : Pos}
def tIsa (K : PySem.W.Frag) (g : PyData → Bool) (te : TE) : TE := fun σ H Q => te σ H fun v H1 => ∃ d, Dp K H1 v d ∧ Q (.bl (g d)) H1
theorem pe_isa {T : Str} {n : String} {g : PyData → Bool} (hg : Gl X "isinstance") (hm : X.mg "isinstance" = none) (hg2 : Gl X T) (hm2 : X.mg T = none) (hv : bootBuiltins T = some (.type n))
    (k : ∀ d : PyData, (∀ kvs, d ≠ .dict kvs) → PySem.W.kitOne X.K (.type (tyName d)) (.type n) = some (g d)) (he : PE X e te) (hmono : ∀ σ H Q Q', (∀ v H1, Q v H1 → Q' v H1) → te σ H Q → te σ H Q') (hn : T ≠ "__name__" := by decide) (hd : (T == ("__debug__" : Str)) = false := by decide)
    (h1 : starEach [e, .Name T p2] X.env = (false, eval e X.env) :: starEach [.Name T p2] X.env := by rfl) :
    PE X (.Call (.Name "isinstance" p) [e, .Name T p2] [] pos) (tIsa X.K g te) := by
  have hc := pe_callB (X := X) (call_isi (X := X)) (p := p) (pos := pos) hg hm (by decide +kernel) (pa_cons he (pa_cons (pe_bltn (v := .ty n) (pos := p2) hg2 hm2 hv rfl hn hd) pa_nil) h1) (he := h1)
  refine ⟨fun pins s σ H Q I h => hc.run pins s σ H Q I ?_⟩
  refine hmono σ H _ _ (fun v H1 ⟨d, hd, q⟩ => ?_) h
  exact ⟨v, .ty n, _, _, _, rfl, .ty n, Dp.ty hd, k d (Dp.nodict hd), q⟩
end
section
variable {X : Cx} {p p2 p3 pos : Pos} {x : Str}
theorem pe_isaInt (G : Glb X.mg) (i : Nat) (hg : Gl X "isinstance" := by rfl) (hg2 : Gl X "int" := by rfl) (he : PE X (.Name x p3) (tVar i) := by exact pv _) (h1 : starEach [.Name x p3, .Name "int" p2] X.env = (false, eval (.Name x p3) X.env) :: starEach [.Name "int" p2] X.env := by rfl) :
    PE X (.Call (.Name "isinstance" p) [.Name x p3, .Name "int" p2] [] pos) (tIsa X.K gInt (tVar i)) := pe_isa hg G.isinstance hg2 G.int boot_int (isa_int X.K) he (tVar_mono i) (by decide) (by decide) h1
theorem pe_isaBool (G : Glb X.mg) (i : Nat) (hg : Gl X "isinstance" := by rfl) (hg2 : Gl X "bool" := by rfl) (he : PE X (.Name x p3) (tVar i) := by exact pv _) (h1 : starEach [.Name x p3, .Name "bool" p2] X.env = (false, eval (.Name x p3) X.env) :: starEach [.Name "bool" p2] X.env := by rfl) :
    PE X (.Call (.Name "isinstance" p) [.Name x p3, .Name "bool" p2] [] pos) (tIsa X.K gBool (tVar i)) := pe_isa hg G.isinstance hg2 G.bool (by decide +kernel) (isa_bool X.K) he (tVar_mono i) (by decide) (by decide) h1
theorem pe_isaStr (G : Glb X.mg) (i : Nat) (hg : Gl X "isinstance" := by rfl) (hg2 : Gl X "str" := by rfl) (he : PE X (.Name x p3) (tVar i) := by exact pv _) (h1 : starEach [.Name x p3, .Name "str" p2] X.env = (false, eval (.Name x p3) X.env) :: starEach [.Name "str" p2] X.env := by rfl) :
    PE X (.Call (.Name "isinstance" p) [.Name x p3, .Name "str" p2] [] pos) (tIsa X.K gStr (tVar i)) := pe_isa hg G.isinstance hg2 G.str (by decide +kernel) (isa_str X.K) he (tVar_mono i) (by decide) (by decide) h1
theorem pe_isaTup (G : Glb X.mg) (i : Nat) (hg : Gl X "isinstance" := by rfl) (hg2 : Gl X "tuple" := by rfl) (he : PE X (.Name x p3) (tVar i) := by exact pv _) (h1 : starEach [.Name x p3, .Name "tuple" p2] X.env = (false, eval (.Name x p3) X.env) :: starEach [.Name "tuple" p2] X.env := by rfl) :
    PE X (.Call (.Name "isinstance" p) [.Name x p3, .Name "tuple" p2] [] pos) (tIsa X.K gTup (tVar i)) := pe_isa hg G.isinstance hg2 G.tuple (by decide +kernel) (isa_tuple X.K) he (tVar_mono i) (by decide) (by decide) h1
end
end Mint


namespace Mint
open PySem PySem.Spec PyProof.Rows L2 GxR Gx

/-! ### all(elt for x in iter), the element a look: x in the first slot, the captured names behind it -/
theorem range_all_false {p : Nat → Bool} {n i : Nat} (hi : i < n) (h : p i = false) : (List.range n).all p = false := by
  rw [Bool.eq_false_iff]
  intro z
  have := List.all_eq_true.mp z i (List.mem_range.mpr hi)
  rw [h] at this
  cases this
theorem all_pure {P : Addr} {js : List (Option Nat)} {te : TE} {σ : L2.St} {H1 : Hp} {Q : VK} {J : It} (n : Nat) (p : Nat → Bool) (rest : L2.St) (hσ : capt js σ = none :: rest) (hT : TabG H1 P)
    (hgo : ∀ i H', i < n → ExtP H1 H' → J.go i H') (hstop : ∀ H', ExtP H1 H' → J.stop n H')
    (hel : ∀ i H', i < n → ExtP H1 H' → ∀ x H'', J.yld i H' x H'' → H'' = H' ∧ ∀ Qe : VK, (∀ H3, ExtP H' H3 → Qe (.bl (p i)) H3) → te (some x :: rest) H' Qe)
    (hQ : ∀ H', ExtP H1 H' → Q (.bl ((List.range n).all p)) H') :
    TabG H1 P ∧ ∀ H2, Tabbed P H1 H2 → ∃ W : Nat → Nat → L2.St → Hp → Prop, (∃ m, W 0 m (capt js σ) H2) ∧ ∀ i m σ' H', W i m σ' H' →
      (J.stop i H' ∧ Q (.bl true) H') ∨ (J.go i H' ∧ 0 < m ∧ ∀ x H'', J.yld i H' x H'' → gName 0 x σ' H'' fun σ2 H3 => te σ2 H3 fun v H4 => ∃ c, v = .bl c ∧ if c = true then ∃ m', m' < m ∧ W (i + 1) m' σ2 H4 else Q (.bl false) H4) := by
  refine ⟨hT, fun H2 ht => ⟨fun i m σ' H' => m = n - i ∧ i ≤ n ∧ ExtP H1 H' ∧ (∃ o, σ' = o :: rest) ∧ ∀ j, j < i → p j = true, ⟨n, rfl, Nat.zero_le _, .of_tabbed hT ht, ⟨none, hσ⟩, fun j hj => by omega⟩, ?_⟩⟩
  rintro i m σ' H' ⟨rfl, hi, e, ⟨o, rfl⟩, hp⟩
  by_cases hlt : i < n
  · refine .inr ⟨hgo i H' hlt e, by omega, fun x H'' hy => ?_⟩
    obtain ⟨rfl, q⟩ := hel i H' hlt e x H'' hy
    show te ((o :: rest).set 0 (some x)) H'' _
    refine q _ fun H3 e3 => ⟨p i, rfl, ?_⟩
    cases hpi : p i with
    | true => exact iteT ⟨n - (i + 1), by omega, rfl, hlt, e.trans e3, ⟨some x, rfl⟩, fun j hj => by
        by_cases z : j = i
        · rw [z]; exact hpi
        · exact hp j (by omega)⟩
    | false =>
      refine iteF ?_
      rw [← range_all_false hlt hpi]
      exact hQ _ (e.trans e3)
  · have e2 : i = n := by omega
    subst e2
    refine .inl ⟨hstop H' e, ?_⟩
    have z : (List.range i).all p = true := List.all_eq_true.mpr fun j hj => hp j (List.mem_range.mp hj)
    rw [← z]
    exact hQ _ e
theorem all_range_map {α : Type} (f : α → Bool) (l : List α) (p : Nat → Bool) (h : ∀ i x, l[i]? = some x → p i = f x) : (List.range l.length).all p = l.all f := by
  rw [Bool.eq_iff_iff, List.all_eq_true, List.all_eq_true]
  constructor
  · intro q x hx
    obtain ⟨i, hi, e⟩ := List.getElem_of_mem hx
    rw [← h i x (by rw [List.getElem?_eq_getElem hi, e])]
    exact q i (List.mem_range.mpr hi)
  · intro q i hi
    have hi' := List.mem_range.mp hi
    rw [h i l[i] (List.getElem?_eq_getElem hi')]
    exact q _ (List.getElem_mem hi')
/-- over the signs of a text -/
theorem all_str {P : Addr} {js : List (Option Nat)} {te : TE} {σ : L2.St} {H1 : Hp} {Q : VK} (x : Str) (f : Nat → Bool) (rest : L2.St) (hσ : capt js σ = none :: rest) (hT : TabG H1 P)
    (hel : ∀ c H', ExtP H1 H' → ∀ Qe : VK, (∀ H3, ExtP H' H3 → Qe (.bl (f c)) H3) → te (some (.str ⟨#[c]⟩) :: rest) H' Qe)
    (hQ : ∀ H', ExtP H1 H' → Q (.bl (x.cps.toList.all f)) H') :
    TabG H1 P ∧ ∀ H2, Tabbed P H1 H2 → ∃ W : Nat → Nat → L2.St → Hp → Prop, (∃ m, W 0 m (capt js σ) H2) ∧ ∀ i m σ' H', W i m σ' H' →
      ((Its x).stop i H' ∧ Q (.bl true) H') ∨ ((Its x).go i H' ∧ 0 < m ∧ ∀ v H'', (Its x).yld i H' v H'' → gName 0 v σ' H'' fun σ2 H3 => te σ2 H3 fun v H4 => ∃ c, v = .bl c ∧ if c = true then ∃ m', m' < m ∧ W (i + 1) m' σ2 H4 else Q (.bl false) H4) := by
  refine all_pure x.cps.toList.length (fun i => match x.cps.toList[i]? with | some c => f c | none => false) rest hσ hT (fun i H' hi e => ?_) (fun H' e => ?_) (fun i H' hi e v H'' hy => ?_) (fun H' e => ?_)
  · show i < x.cps.size
    simpa using hi
  · show x.cps.size ≤ x.cps.toList.length
    simp
  · obtain ⟨rfl, c, hc, rfl⟩ := hy
    refine ⟨rfl, fun Qe hq => hel c _ e Qe ?_⟩
    have e2 : x.cps.toList[i]? = some c := by rw [Array.getElem?_toList]; exact hc
    simp only [e2] at hq
    exact hq
  · have e3 := all_range_map f x.cps.toList (fun i => match x.cps.toList[i]? with | some c => f c | none => false) (fun i c h => by simp only [h])
    rw [e3]
    exact hQ H' e
/-- over a tuple of data -/
theorem all_tup {K : PySem.W.Frag} {P a : Addr} {js : List (Option Nat)} {te : TE} {σ : L2.St} {H1 : Hp} {Q : VK} {xs : List V} {ds : List PyData} (f : PyData → Bool) (rest : L2.St) (hσ : capt js σ = none :: rest) (hT : TabG H1 P) (hS : SqT K H1 a xs) (hD : DpAll K H1 xs ds)
    (hel : ∀ v d H', d ∈ ds → ExtP H1 H' → Dp K H' v d → ∀ Qe : VK, (∀ H3, ExtP H' H3 → Qe (.bl (f d)) H3) → te (some v :: rest) H' Qe)
    (hQ : ∀ H', ExtP H1 H' → Q (.bl (ds.all f)) H') :
    TabG H1 P ∧ ∀ H2, Tabbed P H1 H2 → ∃ W : Nat → Nat → L2.St → Hp → Prop, (∃ m, W 0 m (capt js σ) H2) ∧ ∀ i m σ' H', W i m σ' H' →
      ((Itt K a).stop i H' ∧ Q (.bl true) H') ∨ ((Itt K a).go i H' ∧ 0 < m ∧ ∀ v H'', (Itt K a).yld i H' v H'' → gName 0 v σ' H'' fun σ2 H3 => te σ2 H3 fun v H4 => ∃ c, v = .bl c ∧ if c = true then ∃ m', m' < m ∧ W (i + 1) m' σ2 H4 else Q (.bl false) H4) := by
  have hl := dpAll_len hD
  refine all_pure ds.length (fun i => match ds[i]? with | some d => f d | none => false) rest hσ hT (fun i H' hi e => ?_) (fun H' e => ?_) (fun i H' hi e v H'' hy => ?_) (fun H' e => ?_)
  · exact ⟨xs, xs[i]'(by omega), e.sqT hS, List.getElem?_eq_getElem (by omega)⟩
  · exact ⟨xs, e.sqT hS, by omega⟩
  · obtain ⟨rfl, hy⟩ := hy
    have hx := hy xs (e.sqT hS)
    obtain ⟨d, hd, hdp⟩ := dpAll_get hD hx
    refine ⟨rfl, fun Qe hq => hel v d _ (List.mem_of_getElem? hd) e (e.dp hdp) Qe ?_⟩
    simp only [hd] at hq
    exact hq
  · have e3 := all_range_map f ds (fun i => match ds[i]? with | some d => f d | none => false) (fun i d h => by simp only [h])
    rw [e3]
    exact hQ H' e
theorem all_pure2 {P : Addr} {js : List (Option Nat)} {te : TE} {σ : L2.St} {H1 : Hp} {Qt Qf : Hp → Prop} {J : It} (n : Nat) (p : Nat → Bool) (rest : L2.St) (hσ : capt js σ = none :: rest) (hT : TabG H1 P)
    (hgo : ∀ i H', i < n → ExtP H1 H' → J.go i H') (hstop : ∀ H', ExtP H1 H' → J.stop n H')
    (hel : ∀ i H', i < n → ExtP H1 H' → ∀ x H'', J.yld i H' x H'' → H'' = H' ∧ ∀ Qe : VK, (∀ H3, ExtP H' H3 → Qe (.bl (p i)) H3) → te (some x :: rest) H' Qe)
    (hQt : ∀ H', ExtP H1 H' → (List.range n).all p = true → Qt H') (hQf : ∀ H', ExtP H1 H' → (List.range n).all p = false → Qf H') :
    TabG H1 P ∧ ∀ H2, Tabbed P H1 H2 → ∃ W : Nat → Nat → L2.St → Hp → Prop, (∃ m, W 0 m (capt js σ) H2) ∧ ∀ i m σ' H', W i m σ' H' →
      (J.stop i H' ∧ Qt H') ∨ (J.go i H' ∧ 0 < m ∧ ∀ x H'', J.yld i H' x H'' → gName 0 x σ' H'' fun σ2 H3 => te σ2 H3 fun v H4 => ∃ c, v = .bl c ∧ if c = true then ∃ m', m' < m ∧ W (i + 1) m' σ2 H4 else Qf H4) := by
  refine ⟨hT, fun H2 ht => ⟨fun i m σ' H' => m = n - i ∧ i ≤ n ∧ ExtP H1 H' ∧ (∃ o, σ' = o :: rest) ∧ ∀ j, j < i → p j = true, ⟨n, rfl, Nat.zero_le _, .of_tabbed hT ht, ⟨none, hσ⟩, fun j hj => by omega⟩, ?_⟩⟩
  rintro i m σ' H' ⟨rfl, hi, e, ⟨o, rfl⟩, hp⟩
  by_cases hlt : i < n
  · refine .inr ⟨hgo i H' hlt e, by omega, fun x H'' hy => ?_⟩
    obtain ⟨rfl, q⟩ := hel i H' hlt e x H'' hy
    show te ((o :: rest).set 0 (some x)) H'' _
    refine q _ fun H3 e3 => ⟨p i, rfl, ?_⟩
    cases hpi : p i with
    | true => exact iteT ⟨n - (i + 1), by omega, rfl, hlt, e.trans e3, ⟨some x, rfl⟩, fun j hj => by
        by_cases z : j = i
        · rw [z]; exact hpi
        · exact hp j (by omega)⟩
    | false => exact iteF (hQf _ (e.trans e3) (range_all_false hlt hpi))
  · have e2 : i = n := by omega
    subst e2
    exact .inl ⟨hstop H' e, hQt _ e (List.all_eq_true.mpr fun j hj => hp j (List.mem_range.mp hj))⟩
/-- over a tuple of data, the two ways apart -/
theorem all_tup2 {K : PySem.W.Frag} {P a : Addr} {js : List (Option Nat)} {te : TE} {σ : L2.St} {H1 : Hp} {Qt Qf : Hp → Prop} {xs : List V} {ds : List PyData} (f : PyData → Bool) (rest : L2.St) (hσ : capt js σ = none :: rest) (hT : TabG H1 P) (hS : SqT K H1 a xs) (hD : DpAll K H1 xs ds)
    (hel : ∀ v d H', d ∈ ds → ExtP H1 H' → Dp K H' v d → ∀ Qe : VK, (∀ H3, ExtP H' H3 → Qe (.bl (f d)) H3) → te (some v :: rest) H' Qe)
    (hQt : ∀ H', ExtP H1 H' → ds.all f = true → Qt H') (hQf : ∀ H', ExtP H1 H' → ds.all f = false → Qf H') :
    TabG H1 P ∧ ∀ H2, Tabbed P H1 H2 → ∃ W : Nat → Nat → L2.St → Hp → Prop, (∃ m, W 0 m (capt js σ) H2) ∧ ∀ i m σ' H', W i m σ' H' →
      ((Itt K a).stop i H' ∧ Qt H') ∨ ((Itt K a).go i H' ∧ 0 < m ∧ ∀ v H'', (Itt K a).yld i H' v H'' → gName 0 v σ' H'' fun σ2 H3 => te σ2 H3 fun v H4 => ∃ c, v = .bl c ∧ if c = true then ∃ m', m' < m ∧ W (i + 1) m' σ2 H4 else Qf H4) := by
  have hl := dpAll_len hD
  have e3 := all_range_map f ds (fun i => match ds[i]? with | some d => f d | none => false) (fun i d h => by simp only [h])
  refine all_pure2 ds.length (fun i => match ds[i]? with | some d => f d | none => false) rest hσ hT (fun i H' hi e => ?_) (fun H' e => ?_) (fun i H' hi e v H'' hy => ?_) (fun H' e h => hQt H' e (by rw [← e3]; exact h)) (fun H' e h => hQf H' e (by rw [← e3]; exact h))
  · exact ⟨xs, xs[i]'(by omega), e.sqT hS, List.getElem?_eq_getElem (by omega)⟩
  · exact ⟨xs, e.sqT hS, by omega⟩
  · obtain ⟨rfl, hy⟩ := hy
    have hx := hy xs (e.sqT hS)
    obtain ⟨d, hd, hdp⟩ := dpAll_get hD hx
    refine ⟨rfl, fun Qe hq => hel v d _ (List.mem_of_getElem? hd) e (e.dp hdp) Qe ?_⟩
    simp only [hd] at hq
    exact hq
section
variable {X : Cx} {x : Str} {pos : Pos}
theorem pe_gI {i : Int} {t : Tok} (hm : X.mg x = some (.int i t)) (hg : Gl X x := by rfl) (hd : (x == ("__debug__" : Str)) = false := by decide) : PE X (.Name x pos) (tC (.int i)) := pe_glob hg hm ⟨t, rfl⟩ hd
theorem pe_gS {z : Str} {t : Tok} (hm : X.mg x = some (.str z t)) (hg : Gl X x := by rfl) (hd : (x == ("__debug__" : Str)) = false := by decide) : PE X (.Name x pos) (tC (.str z)) := pe_glob hg hm ⟨t, rfl⟩ hd
theorem pe_gR {a : Addr} (hm : X.mg x = some (.ref a)) (hg : Gl X x := by rfl) (hd : (x == ("__debug__" : Str)) = false := by decide) : PE X (.Name x pos) (tC (.ref a)) := pe_glob hg hm rfl hd
end
end Mint


namespace Mint
open PySem PySem.Spec PyProof.Rows L2 GxR Gx

/-! ### max of a tuple of ints -/
section
variable {prog : Program} {w : World} {A : Around} {E : Value → Shared → Prop} {s : Shared} {l : Addr} {xs : Array (Int × Tok)}
theorem iter_intTuple {Q : Value → Shared → Prop} {items : Array Value} (hl : s.heap.IsTuple l items)
    (h : ∀ s₂ : Shared, s₂ = { s with heap := s.heap.push { cls := .type "tuple_iterator", data := .fields #[.ref l, .int 0 0] } } → (s₂.heap.IsTupleIter s.heap.objs.size l 0 ∧ s₂.heap.IsTuple l items) →
      (∀ b ∈ [s.heap.objs.size, l], b < s₂.heap.objs.size) → l ≠ s.heap.objs.size → Q (.ref s.heap.objs.size) s₂) : wpAny (model prog w) A (pyIter (.ref l)) Q E s := by
  obtain ⟨ol, hol, r⟩ := id hl
  have hlt := Heap.lt_size hol
  refine wpAny_pyIter_tuple hl (h _ rfl ⟨⟨_, Heap.get?_push_size _ rfl, rfl, rfl⟩, hl.push _⟩ (fun b hb => ?_) (Nat.ne_of_lt hlt))
  show b < (s.heap.push _).objs.size
  rw [Heap.size_push]
  rcases List.mem_cons.mp hb with e | hb
  · rw [e]; exact Nat.lt_succ_self _
  · rcases List.mem_cons.mp hb with e | hb
    · rw [e]; exact Nat.lt_succ_of_lt hlt
    · cases hb
theorem max_intTuple {Q : Value → Shared → Prop} (hh : A.handled = none) (hl : s.heap.IsTuple l (intItems xs)) (hne : 0 < xs.size)
    (h : ∀ v h' tk, (intItems xs)[argBest (fun i j => decide (numAt xs i > numAt xs j)) (xs.size - 1)]? = some v → (∀ b o, s.heap.get? b = some o → h'.get? b = some o) → Q v { s with heap := h', toks := tk }) :
    wpAny (model prog w) A (call (.builtin "max") [.ref l]) Q E s := by
  refine call_max_walk (iter_intTuple hl fun s₂ e st hfp hlI => ?_)
  subst e
  refine ⟨_, _, _, _, _, _, _, rfl, Walks.tuple (A := A.in1) hh _ l hlI (intItems xs), st, hfp, by simpa [intItems] using hne, CmpOf.ints_gt (numAt xs) (fun _ _ => intItems_at), fun v h' tk hP hk => ?_⟩
  refine h v h' tk (by simpa [intItems] using hP) fun b o e => ?_
  refine hk b o (fun hm => ?_) (Heap.get?_push_of_some _ e)
  rcases List.mem_cons.mp hm with e1 | hm
  · exact absurd (e1 ▸ Heap.lt_size e) (Nat.lt_irrefl _)
  · cases hm
theorem max_rawT {its : List Value} {ns : List Int} {Q : Value → Shared → Prop} (hh : A.handled = none) (hl : s.heap.IsTuple l its.toArray) (hi : IntsAre its ns) (hne : 0 < ns.length)
    (h : ∀ h' tk M t', (∀ b o, s.heap.get? b = some o → h'.get? b = some o) → M ∈ ns → (∀ a, a ∈ ns → a ≤ M) → Q (.int M t') { s with heap := h', toks := tk }) : wpAny (model prog w) A (call (.builtin "max") [.ref l]) Q E s := by
  obtain ⟨xs, e⟩ := hi.allInts.items
  have hn : numsOf (intItems xs).toList = ns := by rw [← e]; exact hi.numsOf
  rw [nums_intItems] at hn
  subst hn
  rw [e] at hl
  have hsz : 0 < xs.size := by simpa using hne
  refine max_intTuple hh hl hsz fun v h' tk hv hk => ?_
  obtain ⟨t, rfl⟩ := intItems_at hv
  obtain ⟨h1, h2⟩ := argBest_gt (numAt xs) (xs.size - 1)
  refine h h' tk _ t hk ?_ fun a ha => ?_
  · rw [numAt_eq]; exact PySem.getD_mem (by rw [List.length_map, Array.length_toList]; omega)
  · obtain ⟨j, hj, rfl⟩ := mem_getD ha
    rw [List.length_map, Array.length_toList] at hj
    rw [← numAt_eq]; exact h2 j (by omega)
end
def rMaxT (K : PySem.W.Frag) : List V → Hp → VK → Prop := fun vs H Q => ∃ (a : Addr) (ns : List Int), vs = [V.ref a] ∧ SqT K H a (ns.map V.int) ∧ 0 < ns.length ∧ ∀ m, m ∈ ns → (∀ y, y ∈ ns → y ≤ m) → Q (.int m) H
theorem cr_maxT {X : Cx} (hc : X.calm = true) : CallR X (.builtin "max") (rMaxT X.K) := by
  intro pins s σ H vs us Q I r h
  obtain ⟨a, ns, rfl, hs, hne, q⟩ := h
  obtain ⟨its, rv, hl, _⟩ := I.tuple hs
  rw [Vals.ref1 r]
  exact max_rawT (I.ok.hd hc) hl rv.ints hne fun h' tk m t' hk h1 h2 => ⟨.int _, H, I.kept hk, ⟨_, rfl⟩, q m h1 h2⟩
/-! ### a def by its name -/
structure Def (P : Program) (w : World) (K : PySem.W.Frag) (mg : Str → Option Value) (base : Heap) (x : Str) (k : Nat) (ps : List Str) (sp : Sp) : Prop where
  ex : ∃ (f : Addr) (fd : FuncData), FnOk P w K mg base CX0 k f fd ps sp ∧ mg x = some (.ref f) ∧ PySem.W.keepIn K (.ref f) = true ∧ Binds K fd ps []
theorem Def.mono {P : Program} {w : World} {K : PySem.W.Frag} {mg : Str → Option Value} {base : Heap} {x : Str} {j k : Nat} {ps : List Str} {sp : Sp} (D : Def P w K mg base x j ps sp) (h : j ≤ k) : Def P w K mg base x k ps sp := by
  obtain ⟨f, fd, F, r⟩ := D.ex
  exact ⟨f, fd, F.mono h, r⟩
theorem pe_c {X : Cx} {x : Str} {k : Nat} {ps : List Str} {sp : Sp} {e : Expr} {es : List Expr} {t : TA} {p pos : Pos} (D : Def X.prog X.w X.K X.mg X.base x k ps sp) (hr : Room k X.A) (ha : PA X (e :: es) t) (hg : Gl X x := by rfl) (hdb : (x == ("__debug__" : Str)) = false := by decide)
    (he : starEach (e :: es) X.env = (false, eval e X.env) :: starEach es X.env := by rfl) (hpl : (backTo pos (starEach es X.env)).any (·.1) = false := by rfl) : PE X (.Call (.Name x p) (e :: es) [] pos) (tCall sp [] E0 t) := by
  obtain ⟨f, fd, F, m, kp, b⟩ := D.ex
  exact pe_call F hr hg m kp b .nil pass0 ha hdb he hpl
end Mint


namespace Mint
open PySem PySem.Spec PyProof.Rows L2 GxR Gx RZ

/-- a list comprehension over zip of two tuples of one length -/
theorem lc_zipT {K : PySem.W.Frag} {a b : Addr} {xs ys : List V} {g : TG} {tt : TT} {te : TE} {vs : List Nat} {σ : L2.St} {H1 : Hp} {D : Addr} {Qd : Hp → Prop} (hlen : xs.length = ys.length) (Pv : Nat → Hp → Prop) (h0 : Pv 0 (upd H1 D (.lst []))) (hl : ∀ i H, i ≤ xs.length → Pv i H → SqT K H a xs ∧ SqT K H b ys)
    (hs : ∀ i x y T H, xs[i]? = some x → ys[i]? = some y → Pv i H → H T = none → g (.ref T) (wipe σ vs) (upd H T (.tup [x, y])) fun σ2 H2 => wipe σ2 vs = wipe σ vs ∧ tt σ2 H2 fun b H3 =>
      if b = true then te σ2 H3 fun y H4 => ∃ acc, H4 D = some (.lst acc) ∧ acc.length < sizeLine ∧ Pv (i + 1) (upd H4 D (.lst (acc ++ [y]))) else Pv (i + 1) H3) (hd : ∀ H, Pv xs.length H → Qd H) :
    ∃ W : Nat → Nat → Hp → Prop, (∃ m, W 0 m (upd H1 D (.lst []))) ∧ ∀ i m H, W i m H →
      ((ItzT K a b).stop i H ∧ Qd H) ∨ ((ItzT K a b).go i H ∧ ∃ Nx : Hp → Prop, (∀ H', Nx H' → ∃ m', m' < m ∧ W (i + 1) m' H') ∧ ∀ x H', (ItzT K a b).yld i H x H' → g x (wipe σ vs) H' fun σ2 H2 => wipe σ2 vs = wipe σ vs ∧ tt σ2 H2 fun b H3 =>
        if b = true then te σ2 H3 fun y H4 => ∃ acc, H4 D = some (.lst acc) ∧ acc.length < sizeLine ∧ Nx (upd H4 D (.lst (acc ++ [y]))) else Nx H3) := by
  refine ⟨fun i m H => m = xs.length - i ∧ i ≤ xs.length ∧ Pv i H, ⟨xs.length, by simp, Nat.zero_le _, h0⟩, ?_⟩
  rintro i m H ⟨rfl, hi, p⟩
  obtain ⟨qx, qy⟩ := hl i H hi p
  by_cases hlt : i < xs.length
  · have hx : xs[i]? = some xs[i] := List.getElem?_eq_getElem hlt
    have hlt2 : i < ys.length := by omega
    have hy : ys[i]? = some ys[i] := List.getElem?_eq_getElem hlt2
    refine .inr ⟨⟨xs, ys, _, _, qx, qy, hx, hy⟩, Pv (i + 1), fun H' p' => ⟨xs.length - (i + 1), by omega, rfl, hlt, p'⟩, fun v H' y => ?_⟩
    obtain ⟨T, x', y', rfl, hT, rfl, f1, f2⟩ := y
    exact hs i x' y' T H (f1 xs qx) (f2 ys qy) p hT
  · have e : i = xs.length := by omega
    subst e
    exact .inl ⟨⟨xs, ys, qx, qy, Or.inl (Nat.le_refl _)⟩, hd H p⟩

/-! ### len(set(texts)), any number of them -/
def ddS (σ : List Str) (x : Str) : List Str := if σ.any (· == x) then σ else σ ++ [x]
def dedup (xs : List Str) : List Str := xs.foldl ddS []
theorem ddS_any (σ : List Str) (v k : Str) : (ddS σ v).any (· == k) = (σ.any (· == k) || decide (k = v)) := by
  unfold ddS
  by_cases h : σ.any (· == v) = true
  · rw [if_pos h]
    by_cases e : k = v
    · subst e; rw [h]; simp
    · simp [e]
  · rw [if_neg h, List.any_append]
    by_cases e : k = v
    · subst e; simp
    · have hb : (v == k) = false := by simpa [beq_iff_eq] using (fun h' : v = k => e h'.symm)
      simp [hb, e]
theorem ddS_length (σ : List Str) (v : Str) : (ddS σ v).length = if σ.any (· == v) then σ.length else σ.length + 1 := by
  unfold ddS; split <;> simp
theorem dedup_take {xs : List Str} {i : Nat} (h : i < xs.length) : dedup (xs.take (i + 1)) = ddS (dedup (xs.take i)) xs[i] := by
  unfold dedup
  rw [List.take_add_one, List.getElem?_eq_getElem h, Option.toList_some, List.foldl_append]
  rfl
theorem fold_le : ∀ (xs σ : List Str), (xs.foldl ddS σ).length ≤ σ.length + xs.length
  | [], σ => Nat.le_refl _
  | x :: xs, σ => by
    have h1 := fold_le xs (ddS σ x)
    have h2 := ddS_length σ x
    rw [List.foldl_cons, List.length_cons]
    split at h2 <;> omega
theorem dedup_le (xs : List Str) : (dedup xs).length ≤ xs.length := by
  have := fold_le xs []
  simpa [dedup] using this

/-- what set(xs) comes to, xs a list: its filling loop, from the empty set at S over the iterator behind it -/
def SetLoop (prog : Program) (w : World) (A : Around) (l S : Addr) (items : Array Value) (good : Shared → Prop) (E : Value → Shared → Prop) : Prop := ∀ s1 : Shared,
  (∃ led : Bool, s1.heap.get? S = some { cls := .type "set", dict := none, data := .set #[] 0 (.fresh 0 0 led) }) → s1.heap.IsListIter (S + 1) l 0 → s1.heap.IsList l items →
  codeAny (model prog w) A (.builtin "set.update.loop" ⟨[.ref S, .ref (S + 1)], []⟩) (wants (fun r s2 => r = .none ∧ s2.gens = s1.gens ∧ s2.drawn = s1.drawn ∧ s2.os = s1.os ∧ good s2 ∧ ∀ b o, b < S → s1.heap.get? b = some o → s2.heap.get? b = some o) E) s1
section
variable {prog : Program} {w : World} {A : Around} {E : Value → Shared → Prop} {s : Shared}
set_option maxHeartbeats 8000000 in
theorem set_of_list {l : Addr} {items : Array Value} {good : Shared → Prop} {Q : Value → Shared → Prop} (hl : s.heap.IsList l items) (loop : SetLoop prog w A.in1.in1 l s.heap.objs.size items good E)
    (done : ∀ (h' : Heap) (tk : Nat), good { s with heap := h', toks := tk } → (∀ b o, s.heap.get? b = some o → h'.get? b = some o) → Q (.ref s.heap.objs.size) { s with heap := h', toks := tk }) :
    wpAny (model prog w) A (call (.type "set") [.ref l]) Q E s := by
  have hlS : l < s.heap.objs.size := let ⟨_, e, _⟩ := hl; Heap.lt_size e
  obtain ⟨_, _, hmro⟩ := PySem.F.called_set.mro
  have hm := PySem.F.called_set.made; have hs := PySem.F.called_set.sub; have hn := PySem.F.called_set.notType; have hcr := PySem.F.called_set.canCreate; have hct := PySem.F.typeCall_set_1 (.ref l)
  refine wpAny_call (codeAny_of_tree (show wpAny _ _ (callAny (.type "set") _) _ _ _ from wpAny_pure ⟨Code.quiet_builtin _ (by decide +kernel), codeAny_builtin PySem.F.entry_type_call ?_⟩))
  rw [Around.under_plain (weight_type_call_type "set" [.ref l] []) rfl]
  repeat (any_goals (first | assumption | wp_step))
  refine codeAny_mono (code_set_new_1 (.ref l) (E := E) (Q₁ := fun u s₁ => u = .ref s.heap.objs.size ∧ ∃ led : Bool, s₁ = { s with heap := s.heap.push { cls := .type "set", dict := none, data := .set #[] 0 (.fresh 0 0 led) } }) fun led => ⟨rfl, led, rfl⟩) fun r s₁ hr => ?_
  match r, hr with
  | .error e, hr => exact hr
  | .ok .next, hr => exact hr.elim
  | .ok .brk, hr => exact hr.elim
  | .ok .cont, hr => exact hr.elim
  | .ok (.ret u), ⟨eu, led, es⟩ =>
  subst eu es
  have hT : Shared.TypeIs { s with heap := s.heap.push { cls := .type "set", dict := none, data := .set #[] 0 (.fresh 0 0 led) } } (.ref s.heap.objs.size) "set" := ⟨_, Heap.get?_push_size _ rfl, rfl⟩
  have hli := PySem.F.called_set.init.lookup; have hbi := PySem.F.called_set.init.bind (.ref s.heap.objs.size)
  repeat (any_goals (first | assumption | wp_step))
  refine codeAny_mono (codeAny_call_builtin (R := wants (fun r s₂ => r = .none ∧ ∃ h' tk, s₂ = { s with heap := h', toks := tk } ∧ good s₂ ∧ ∀ b o, s.heap.get? b = some o → h'.get? b = some o) E) PySem.F.called_set.init.plain PySem.F.entry_set_init (check_set_init_1 hT ?_)) fun r s₂ hr => ?_
  · obtain ⟨⟨ocls, odict, odata, oslots⟩, hol, hcl, nl, hdl⟩ := hl
    simp only at hcl hdl
    subst hcl hdl
    have e1 := PySem.F.sub_list_set; have e2 := PySem.F.sub_list_frozenset; have e3 : (Value.type "list" == Value.type "dict") = false := by decide
    have ho1 : (s.heap.push { cls := .type "set", dict := none, data := .set #[] 0 (.fresh 0 0 led) }).get? l = some { cls := .type "list", dict := odict, data := .seq items nl, slots := oslots } := Heap.get?_push_of_some _ hol
    have hL1 : (s.heap.push { cls := .type "set", dict := none, data := .set #[] 0 (.fresh 0 0 led) }).IsList l items := ⟨_, ho1, rfl, nl, rfl⟩
    unfold Builtin.«set.__init__» noKeywords Builtin.Frozenset.updateFrom
    generalize hPI : pyIter = PI
    wp_walk
    subst hPI
    refine wpAny_pyIter_list hL1 (wpAny_bind (wpAny_runValue ?_))
    have hz : (s.heap.push { cls := .type "set", dict := none, data := .set #[] 0 (.fresh 0 0 led) }).objs.size = s.heap.objs.size + 1 := Heap.size_push ..
    have key := loop { s with heap := (s.heap.push { cls := .type "set", dict := none, data := .set #[] 0 (.fresh 0 0 led) }).push { cls := .type "list_iterator", data := .fields #[.ref l, .int 0 0] } }
      ⟨led, Heap.get?_push_of_some _ (Heap.get?_push_size _ rfl)⟩ ⟨_, by rw [← hz]; exact Heap.get?_push_size _ rfl, rfl, rfl⟩ (hL1.push _)
    rw [hz]
    refine codeAny_mono key fun r s2 hr => ?_
    match r, hr with
    | .error e, hr => exact hr
    | .ok .next, hr => exact hr.elim
    | .ok .brk, hr => exact hr.elim
    | .ok .cont, hr => exact hr.elim
    | .ok (.ret u), ⟨eu, eg, ed, eo, gd, kp⟩ =>
    obtain ⟨h2, g2, d2, t2, o2⟩ := s2
    simp only at eg ed eo
    subst eg ed eo
    refine wpAny_pure (wpAny_pure ⟨rfl, h2, t2, rfl, gd, fun b o e => kp b o (Heap.lt_size e) ?_⟩)
    exact Heap.get?_push_of_some _ (Heap.get?_push_of_some _ e)
  · match r, hr with
    | .error e, hr => exact hr
    | .ok .next, hr => exact hr.elim
    | .ok .brk, hr => exact hr.elim
    | .ok .cont, hr => exact hr.elim
    | .ok (.ret u), ⟨eu, h2, t2, es, gd, kp⟩ =>
    subst eu es
    repeat (any_goals (first | assumption | wp_step))
    exact done h2 t2 gd kp
/-- the filling loop, over texts -/
theorem set_loop_strs {l S : Addr} {items : Array Value} {xs : List Str} (hh : A.handled = none) (hi : PyProof.Rows.StrsAre items.toList xs) (hlS : l < S) (hb : xs.length + 1 < scanBound) :
    SetLoop prog w A l S items (fun s2 => s2.heap.SetOf (PySem.strKind prog w) S (fun k => (dedup xs).any (· == k)) (dedup xs).length) E := by
  intro s1 ⟨led, hS⟩ hit hl
  have hn : xs.length = items.size := by rw [← StrsAre.len_eq hi, Array.length_toList]
  have W := (Walks.list (prog := prog) (w := w) (A := A.in1) hh (S + 1) l (show l ≠ S + 1 from Nat.ne_of_lt (Nat.lt_succ_of_lt hlS)) items)
  have hSw : S ∉ [S + 1] := by simp
  -- one turn after another
  have go : ∀ (k i : Nat) (s : Shared), items.size - i = k → i ≤ items.size → (s.heap.IsListIter (S + 1) l i ∧ s.heap.IsList l items) → s.heap.SetOf (PySem.strKind prog w) S (fun k => (dedup (xs.take i)).any (· == k)) (dedup (xs.take i)).length →
      s.gens = s1.gens → s.drawn = s1.drawn → s.os = s1.os → (∀ b o, b < S → s1.heap.get? b = some o → s.heap.get? b = some o) →
      codeAny (model prog w) A (.builtin "set.update.loop" ⟨[.ref S, .ref (S + 1)], []⟩) (wants (fun r s2 => r = .none ∧ s2.gens = s1.gens ∧ s2.drawn = s1.drawn ∧ s2.os = s1.os ∧ s2.heap.SetOf (PySem.strKind prog w) S (fun k => (dedup xs).any (· == k)) (dedup xs).length ∧ ∀ b o, b < S → s1.heap.get? b = some o → s2.heap.get? b = some o) E) s := by
    intro k
    induction k with
    | zero =>
      intro i s hk hle st hset eg ed eo kp
      have ei : i = items.size := by omega
      subst ei
      refine codeAny_builtin PyProof.Rows.F.entry_set_update_loop ?_; rw [Around.under_plainId PyProof.Rows.F.plain_set_update_loop _]
      show wpAny _ A.in1 (pyNext (.ref (S + 1)) >>= _) _ _ s
      refine wpAny_bind (W.done s _ _ st fun h' tk hk => ?_)
      refine wpAny_pure (show _ ∧ _ from ⟨rfl, eg, ed, eo, ?_, fun b o hb e => hk b o (fun z => absurd (List.mem_singleton.mp z) (Nat.ne_of_lt (Nat.lt_succ_of_lt hb))) (kp b o hb e)⟩)
      rw [← hn, List.take_length] at hset
      obtain ⟨o, es, ep, t, ho, r⟩ := hset
      exact ⟨o, es, ep, t, hk S o hSw ho, r⟩
    | succ k ih =>
      intro i s hk hle st hset eg ed eo kp
      have hlt : i < items.size := by omega
      have hltx : i < xs.length := by omega
      refine codeAny_builtin PyProof.Rows.F.entry_set_update_loop ?_; rw [Around.under_plainId PyProof.Rows.F.plain_set_update_loop _]
      show wpAny _ A.in1 (pyNext (.ref (S + 1)) >>= _) _ _ s
      refine wpAny_bind (W.item i s _ _ hlt st fun v h' tk hv st' hk => ?_)
      obtain ⟨t, ev⟩ := SS.strs_at hi i v (by rw [Array.getElem?_toList]; exact hv)
      have eg' : xs.getD i Str.empty = xs[i] := by simp [List.getD_eq_getElem?_getD, hltx]
      rw [eg'] at ev
      subst ev
      have hset' : h'.SetOf (PySem.strKind prog w) S (fun k => (dedup (xs.take i)).any (· == k)) (dedup (xs.take i)).length := by
        obtain ⟨o, es, ep, t, ho, r⟩ := hset
        exact ⟨o, es, ep, t, hk S o hSw ho, r⟩
      show wpAny _ A.in1 (holding [Value.str xs[i] t] (setAdd S (.str xs[i] t)) >>= _) _ _ _
      refine wpAny_bind (wpAny_holding ?_); unfold setAdd; refine wpAny_holding (wpAny_bind ((PySem.strKind prog w).pyHash (k := xs[i]) (strKind_is _ _ _ _) ?_))
      have hroom : (dedup (xs.take i)).length + 1 < scanBound := by
        have q := dedup_le (xs.take i)
        rw [List.length_take] at q
        omega
      refine wpAny_setAddHashed_of (knd := PySem.strKind prog w) (s := { s with heap := h', toks := tk + 1 }) (strKind_is _ _ _ _) rfl hset' hroom fun h2 sb hset2 => ?_
      have neS : ∀ b o, b ≠ S → h'.get? b = some o → h2.get? b = some o := fun b o hb e => (sb.2 b hb).trans e
      refine wpAny_pure ⟨plainId_quiet PyProof.Rows.F.plain_set_update_loop _, ih (i + 1) _ (by omega) hlt (W.frame _ h' h2 st' fun b hbm o e => neS b o ?_ e) (SetOf_congr hset2 (fun z => ?_) ?_) eg ed eo fun b o hb e => neS b o (Nat.ne_of_lt hb) (hk b o (fun z => absurd (List.mem_singleton.mp z) (Nat.ne_of_lt (Nat.lt_succ_of_lt hb))) (kp b o hb e))⟩
      · rcases List.mem_cons.mp hbm with z | z
        · rw [z]; exact Nat.succ_ne_self S
        · rw [List.mem_singleton.mp z]; exact Nat.ne_of_lt hlS
      · rw [dedup_take hltx, ddS_any]
      · rw [dedup_take hltx, ddS_length]
  refine go items.size 0 s1 (Nat.sub_zero _) (Nat.zero_le _) ⟨hit, hl⟩ ?_ rfl rfl rfl fun _ _ _ e => e
  exact SetOf_congr ((PyProof.Rows.setObjOf_fresh (knd := PySem.strKind prog w) led).setOf hS (by unfold scanBound; omega)) (fun _ => rfl) rfl
end
def tLenSetN (K : PySem.W.Frag) (ta : TE) : TE := fun σ H Q => ta σ H fun x H1 => ∃ l, ∃ xs : List Str, x = .ref l ∧ SqL K H1 l (xs.map V.str) ∧ xs.length ≤ 1000 ∧ Q (.int (dedup xs).length) H1
theorem pe_lenSetN {X : Cx} {a : Expr} {ta : TE} {p p2 q pos : Pos} (hc : X.calm = true) (hg : Gl X "len") (hm : X.mg "len" = none) (hg2 : Gl X "set") (hm2 : X.mg "set" = none) (ha : PE X a ta)
    (na : starEach [a] X.env = (false, eval a X.env) :: starEach [] X.env := by rfl) : PE X (.Call (.Name "len" p) [.Call (.Name "set" p2) [a] [] q] [] pos) (tLenSetN X.K ta) := by
  refine ⟨fun pins s σ H Q I h => ?_⟩
  refine Call_ (ld_blt I hg hm PySem.boot_len ?_)
  refine PyProof.Rows.callWith_builtin1 (PyProof.Rows.args_cons ?_ rfl) rfl rfl
  refine Call_ (ld_blt I hg2 hm2 boot_set ?_)
  refine PyProof.Rows.callWith_type1 (PyProof.Rows.args_cons (thn (ha.run pins s σ H _ I h) fun v s1 ⟨x, H1, I1, r1, q1⟩ => PyProof.Rows.args_nil ?_) na) na rfl
  obtain ⟨l, xs, rfl, hq, h1, q1⟩ := q1
  cases r1
  obtain ⟨its, r, pl, hz⟩ := I1.list hq
  obtain ⟨ol, hol, _⟩ := id pl.isList
  refine set_of_list pl.isList (set_loop_strs (I1.ok.hd hc) (by simpa using strsAre_of r) (Heap.lt_size hol) (by unfold scanBound; omega)) fun h' tk hS hk => PyProof.Rows.args_nil ?_
  obtain ⟨o, es, ep, t, ho, hex, hd, _, _, _, hf, hn⟩ := hS
  have I2 : Inv X pins σ H1 { s1 with heap := h', toks := tk } := I1.kept hk
  have hle := dedup_le xs
  refine call_len_set ho hex hd hf (by rw [hn] <;> omega) ⟨.int (dedup xs).length, H1, I2.tok _, ⟨_, by rw [hn]⟩, q1⟩
end Mint


namespace Mint
open PySem PySem.Spec PyProof.Rows L2 GxR Gx RZ

/-! ### enumerate(tuple), one argument -/
theorem enum_new1 {v : Value} {o : Obj} {H : Heap → Prop} (B : Begins v o H) :
    Meets (Builtin.«enumerate.__new__» ⟨[.type "enumerate", v], []⟩) (fun _ R s => H s.heap ∧ R (.ok (.ret (.ref (s.heap.push o).objs.size))) { s with heap := (s.heap.push o).push { cls := .type "enumerate", data := .fields #[.none, .bool false, .ref s.heap.objs.size, rawInt 0, .none, .none] } }) :=
  .of_wp fun prog w A R s ⟨h1, h2⟩ => by
    have hs := sub_enumerate
    obtain ⟨hp, g, d, tk, os⟩ := s
    have it : ∀ {A' : Around} {E : Value → Shared → Prop} {Q : Value → Shared → Prop}, Q (.ref hp.objs.size) ⟨hp.push o, g, d, tk, os⟩ → wpAny (model prog w) A' (pyIter v) Q E ⟨hp, g, d, tk, os⟩ := fun q => B.iter prog w _ _ _ _ h1 q
    wp_walk using it
    refine wpAny_stack_any fun _ => wpAny_pure ?_
    split
    · rename_i c _ _ _ _ _
      cases (c == Value.type "enumerate") <;> (wp_walk using it; exact ⟨_, rfl, h2⟩)
    · wp_walk using it; exact ⟨_, rfl, h2⟩
section
variable {prog : Program} {w : World} {A : Around} {E : Value → Shared → Prop} {s : Shared}
theorem call_enum_tuple {l : Addr} {items : Array Value} {Q : Value → Shared → Prop} (hl : s.heap.IsTuple l items)
    (h : ∀ h', IsEnum h' (s.heap.objs.size + 1) s.heap.objs.size 0 .none → h'.IsTupleIter s.heap.objs.size l 0 → (∀ b o, s.heap.get? b = some o → h'.get? b = some o) → Q (.ref (s.heap.objs.size + 1)) { s with heap := h' }) :
    wpAny (model prog w) A (call (.type "enumerate") [.ref l]) Q E s := by
  refine callType_new F.called_enumerate (by decide) (F.typeCall_enumerate_1 _) (F.newCall_enumerate_1 _) (fun obj => F.args_object_init_2 obj _) F.entry_enumerate_new (enum_new1 (begins_tuple l items)) ⟨hl, ?_⟩
  have hz : ∀ o : Obj, (s.heap.push o).objs.size = s.heap.objs.size + 1 := fun o => Heap.size_push ..
  show _ ∧ _
  rw [hz]
  have he := Heap.get?_push_size (s.heap.push { cls := .type "tuple_iterator", data := .fields #[.ref l, .int 0 0] }) (o := { cls := .type "enumerate", data := .fields #[.none, .bool false, .ref s.heap.objs.size, rawInt 0, .none, .none] }) rfl
  rw [hz] at he
  exact ⟨⟨_, he, rfl⟩, h _ he ⟨_, Heap.get?_push_of_some _ (Heap.get?_push_size _ rfl), rfl, rfl⟩ fun b o x => Heap.get?_push_of_some _ (Heap.get?_push_of_some _ x)⟩
end
/-- the tuple at a, each item in a new pair with its number -/
def IteT (K : PySem.W.Frag) (a : Addr) : It :=
  ⟨fun i H => ∃ (xs : List V) (x : V), SqT K H a xs ∧ xs[i]? = some x, fun i H v H' => ∃ T x, v = .ref T ∧ H T = none ∧ H' = upd H T (.tup [.int (i : Nat), x]) ∧ ∀ xs, SqT K H a xs → xs[i]? = some x, fun i H => ∃ xs : List V, SqT K H a xs ∧ xs.length = i⟩
theorem turn_enumT {P : Program} {w : World} {K : PySem.W.Frag} {elts : List Expr} {kk : Nat} {tpos : Pos} (a e it : Addr) :
    Turn P w K (.Tuple elts kk tpos) (IteT K a) [e, it] e (fun i h => (∃ old, IsEnum h e it ((i : Nat) : Int) old) ∧ h.IsTupleIter it a i ∧ e ≠ it) where
  mem := List.mem_cons_self
  obj := fun i h st b hb => by
    obtain ⟨⟨old, he⟩, ⟨o, ho, _, hd⟩, _⟩ := st
    rcases List.mem_cons.mp hb with z | z
    · subst z; exact ⟨_, he, fun v q => by cases q⟩
    · exact ⟨o, by rw [List.mem_singleton.mp z]; exact ho, fun v q => by rw [hd] at q; cases q⟩
  keep := fun i h h' ⟨⟨old, he⟩, hi, hne⟩ k => ⟨⟨old, k e List.mem_cons_self _ he⟩, hi.at fun o q => k it (List.mem_cons_of_mem _ List.mem_cons_self) o q, hne⟩
  item := by
    intro X hP hw hK hc i pins s σ H E I hf ⟨⟨old, he⟩, hit, hne⟩ ⟨xs, x, hq, hx⟩
    subst hP hw hK
    obtain ⟨its, rv, p, hz⟩ := I.tuple hq
    obtain ⟨u, hu, ru⟩ := rv.get hx
    obtain ⟨oa, ha1, ha2, _⟩ := id p
    obtain ⟨oi, hi1, hi2, _⟩ := id hit
    have nae : e ≠ a := fun z => by
      rw [← z, show s.heap.get? e = _ from he] at ha1
      cases ha1
      exact absurd (Value.type.inj ha2) (by decide)
    have nai : a ≠ it := fun z => by
      rw [z, hi1] at ha1
      cases ha1
      rw [hi2] at ha2
      exact absurd (Value.type.inj ha2) (by decide)
    have W := WalksT.enumFrom (prog := X.prog) (w := X.w) (A := X.A) 0 (Draws.tuple (A := X.A.in1) (I.ok.hd hc) it a nai its.toArray) e hne (by simp [hne, nae]) (by simp)
    have hlt : i < its.toArray.size := by
      have := (List.getElem?_eq_some_iff.mp hu).1
      simpa using this
    have z0 : ∀ j : Nat, (0 : Int) + (j : Int) = (j : Int) := fun j => Int.zero_add _
    refine W.item i s _ _ hlt ⟨⟨old, by rw [z0]; exact he⟩, hit, p⟩ fun T vals h' tk ⟨t, y, hy, ev⟩ hT htup mid hk => ⟨_, rfl, ?_⟩
    refine W.go elts kk tpos i T { s with heap := h', toks := tk } _ _ mid fun h2 st2 hk2 => ?_
    have ey : y = u := by
      have hy' : its.toArray[i]? = some y := hy
      rw [List.getElem?_toArray, hu] at hy'
      exact (Option.some.inj hy').symm
    subst ey ev
    have apart := W.apart i T h' mid
    have kept : ∀ b ob, b ∉ [e, it] → s.heap.get? b = some ob → h2.get? b = some ob := fun b ob hb q => hk2 b ob hb (hk b ob hb q)
    obtain ⟨ot, hot, hct, nt, hdt⟩ := htup
    have hT2 : h2.get? T = some ot := hk2 T ot apart hot
    have new : ObjOk X.prog X.w (upd H T (.tup [.int (i : Nat), x])) h2 T (.tup [.int (i : Nat), x]) :=
      ⟨by show 2 ≤ sizeLine; decide, [.int (0 + (i : Int)) t, y], .cons ⟨t, by rw [z0]⟩ (.cons ru .nil), ⟨ot, hT2, hct, nt, hdt⟩⟩
    have J := I.turnedNew (t' := tk) (ch := [e, it]) kept hf hT new
    have low : ∀ b ∈ [e, it], b < s.heap.objs.size := fun b hb => by
      rcases List.mem_cons.mp hb with z | z
      · rw [z]; exact Heap.lt_size he
      · rw [List.mem_singleton.mp z]; exact Heap.lt_size hi1
    refine ⟨.ref T, _, J, rfl, ⟨T, x, rfl, I.hok.fresh hT, rfl, fun ys hy => by rw [I.tuple_inj hy hq]; exact hx⟩, ?_, fun b hb => ?_⟩
    · obtain ⟨⟨old2, he2⟩, hit2, _⟩ := st2
      exact ⟨⟨old2, by rw [z0] at he2; exact he2⟩, hit2, hne⟩
    · rw [upd_ne (Nat.ne_of_lt (Nat.lt_of_lt_of_le (low b hb) hT))]
      exact (hf b hb).1
  done := by
    intro X hP hw hK hc i pins s σ H E I hf ⟨⟨old, he⟩, hit, hne⟩ ⟨xs, hq, hx⟩
    subst hP hw hK
    obtain ⟨its, rv, p, hz⟩ := I.tuple hq
    obtain ⟨oa, ha1, ha2, _⟩ := id p
    obtain ⟨oi, hi1, hi2, _⟩ := id hit
    have nai : a ≠ it := fun z => by
      rw [z, hi1] at ha1
      cases ha1
      rw [hi2] at ha2
      exact absurd (Value.type.inj ha2) (by decide)
    obtain ⟨f0, f1, f2, f3, f4, f5⟩ := hf it (List.mem_cons_of_mem _ List.mem_cons_self)
    have hn : its.toArray.size = i := by rw [← hx, List.size_toArray, ← rv.length]
    refine wpAny_pyNext_enum_endD (Draws.tuple (A := X.A.in1) (I.ok.hd hc) it a nai its.toArray) he ⟨by rw [hn]; exact hit, p⟩ fun h' eb => ⟨rfl, I.turned (t' := s.toks) (fun b o hb q => eb b o hb q) f0 f1 f3 f4 f5⟩
  self := fun A i s Q E ⟨⟨_, he⟩, _⟩ h => wpAny_pyIter_enum he h
def iEnumT (K : PySem.W.Frag) (ta : TA) : TI := fun σ H R => ta σ H fun vs H1 => ∃ a xs, vs = [.ref a] ∧ SqT K H1 a xs ∧ R (IteT K a) H1
theorem pi_enumT {X : Cx} {e : Expr} {ta : TA} {p pos tpos : Pos} {elts : List Expr} {kk : Nat} (hg : Gl X "enumerate") (hm : X.mg "enumerate" = none) (ha : PA X [e] ta) (hs : starEach [e] X.env = [(false, eval e X.env)] := by rfl) :
    PI X (.Tuple elts kk tpos) (.Call (.Name "enumerate" p) [e] [] pos) (iEnumT X.K ta) := by
  refine ⟨fun pins s σ H R I h => Call_ (ld_blt I hg hm boot_enumerate (PyProof.Rows.callWith_type1 (thn (ha.run pos pins s σ H _ I h) fun us s1 ⟨vs, H1, I1, r1, a, xs, ex, hq, q⟩ => ?_) hs rfl))⟩
  subst ex
  obtain ⟨u, rfl, ru⟩ := vals1 r1
  cases ru
  obtain ⟨its, rv, p', hz⟩ := I1.tuple hq
  refine call_enum_tuple p' fun h' he hit hk => wpAny_pyIter_enum he ?_
  refine ⟨s1.heap.objs.size + 1, [s1.heap.objs.size + 1, s1.heap.objs.size], _, _, H1, rfl, I1.kept (t' := s1.toks) hk, turn_enumT a (s1.heap.objs.size + 1) s1.heap.objs.size, ⟨⟨.none, he⟩, hit, Nat.succ_ne_self _⟩, fun b hb => ?_, q⟩
  have hle : s1.heap.objs.size ≤ b := by
    rcases List.mem_cons.mp hb with z | z
    · rw [z]; exact Nat.le_add_right _ _
    · rw [List.mem_singleton.mp z]; exact Nat.le_refl _
  exact I1.fpOk hle (I1.hok.fresh hle)
/-- a loop over enumerate(tuple) -/
theorem for_enumT {K : PySem.W.Frag} {a : Addr} {xs : List V} {g : TG} {tb : TS} {D : Ends} {σ : L2.St} {H : Hp} (Pv : Nat → L2.St → Hp → Prop) (h0 : Pv 0 σ H) (hl : ∀ i σ H, i ≤ xs.length → Pv i σ H → SqT K H a xs)
    (hs : ∀ i x T σ H, xs[i]? = some x → Pv i σ H → H T = none → g (.ref T) σ (upd H T (.tup [.int (i : Nat), x])) fun σ2 H2 => tb { D with nx := Pv (i + 1), ct := Pv (i + 1), bk := D.nx } σ2 H2) (hd : ∀ σ H, Pv xs.length σ H → D.nx σ H) :
    ∃ W : Nat → Nat → L2.St → Hp → Prop, (∃ m, W 0 m σ H) ∧ ∀ i m σ H, W i m σ H →
      ((IteT K a).stop i H ∧ D.nx σ H) ∨ ((IteT K a).go i H ∧ ∃ N : L2.St → Hp → Prop, (∀ σ' H', N σ' H' → ∃ m', m' < m ∧ W (i + 1) m' σ' H') ∧ ∀ x H', (IteT K a).yld i H x H' → g x σ H' fun σ2 H2 => tb { D with nx := N, ct := N, bk := D.nx } σ2 H2) := by
  refine ⟨fun i m σ H => m = xs.length - i ∧ i ≤ xs.length ∧ Pv i σ H, ⟨xs.length, rfl, Nat.zero_le _, h0⟩, ?_⟩
  rintro i m σ H ⟨rfl, hi, p⟩
  have q := hl i σ H hi p
  rcases Nat.lt_or_ge i xs.length with hlt | hge
  · refine .inr ⟨⟨xs, xs[i], q, List.getElem?_eq_getElem hlt⟩, Pv (i + 1), fun σ' H' p' => ⟨xs.length - (i + 1), by omega, rfl, hlt, p'⟩, fun v H' ⟨T, x, ev, hT, eH, f⟩ => ?_⟩
    subst ev eH
    exact hs i x T σ H (f xs q) p hT
  · obtain rfl : i = xs.length := by omega
    exact .inl ⟨⟨xs, q, rfl⟩, hd σ H p⟩
end Mint


namespace Mint
open PySem PySem.Spec PyProof.Rows L2 GxR Gx

def top (i : Nat) : Stmt := PySem.Challenge.pw_mintlaw_k10_need_and_change.main.body.getD i (.Pass ⟨0, 0, 0, 0⟩)
/-! ### the module's constants -/
def lettersS : Str := "abcdefghijklmnopqrstuvwxyz"
def signsS : Str := "abcdefghijklmnopqrstuvwxyz0123456789"
def reservedV : List V := [.str "kinds", .str "nothing", .str "endless", .str "x"]
structure Cst (K : PySem.W.Frag) (mg : Str → Option Value) : Prop where
  letters : ∃ t, mg "LETTERS" = some (.str lettersS t)
  signs : ∃ t, mg "NAME_SIGNS" = some (.str signsS t)
  reserved : ∃ a, mg "RESERVED" = some (.ref a) ∧ ∀ H, SqT K H a reservedV
  mostSigns : ∃ t, mg "MOST_SIGNS" = some (.int 12 t)
  mostKinds : ∃ t, mg "MOST_KINDS" = some (.int 6 t)
  mostMoves : ∃ t, mg "MOST_MOVES" = some (.int 8 t)
  mostUnits : ∃ t, mg "MOST_UNITS" = some (.int 1000 t)
  mostDepth : ∃ t, mg "MOST_DEPTH" = some (.int 30 t)

/-! ### is_integer -/
def fInteger : PyData → Bool
  | .int _ => true
  | _ => false
section
variable {P : Program} {w : World} {K : PySem.W.Frag} {mg : Str → Option Value} {base : Heap} {f : Addr} {fd : FuncData}
end

/-! ### is_name -/
def okSign (c : Nat) : Bool := decide (c ∈ signsS.cps.toList)
def fNameS (x : Str) : Bool := (decide ((1 : Int) ≤ x.length) && decide ((x.length : Int) ≤ 12)) && ((match x.cps.toList with | c :: _ => decide (c ∈ lettersS.cps.toList) | [] => false) && !inV (.str x) reservedV) && x.cps.toList.all okSign
def fName : PyData → Bool
  | .str x => fNameS x
  | _ => false
section
variable {P : Program} {w : World} {K : PySem.W.Frag} {mg : Str → Option Value} {base : Heap} {f c T : Addr} {fd : FuncData}
/-- texts are not too long -/
def SmallStr : PyData → Prop
  | .str x => x.length ≤ sizeLine
  | _ => True
end
end Mint


namespace Mint
open PySem PySem.Spec PyProof.Rows L2 GxR Gx

abbrev spInteger (K : PySem.W.Frag) : Sp := spB K [] 1 (fun _ => True) fun ds => fInteger (ds.getD 0 .none)
abbrev spName (K : PySem.W.Frag) (T : Addr) : Sp := spB K [T] 1 (fun ds => SmallStr (ds.getD 0 .none)) fun ds => fName (ds.getD 0 .none)

/-! ### are_entries -/
def okEntry (l : Int) : PyData → Bool
  | .int i => decide (l ≤ i)
  | _ => false
def fEntries (d : PyData) (w l : Int) : Bool := match d with
  | .tuple ds => decide ((ds.length : Int) = w) && ds.all (okEntry l)
  | _ => false
def spEntries (K : PySem.W.Frag) (Ps : List Addr) : Sp := fun vs H Q _ => ∃ (v : V) (d : PyData) (wd lo : Int), vs = [v, .int wd, .int lo] ∧ Dp K H v d ∧ Tabs Ps H ∧ ∀ H', ExtP H H' → Q (.bl (fEntries d wd lo)) H'
section
variable {P : Program} {w : World} {K : PySem.W.Frag} {mg : Str → Option Value} {base : Heap} {f c T : Addr} {fd : FuncData}
end
end Mint


namespace Mint
open PySem PySem.Spec PyProof.Rows L2 GxR Gx

/-! ### are_units -/
def okMost : PyData → Bool
  | .int i => decide (i ≤ 1000)
  | _ => false
def fUnits (d : PyData) (w : Int) : Bool := fEntries d w 0 && match d with
  | .tuple ds => ds.all okMost
  | _ => false
theorem ints_of {K : PySem.W.Frag} {H : Hp} {lo : Int} : ∀ {xs : List V} {ds : List PyData}, DpAll K H xs ds → ds.all (okEntry lo) = true → ∃ ns : List Int, xs = ns.map V.int ∧ ds = ns.map PyData.int
  | _, _, .nil, _ => ⟨[], rfl, rfl⟩
  | _, _, .cons (ds := ds) h t, e => by
    rw [List.all_cons, Bool.and_eq_true] at e
    obtain ⟨ns, e1, e2⟩ := ints_of t e.2
    cases h with
    | int i => exact ⟨i :: ns, by rw [e1]; rfl, by rw [e2]; rfl⟩
    | non => cases e.1
    | bl _ => cases e.1
    | str _ => cases e.1
    | lst _ _ => cases e.1
    | tup _ _ => cases e.1
theorem all_most {ns : List Int} {m : Int} (h1 : m ∈ ns) (h2 : ∀ y, y ∈ ns → y ≤ m) : (ns.map PyData.int).all okMost = decide (m ≤ 1000) := by
  rw [Bool.eq_iff_iff, List.all_eq_true, decide_eq_true_iff]
  constructor
  · intro h
    exact of_decide_eq_true (h (.int m) (List.mem_map.mpr ⟨m, h1, rfl⟩))
  · intro h d hd
    obtain ⟨y, hy, rfl⟩ := List.mem_map.mp hd
    exact decide_eq_true (Int.le_trans (h2 y hy) h)
def spUnits (K : PySem.W.Frag) (Ps : List Addr) : Sp := fun vs H Q _ => ∃ (v : V) (d : PyData) (wd : Int), vs = [v, .int wd] ∧ 0 < wd ∧ Dp K H v d ∧ Tabs Ps H ∧ ∀ H', ExtP H H' → Q (.bl (fUnits d wd)) H'
section
variable {P : Program} {w : World} {K : PySem.W.Frag} {mg : Str → Option Value} {base : Heap} {f c T : Addr} {fd : FuncData}
end

/-! ### is_stock, is_extended -/
/-- a book's form, as the callers keep it -/
abbrev bookD (ks ms : List PyData) : PyData := .tuple [.tuple ks, .tuple ms]
def spStock (K : PySem.W.Frag) (Ps : List Addr) (lo : Int) : Sp := fun vs H Q _ => ∃ (b v : V) (d : PyData) (ks ms : List PyData), vs = [b, v] ∧ Dp K H b (bookD ks ms) ∧ Dp K H v d ∧ Tabs Ps H ∧ ∀ H', ExtP H H' → Q (.bl (fEntries d ks.length lo)) H'
theorem book_parts {K : PySem.W.Frag} {H : Hp} {b : V} {ks ms : List PyData} (h : Dp K H b (bookD ks ms)) : ∃ a a1 a2 x1 x2, b = .ref a ∧ SqT K H a [.ref a1, .ref a2] ∧ SqT K H a1 x1 ∧ DpAll K H x1 ks ∧ SqT K H a2 x2 ∧ DpAll K H x2 ms := by
  cases h with
  | @tup a xs _ hS hD =>
    cases hD with
    | cons h1 t =>
      cases t with
      | cons h2 t =>
        cases t
        cases h1 with
        | @tup a1 x1 _ s1 d1 =>
          cases h2 with
          | @tup a2 x2 _ s2 d2 => exact ⟨a, a1, a2, x1, x2, rfl, hS, s1, d1, s2, d2⟩
section
variable {P : Program} {w : World} {K : PySem.W.Frag} {mg : Str → Option Value} {base : Heap} {f c T : Addr} {fd : FuncData}
end

/-! ### are_kinds -/
def fKinds : PyData → Bool
  | .tuple ds => (decide ((1 : Int) ≤ ds.length) && decide ((ds.length : Int) ≤ 6)) && ds.all fName
  | _ => false
def SmallStrs : PyData → Prop
  | .tuple ds => ∀ d ∈ ds, SmallStr d
  | _ => True
abbrev spKinds (K : PySem.W.Frag) (Ps : List Addr) : Sp := spB K Ps 1 (fun ds => SmallStrs (ds.getD 0 .none)) fun ds => fKinds (ds.getD 0 .none)
section
variable {P : Program} {w : World} {K : PySem.W.Frag} {mg : Str → Option Value} {base : Heap} {f c T TN : Addr} {fd : FuncData}
end
end Mint


namespace Mint
open PySem PySem.Spec PyProof.Rows L2 GxR Gx RZ

/-! ### is_move -/
def leq : PyData → PyData → Bool
  | .int a, .int b => decide (a ≤ b)
  | _, _ => false
def leAll : PyData → PyData → Bool
  | .tuple ls, .tuple ms => (ls.zip ms).all fun p => leq p.1 p.2
  | _, _ => false
def fMove (d : PyData) (w : Int) : Bool := match d with
  | .tuple [name, take, least, most] => fName name && [take, least, most].all (fun u => fUnits u w) && leAll least most
  | _ => false
def SmallMove : PyData → Prop
  | .tuple (name :: _) => SmallStr name
  | _ => True
def spMove (K : PySem.W.Frag) (Ps : List Addr) : Sp := fun vs H Q _ => ∃ (v : V) (d : PyData) (wd : Int), vs = [v, .int wd] ∧ (0 < wd ∧ wd ≤ 1000) ∧ SmallMove d ∧ Dp K H v d ∧ Tabs Ps H ∧ ∀ H', ExtP H H' → Q (.bl (fMove d wd)) H'
theorem units_ints {K : PySem.W.Frag} {H : Hp} {v : V} {d : PyData} {wd : Int} (h : Dp K H v d) (hu : fUnits d wd = true) : ∃ (a : Addr) (ns : List Int), v = .ref a ∧ d = .tuple (ns.map PyData.int) ∧ SqT K H a (ns.map V.int) ∧ (ns.length : Int) = wd := by
  unfold fUnits at hu
  rw [Bool.and_eq_true] at hu
  cases h with
  | @tup a xs ds hS hD =>
    have hf : (decide ((ds.length : Int) = wd) && ds.all (okEntry 0)) = true := hu.1
    rw [Bool.and_eq_true] at hf
    obtain ⟨ns, e2, e3⟩ := ints_of hD hf.2
    subst e2 e3
    have := of_decide_eq_true hf.1
    rw [List.length_map] at this
    exact ⟨a, ns, rfl, rfl, hS, this⟩
  | non => cases hu.1
  | bl _ => cases hu.1
  | int _ => cases hu.1
  | str _ => cases hu.1
  | lst _ _ => cases hu.1
theorem leAll_ints : ∀ (ns ms : List Int), ((ns.map PyData.int).zip (ms.map PyData.int)).all (fun p => leq p.1 p.2) = (List.zipWith (fun a b => decide (a ≤ b)) ns ms).all id
  | [], _ => by simp
  | _ :: _, [] => by simp
  | a :: ns, b :: ms => by
    have ih := leAll_ints ns ms
    simp only [List.map_cons, List.zip_cons_cons, List.all_cons, List.zipWith_cons_cons, id]
    rw [ih]
    rfl
theorem dp_four {K : PySem.W.Frag} {H : Hp} {xs : List V} {ds : List PyData} (h : DpAll K H xs ds) (e : xs.length = 4) : ∃ v1 v2 v3 v4 d1 d2 d3 d4, xs = [v1, v2, v3, v4] ∧ ds = [d1, d2, d3, d4] ∧ Dp K H v1 d1 ∧ Dp K H v2 d2 ∧ Dp K H v3 d3 ∧ Dp K H v4 d4 := by
  match xs, ds, h, e with
  | [v1, v2, v3, v4], [d1, d2, d3, d4], .cons h1 (.cons h2 (.cons h3 (.cons h4 .nil))), _ => exact ⟨v1, v2, v3, v4, d1, d2, d3, d4, rfl, rfl, h1, h2, h3, h4⟩
theorem fMove_ne {ds : List PyData} {wd : Int} (h : ds.length ≠ 4) : fMove (.tuple ds) wd = false := by
  match ds, h with
  | [], _ => rfl
  | [_], _ => rfl
  | [_, _], _ => rfl
  | [_, _, _], _ => rfl
  | [_, _, _, _], h => exact absurd rfl h
  | _ :: _ :: _ :: _ :: _ :: _, _ => rfl
section
variable {P : Program} {w : World} {K : PySem.W.Frag} {mg : Str → Option Value} {base : Heap} {f c T TN TE : Addr} {fd : FuncData}
end
end Mint


namespace Mint
open PySem PySem.Spec PyProof.Rows L2 GxR Gx RZ

/-! ### are_moves -/
def fMoves (d : PyData) (w : Int) : Bool := match d with
  | .tuple ds => !decide ((8 : Int) < ds.length) && ds.all (fun m => fMove m w)
  | _ => false
def SmallMoves : PyData → Prop
  | .tuple ds => ∀ d ∈ ds, SmallMove d
  | _ => True
def spMoves (K : PySem.W.Frag) (Ps : List Addr) : Sp := fun vs H Q _ => ∃ (v : V) (d : PyData) (wd : Int), vs = [v, .int wd] ∧ (0 < wd ∧ wd ≤ 1000) ∧ SmallMoves d ∧ Dp K H v d ∧ Tabs Ps H ∧ ∀ H', ExtP H H' → Q (.bl (fMoves d wd)) H'
section
variable {P : Program} {w : World} {K : PySem.W.Frag} {mg : Str → Option Value} {base : Heap} {f c T : Addr} {fd : FuncData} {Ps : List Addr}
end

/-! ### is_book -/
def strOf : PyData → Str
  | .str x => x
  | _ => Str.empty
def nameOf : PyData → Str
  | .tuple (n :: _) => strOf n
  | _ => Str.empty
def itemsOf : PyData → List PyData
  | .tuple ds => ds
  | _ => []
def namesOf (ks ms : PyData) : List Str := (itemsOf ks).map strOf ++ (itemsOf ms).map nameOf
def fBook : PyData → Bool
  | .tuple [ks, ms] => fKinds ks && fMoves ms (itemsOf ks).length && decide (((dedup (namesOf ks ms)).length : Int) = (namesOf ks ms).length)
  | _ => false
def SmallBook (d : PyData) : Prop := ∀ ks ms, d = .tuple [ks, ms] → SmallStrs ks ∧ SmallMoves ms
abbrev spBook (K : PySem.W.Frag) (Ps : List Addr) : Sp := spB K Ps 1 (fun ds => SmallBook (ds.getD 0 .none)) fun ds => fBook (ds.getD 0 .none)
theorem dp_two {K : PySem.W.Frag} {H : Hp} {xs : List V} {ds : List PyData} (h : DpAll K H xs ds) (e : xs.length = 2) : ∃ v1 v2 d1 d2, xs = [v1, v2] ∧ ds = [d1, d2] ∧ Dp K H v1 d1 ∧ Dp K H v2 d2 := by
  match xs, ds, h, e with
  | [v1, v2], [d1, d2], .cons h1 (.cons h2 .nil), _ => exact ⟨v1, v2, d1, d2, rfl, rfl, h1, h2⟩
theorem fBook_ne {ds : List PyData} (h : ds.length ≠ 2) : fBook (.tuple ds) = false := by
  match ds, h with
  | [], _ => rfl
  | [_], _ => rfl
  | [_, _], h => exact absurd rfl h
  | _ :: _ :: _ :: _, _ => rfl
/-- names are texts -/
theorem kinds_strs {K : PySem.W.Frag} {H : Hp} : ∀ {xs : List V} {ds : List PyData}, DpAll K H xs ds → ds.all fName = true → xs = (ds.map strOf).map V.str
  | _, _, .nil, _ => rfl
  | _, _, .cons (ds := ds) h t, e => by
    rw [List.all_cons, Bool.and_eq_true] at e
    cases h with
    | str x => rw [kinds_strs t e.2]; rfl
    | _ => cases e.1
theorem move_name {K : PySem.W.Frag} {H : Hp} {v : V} {d : PyData} {wd : Int} (h : Dp K H v d) (e : fMove d wd = true) : ∃ a rest, v = .ref a ∧ SqT K H a (.str (nameOf d) :: rest) := by
  cases h with
  | @tup a xs ds hS hD =>
    have h4 : ds.length = 4 := Classical.byContradiction fun z => by
      rw [fMove_ne z] at e
      cases e
    obtain ⟨v1, v2, v3, v4, d1, d2, d3, d4, rfl, rfl, h1, _⟩ := dp_four hD ((dpAll_len hD).trans h4)
    have e2 : (fName d1 && [d2, d3, d4].all (fun u => fUnits u wd) && leAll d3 d4) = true := e
    rw [Bool.and_eq_true, Bool.and_eq_true] at e2
    cases h1 with
    | str x => exact ⟨a, _, rfl, hS⟩
    | _ => cases e2.1.1
  | _ => cases e
section
variable {P : Program} {w : World} {K : PySem.W.Frag} {mg : Str → Option Value} {base : Heap} {f : Addr} {fd : FuncData} {Pk Pm Ps : List Addr}
end
end Mint


namespace Mint
open PySem PySem.Spec PyProof.Rows L2 GxR Gx RZ

/-! ### is_run_within, is_step -/
def inRange (nm : Int) : PyData → Bool
  | .int i => decide (0 ≤ i) && decide (i < nm)
  | _ => false
def ge1 : PyData → Bool
  | .int i => !decide (i < 1)
  | _ => false
def stepOf (nm : Int) (g : PyData → Bool) : PyData → Bool
  | .tuple [h, m] => PyData.eqv h (.str "do") && (fInteger m && inRange nm m)
  | .tuple [h, k, r] => PyData.eqv h (.str "rep") && (fInteger k && (ge1 k && !PyData.eqv r (.tuple []))) && g r
  | _ => false
def fRunW (nm : Int) : Nat → PyData → Bool
  | 0, _ => false
  | n + 1, .tuple ds => ds.all (stepOf nm (fRunW nm n))
  | _ + 1, _ => false
theorem shaped_all {ds : List PyData} (h : SeqAt.shaped (.tuple ds) = true) : ∀ d ∈ ds, SeqAt.shaped d = true := by
  have h1 := SeqAt.canLay_of_shaped h
  have h2 := SeqAt.depth_of_shaped h
  have a : ∀ (l : List PyData) (d : PyData), PyData.canLayAll0 l = true → d ∈ l → d.canLay0 = true := by
    intro l
    induction l with
    | nil => intro d _ hd; cases hd
    | cons x l ih =>
      intro d hl hd
      have hl' : x.canLay0 = true ∧ PyData.canLayAll0 l = true := by simpa [PyData.canLayAll0] using hl
      rcases List.mem_cons.mp hd with e | hd
      · rw [e]; exact hl'.1
      · exact ih d hl'.2 hd
  have b : ∀ (l : List PyData) (d : PyData), d ∈ l → d.depth ≤ PyData.depthAll l := by
    intro l
    induction l with
    | nil => intro d hd; cases hd
    | cons x l ih =>
      intro d hd
      have e : PyData.depthAll (x :: l) = max x.depth (PyData.depthAll l) := by simp [PyData.depthAll]
      rw [e]
      rcases List.mem_cons.mp hd with e | hd
      · rw [e]; exact Nat.le_max_left _ _
      · exact Nat.le_trans (ih d hd) (Nat.le_max_right _ _)
  intro d hd
  have h3 : (PyData.tuple ds).depth = PyData.depthAll ds + 1 := by simp [PyData.depth]
  have h4 := b ds d hd
  unfold SeqAt.shaped
  rw [a ds d h1 hd, decide_eq_true (by omega)]
  rfl
theorem dp_three {K : PySem.W.Frag} {H : Hp} {xs : List V} {ds : List PyData} (h : DpAll K H xs ds) (e : xs.length = 3) : ∃ v1 v2 v3 d1 d2 d3, xs = [v1, v2, v3] ∧ ds = [d1, d2, d3] ∧ Dp K H v1 d1 ∧ Dp K H v2 d2 ∧ Dp K H v3 d3 := by
  match xs, ds, h, e with
  | [v1, v2, v3], [d1, d2, d3], .cons h1 (.cons h2 (.cons h3 .nil)), _ => exact ⟨v1, v2, v3, d1, d2, d3, rfl, rfl, h1, h2, h3⟩
theorem stepOf_ne {nm : Int} {g : PyData → Bool} {ds : List PyData} (h2 : ds.length ≠ 2) (h3 : ds.length ≠ 3) : stepOf nm g (.tuple ds) = false := by
  match ds, h2, h3 with
  | [], _, _ => rfl
  | [_], _, _ => rfl
  | [_, _], h, _ => exact absurd rfl h
  | [_, _, _], _, h => exact absurd rfl h
  | _ :: _ :: _ :: _ :: _, _, _ => rfl
/-- the promises, for depths up to N -/
def spRunW (K : PySem.W.Frag) (Ps : List Addr) (N : Nat) : Sp := fun vs H Q _ => ∃ (b v : V) (d : PyData) (ks ms : List PyData) (n : Nat), vs = [b, v, .int n] ∧ n ≤ N ∧ Dp K H b (bookD ks ms) ∧ Dp K H v d ∧ SeqAt.shaped d = true ∧ Tabs Ps H ∧ ∀ H', ExtP H H' → Q (.bl (fRunW ms.length n d)) H'
def spStep (K : PySem.W.Frag) (Ps : List Addr) (N : Nat) : Sp := fun vs H Q _ => ∃ (b v : V) (d : PyData) (ks ms : List PyData) (n : Nat), vs = [b, v, .int ((n + 1 : Nat) : Int)] ∧ n + 1 ≤ N ∧ Dp K H b (bookD ks ms) ∧ Dp K H v d ∧ SeqAt.shaped d = true ∧ Tabs Ps H ∧ ∀ H', ExtP H H' → Q (.bl (stepOf ms.length (fRunW ms.length n) d)) H'
section
variable {P : Program} {w : World} {K : PySem.W.Frag} {mg : Str → Option Value} {base : Heap} {f c T : Addr} {fd : FuncData}
end

/-! ### is_run, move_index -/
def spRun (K : PySem.W.Frag) (Ps : List Addr) : Sp := fun vs H Q _ => ∃ (b v : V) (d : PyData) (ks ms : List PyData), vs = [b, v] ∧ Dp K H b (bookD ks ms) ∧ Dp K H v d ∧ SeqAt.shaped d = true ∧ Tabs Ps H ∧ ∀ H', ExtP H H' → Q (.bl (fRunW ms.length 30 d)) H'
def idxOf (x : Str) : List PyData → Nat → Option Nat
  | [], _ => none
  | m :: r, i => if nameOf m = x then some i else idxOf x r (i + 1)
def optV : Option Nat → V
  | some i => .int i
  | none => .non
def spIndex (K : PySem.W.Frag) : Sp := fun vs H Q _ => ∃ (b : V) (x : Str) (ks ms : List PyData), vs = [b, .str x] ∧ Dp K H b (bookD ks ms) ∧ (∀ m ∈ ms, ∃ n r, m = .tuple (.str n :: r)) ∧ ms.length ≤ 1000 ∧ ∀ H', ExtP H H' → Q (optV (idxOf x ms 0)) H'
section
variable {P : Program} {w : World} {K : PySem.W.Frag} {mg : Str → Option Value} {base : Heap} {f T : Addr} {fd : FuncData}
end
end Mint




namespace Mint
open PySem PySem.Spec PyProof.Rows L2 GxR Gx RZ

/-! ### _law_mix: some number -/
def spMix : Sp := fun vs H Q _ => ∃ a b : Int, vs = [.int a, .int b] ∧ ∀ r : Int, 0 ≤ r → r < 2147483647 → Q (.int r) H
abbrev sMix : Stmt := top 21
theorem scMix : FnScope ["first", "second", "value"] ["first", "second"] (defScope sMix) := ⟨rfl, rfl, rfl, by decide +kernel, rfl, by decide +kernel, by decide +kernel⟩
section
variable {P : Program} {w : World} {K : PySem.W.Frag} {mg : Str → Option Value} {base : Heap} {f T : Addr} {fd : FuncData}
theorem ok_mix (F : Fun K "_law_mix" "_law_mix" sMix f fd) (G : Glb mg) : FnOk P w K mg base CX0 1 f fd ["first", "second"] spMix := by
  refine F.ok scMix (fun vs H Q E h => ?_) (fun cdv A outer s H vs Q E hr h => ?_)
  · obtain ⟨a, b, rfl, _⟩ := h
    rfl
  obtain ⟨a, b, rfl, q⟩ := h
  have nd := scMix.nd
  refine ⟨_, pss_cons (ps_set (i := 2) nd rfl (Or.inl rfl) (pe_op op_mod (pe_callTy call_int1 rfl G.int boot_int (pa_cons (pe_op op_add (pe_op op_add (pe_op op_mul (pv 0) pe_int) (pe_op op_mul (pv 1) pe_int)) pe_int) pa_nil)) pe_int))
    (pss_one (ps_ret (pe_op op_mod (pe_callTy call_int1 rfl G.int boot_int (pa_cons (pe_op op_add (pe_op op_add (pe_op op_mul (pv 2) pe_int) (pe_op op_mul (pv 1) pe_int)) pe_int) pa_nil)) pe_int))), ?_⟩
  refine ⟨_, rfl, _, _, rfl, rfl, .inr ⟨by decide, by decide⟩, _, rfl, _, _, rfl, rfl, .inr ⟨by decide, by decide⟩, _, _, rfl, rfl, _, _, rfl, rfl, .inl ⟨_, rfl, _, _, rfl, rfl, (by show (0 : Int) < _; decide), ?_⟩⟩
  refine ⟨_, rfl, _, _, rfl, rfl, .inr ⟨by decide, by decide⟩, _, rfl, _, _, rfl, rfl, .inr ⟨by decide, by decide⟩, _, _, rfl, rfl, _, _, rfl, rfl, .inl ⟨_, rfl, _, _, rfl, rfl, (by show (0 : Int) < _; decide), ?_⟩⟩
  refine q _ (Int.emod_nonneg _ (by decide)) (Int.lt_of_lt_of_le (Int.emod_lt_of_pos _ (by decide)) (by decide))
end
/-! ### _law_numbers -/
theorem cut_take (zs : List Int) (k : Nat) : cutV (zs.map V.int) none (some (k : Int)) = (zs.take k).map V.int := by
  unfold cutV
  rw [HT.sIx_none, HT.sIx_nat, List.drop_zero, Nat.sub_zero, List.map_take, List.length_map]
  rcases Nat.le_total k zs.length with h | h
  · rw [Nat.min_eq_left h]
  · rw [Nat.min_eq_right h, List.take_of_length_le (by rw [List.length_map]; exact Nat.le_refl _), List.take_of_length_le (by rw [List.length_map]; exact h)]
def spNumbers (K : PySem.W.Frag) : Sp := fun vs H Q _ => ∃ (a : Addr) (zs : List Int) (c : Nat), vs = [.ref a, .int c] ∧ SqL K H a (zs.map V.int) ∧ zs.length ≤ 63 ∧ c ≤ 1000 ∧
  ∀ (H' : Hp) (p : Addr) (ns : List Int), ExtP H H' → H p = none → H' p = some (.lst (ns.map V.int)) → ns.length = c → (∀ n ∈ ns, 0 ≤ n ∧ n < 1000) → Q (.ref p) H'
abbrev sNumbers : Stmt := top 22
theorem scNumbers : FnScope ["script", "count", "found", "total", "cell", "number", "k"] ["script", "count"] (defScope sNumbers) := ⟨rfl, rfl, rfl, by decide +kernel, rfl, by decide +kernel, by decide +kernel⟩
section
variable {P : Program} {w : World} {K : PySem.W.Frag} {mg : Str → Option Value} {base : Heap} {f T : Addr} {fd : FuncData}
/-- the list at l holds small numbers -/
def FdAt (H0 H : Hp) (l : Addr) (ns : List Int) : Prop := ExtP H0 H ∧ H l = some (.lst (ns.map V.int)) ∧ ∀ n ∈ ns, 0 ≤ n ∧ n < 1000
theorem FdAt.push {H0 H : Hp} {l : Addr} {ns : List Int} {x : Int} (h : FdAt H0 H l ns) (hl : H0 l = none) (hx : 0 ≤ x ∧ x < 1000) : FdAt H0 (upd H l (.lst (ns.map V.int ++ [.int x]))) l (ns ++ [x]) := by
  refine ⟨h.1.upd_new hl, by rw [upd_same, List.map_append]; rfl, fun n hn => ?_⟩
  rcases List.mem_append.mp hn with z | z
  · exact h.2.2 n z
  · rw [List.mem_singleton.mp z]; exact hx
theorem mod1000 (x : Int) : 0 ≤ x % 1000 ∧ x % 1000 < 1000 := ⟨Int.emod_nonneg _ (by decide), Int.emod_lt_of_pos _ (by decide)⟩
theorem ok_numbers (F : Fun K "_law_numbers" "_law_numbers" sNumbers f fd) (G : Glb mg) (DM : Def P w K mg base "_law_mix" 1 ["first", "second"] spMix) : FnOk P w K mg base CX0 2 f fd ["script", "count"] (spNumbers K) := by
  refine F.ok scNumbers (fun vs H Q E h => ?_) (fun cdv A outer s H vs Q E hr h => ?_)
  · obtain ⟨a, zs, c, rfl, _⟩ := h
    rfl
  obtain ⟨a, zs, c, rfl, hS, h63, hc, q⟩ := h
  have nd := scNumbers.nd
  refine ⟨_, (pss_cons (ps_set (i := 2) nd rfl (Or.inl rfl) (pe_lst pa_nil))
    (pss_cons (ps_set (i := 3) nd rfl (Or.inl rfl) (pe_op op_add (pe_callB call_len rfl G.len PySem.boot_len (pa_cons (pv 0) pa_nil)) pe_int))
    (pss_cons (ps_for PassesOwn.never rfl (pi_list (pe_slice sl_list (pv 0) po_none (po_some pe_int))) (pg_name (i := 4) nd rfl (Or.inl rfl)) (pss_cons (ps_set (i := 5) nd rfl (Or.inl rfl) (pe_callB call_abs rfl G.abs (by decide +kernel) (pa_cons (pv 4) pa_nil)))
    (pss_cons (ps_set (i := 3) nd rfl (Or.inl rfl) (pe_c DM (hr) (pa_cons (pv 3) (pa_cons (pe_op op_mod (pe_callTy call_int1 rfl G.int boot_int (pa_cons (pv 5) pa_nil)) pe_int) pa_nil))))
    (pss_one (ps_if (pt_cmpR op_ge (pv 5) (pe_op op_pow pe_int pe_int) (nomark _)) (pss_one (ps_for PassesOwn.never rfl (pi_range1 rfl G.range (pa_cons pe_int pa_nil)) (pg_name (i := 6) nd rfl (Or.inl rfl)) (pss_one (ps_if (pt_cmpR op_gt (pv 5) pe_int (nomark _)) (pss_cons (ps_expr (pe_bm PySem.F.plainAttrs_list PySem.F.slot_list_append PySem.F.type_list_append mt_append (pv 2) (pa_cons (pe_op op_mod (pe_callTy call_int1 rfl G.int boot_int (pa_cons (pv 5) pa_nil)) pe_int) pa_nil)))
    (pss_one (ps_set (i := 5) nd rfl (Or.inl rfl) (pe_op op_fdiv (pv 5) pe_int)))) pss_nil)))) (pss_one (ps_for PassesOwn.never rfl (pi_range1 rfl G.range (pa_cons pe_int pa_nil)) (pg_name (i := 6) nd rfl (Or.inl rfl)) (pss_one (ps_expr (pe_bm PySem.F.plainAttrs_list PySem.F.slot_list_append PySem.F.type_list_append mt_append (pv 2) (pa_cons (pe_op op_mod (pe_callTy call_int1 rfl G.int boot_int (pa_cons (pe_c DM (hr) (pa_cons (pv 5) (pa_cons (pe_op op_add (pv 6) pe_int) pa_nil))) pa_nil)) pe_int) pa_nil)))))))))))
    (pss_cons (ps_for PassesOwn.never rfl (pi_range1 rfl G.range (pa_cons (pv 1) pa_nil)) (pg_name (i := 6) nd rfl (Or.inl rfl)) (pss_one (ps_if (pt_cmpR op_lt (pe_callB call_len rfl G.len PySem.boot_len (pa_cons (pv 2) pa_nil)) (pv 1) (nomark _)) (pss_cons (ps_set (i := 3) nd rfl (Or.inl rfl) (pe_c DM (hr) (pa_cons (pv 3) (pa_cons (pe_op op_add (pv 6) pe_int) pa_nil))))
    (pss_one (ps_expr (pe_bm PySem.F.plainAttrs_list PySem.F.slot_list_append PySem.F.type_list_append mt_append (pv 2) (pa_cons (pe_op op_mod (pe_callTy call_int1 rfl G.int boot_int (pa_cons (pv 3) pa_nil)) pe_int) pa_nil))))) pss_nil)))
    (pss_one (ps_ret (pe_slice sl_list (pv 2) po_none (po_some (pv 1))))))))), ?_⟩
  refine ⟨Nat.zero_le _, fun l hl => ?_⟩
  have e0 : ExtP H (upd H l (.lst [])) := Ext.new hl _
  refine ⟨_, rfl, _, _, rfl, .inl ⟨_, e0.sqL hS, rfl⟩, _, _, rfl, rfl, ?_⟩
  refine ⟨_, rfl, _, rfl, a, _, rfl, e0.sqL hS, fun p hp => ?_⟩
  have hcut : cutV (zs.map V.int) none (some 63) = zs.map V.int := by
    have := cut_take zs 63
    rw [List.take_of_length_le h63] at this
    exact this
  rw [hcut]
  have e1 : ExtP H (upd (upd H l (.lst [])) p (.lst (zs.map V.int))) := e0.trans (Ext.new hp _)
  have hpl : l ≠ p := ne_of_none (H := upd H l (.lst [])) upd_same hp
  have hpH : H p = none := by rw [upd_ne (Ne.symm hpl)] at hp; exact hp
  have small : ∀ (ns : List Int) (n : Nat), ns.length ≤ n → n ≤ 100000 → (ns.map V.int).length < sizeLine := fun ns n h1 h2 => by
    rw [List.length_map, sizeLine_eq]
    omega
  refine ⟨p, rfl, ⟨_, SqL.of upd_same⟩, ?_⟩
  refine for_list (xs := zs.map V.int) (fun i σ H' => ∃ (t : Int) (o4 o5 o6 : Option V) (ns : List Int), σ = [some (.ref a), some (.int c), some (.ref l), some (.int t), o4, o5, o6] ∧ FdAt H H' l ns ∧ ns.length ≤ 60 * i ∧ H' p = some (.lst (zs.map V.int)))
    ⟨_, none, none, none, [], rfl, ⟨e1, (upd_ne hpl).trans upd_same, fun n hn => by cases hn⟩, Nat.zero_le _, upd_same⟩ (fun i σ H' _ ⟨_, _, _, _, _, _, _, _, h⟩ => SqL.of h) (fun i x σ H' hx ⟨t, o4, o5, o6, ns, eσ, fd, hle, hpp⟩ => ?_) fun σ H' ⟨t, o4, o5, o6, ns, eσ, fd, hle, _⟩ => ?_
  · subst eσ
    rw [List.getElem?_map, Option.map_eq_some_iff] at hx
    obtain ⟨z, hz, rfl⟩ := hx
    have hi63 : i < 63 := by
      have := (List.getElem?_eq_some_iff.mp hz).1
      omega
    refine ⟨_, rfl, z, rfl, ?_⟩
    have h0 : 0 ≤ (if z < 0 then -z else z) := by split <;> omega
    generalize (if z < 0 then -z else z) = m at h0 ⊢
    refine ⟨_, rfl, _, rfl, .inl ⟨m, rfl, m, 2147483647, rfl, rfl, (by show (0 : Int) < _; decide), _, _, rfl, fun r _ _ => ?_⟩⟩
    refine ⟨_, rfl, 10, 18, rfl, rfl, ⟨by decide, by decide, by decide⟩, m, _, rfl, rfl, _, rfl, ?_⟩
    refine ite2 (fun c1 => ?_) (fun c1 => ?_)
    · refine ⟨60, rfl, by decide, by decide, for_range (lo := 0) (n := 60) (fun j σ H' => ∃ (m : Int) (o6 : Option V) (ns : List Int), σ = [some (.ref a), some (.int c), some (.ref l), some (.int r), some (.int z), some (.int m), o6] ∧ FdAt H H' l ns ∧ ns.length ≤ 60 * i + j ∧ H' p = some (.lst (zs.map V.int)) ∧ 0 ≤ m)
        ⟨m, o6, ns, rfl, fd, hle, hpp, h0⟩ (fun j σ H' hj ⟨m, o6, ns, eσ, fd, hle, hpp, h0⟩ => ?_) fun σ H' ⟨m, o6, ns, eσ, fd, hle, hpp, h0⟩ => ⟨r, _, _, _, ns, eσ, fd, by omega, hpp⟩⟩
      subst eσ
      refine ⟨_, rfl, m, 0, rfl, rfl, _, rfl, ?_⟩
      refine ite2 (fun c2 => ?_) (fun c2 => ?_)
      · refine ⟨_, rfl, .inl ⟨rfl, _, SqL.of fd.2.1⟩, _, rfl, .inl ⟨m, rfl, m, 1000, rfl, rfl, (by show (0 : Int) < _; decide), l, _, _, rfl, rfl, fd.2.1, small ns _ hle (by omega), ?_⟩⟩
        refine ⟨_, rfl, m, 1000, rfl, rfl, ⟨by decide, by decide⟩, ?_⟩
        refine ⟨_, _, ns ++ [m % 1000], rfl, fd.push hl (mod1000 m), ?_, (upd_ne (Ne.symm hpl)).trans hpp, Int.ediv_nonneg h0 (by decide)⟩
        rw [List.length_append]
        simp
        omega
      · exact ⟨m, _, ns, rfl, fd, by omega, hpp, h0⟩
    · refine ⟨6, rfl, by decide, by decide, for_range (lo := 0) (n := 6) (fun j σ H' => ∃ (o6 : Option V) (ns : List Int), σ = [some (.ref a), some (.int c), some (.ref l), some (.int r), some (.int z), some (.int m), o6] ∧ FdAt H H' l ns ∧ ns.length ≤ 60 * i + j ∧ H' p = some (.lst (zs.map V.int)))
        ⟨o6, ns, rfl, fd, hle, hpp⟩ (fun j σ H' hj ⟨o6, ns, eσ, fd, hle, hpp⟩ => ?_) fun σ H' ⟨o6, ns, eσ, fd, hle, hpp⟩ => ⟨r, _, _, _, ns, eσ, fd, by omega, hpp⟩⟩
      subst eσ
      refine ⟨_, rfl, .inl ⟨rfl, _, SqL.of fd.2.1⟩, _, rfl, _, rfl, _, _, rfl, rfl, _, _, rfl, fun r2 _ _ => .inl ⟨r2, rfl, r2, 1000, rfl, rfl, (by show (0 : Int) < _; decide), l, _, _, rfl, rfl, fd.2.1, small ns _ hle (by omega), ?_⟩⟩
      refine ⟨_, ns ++ [r2 % 1000], rfl, fd.push hl (mod1000 r2), ?_, (upd_ne (Ne.symm hpl)).trans hpp⟩
      rw [List.length_append]
      simp
      omega
  · subst eσ
    rw [List.length_map] at hle
    refine ⟨_, rfl, c, rfl, by omega, by omega, ?_⟩
    refine for_range (lo := 0) (n := c) (fun j σ H' => ∃ (t : Int) (o6 : Option V) (ns : List Int), σ = [some (.ref a), some (.int c), some (.ref l), some (.int t), o4, o5, o6] ∧ FdAt H H' l ns ∧ ns.length ≤ 60 * 63 + j ∧ min j c ≤ ns.length)
      ⟨t, o6, ns, rfl, fd, by omega, by omega⟩ (fun j σ H' hj ⟨t, o6, ns, eσ, fd, hle, hmin⟩ => ?_) fun σ H' ⟨t, o6, ns, eσ, fd, hle, hmin⟩ => ?_
    · subst eσ
      refine ⟨_, rfl, _, _, rfl, .inl ⟨_, SqL.of fd.2.1, rfl⟩, _, rfl, _, _, rfl, rfl, _, rfl, ?_⟩
      refine ite2 (fun c1 => ?_) (fun c1 => ?_)
      · refine ⟨_, rfl, _, rfl, _, _, rfl, rfl, _, _, rfl, fun r2 _ _ => ?_⟩
        refine ⟨_, rfl, .inl ⟨rfl, _, SqL.of fd.2.1⟩, _, rfl, .inl ⟨r2, rfl, r2, 1000, rfl, rfl, (by show (0 : Int) < _; decide), l, _, _, rfl, rfl, fd.2.1, small ns _ hle (by omega), ?_⟩⟩
        refine ⟨_, _, ns ++ [r2 % 1000], rfl, fd.push hl (mod1000 r2), ?_, ?_⟩
        · rw [List.length_append]
          simp
          omega
        · rw [List.length_append]
          simp
          omega
      · have c2 : ¬ ((ns.map V.int).length : Int) < (c : Int) := fun z => c1 (decide_eq_true z)
        rw [List.length_map] at c2
        exact ⟨t, _, ns, rfl, fd, by omega, by omega⟩
    · subst eσ
      refine ⟨_, rfl, _, rfl, c, rfl, l, _, rfl, SqL.of fd.2.1, fun p2 hp2 => ?_⟩
      have hp3 : H p2 = none := fd.1.non p2 hp2
      rw [cut_take]
      refine q _ p2 (ns.take c) (fd.1.trans (Ext.new hp2 _)) hp3 upd_same ?_ fun n hn => fd.2.2 n (List.mem_of_mem_take hn)
      rw [List.length_take]
      omega
end
end Mint


namespace Mint
open PySem PySem.Spec PyProof.Rows L2 GxR Gx RZ

/-! ### _law_draws, _law_take -/
abbrev kAt : Key := .inr "at"
abbrev kRow : Key := .inr "row"
/-- the draws at d -/
def Draw (H : Hp) (d p : Addr) : Prop := ∃ (at_ : Int) (ns : List Int), H d = some (.dK [(kAt, .int at_), (kRow, .ref p)]) ∧ H p = some (.lst (ns.map V.int)) ∧ 0 ≤ at_ ∧ 0 < ns.length ∧ ns.length ≤ 1000 ∧ ∀ n ∈ ns, 0 ≤ n ∧ n < 1000
theorem Draw.ext {H H1 : Hp} {d p : Addr} (h : Draw H d p) (e : ExtP H H1) : Draw H1 d p := by
  obtain ⟨a, ns, h1, h2, r⟩ := h
  exact ⟨a, ns, e.obj _ _ rfl h1, e.obj _ _ rfl h2, r⟩
theorem Draw.upd {H H1 : Hp} {d p l : Addr} {o : HO} (h : Draw H1 d p) (h0 : Draw H d p) (hl : H l = none) : Draw (upd H1 l o) d p := by
  obtain ⟨_, _, q1, q2, _⟩ := h0
  obtain ⟨a, ns, h1, h2, r⟩ := h
  exact ⟨a, ns, (upd_ne (ne_of_none q1 hl)).trans h1, (upd_ne (ne_of_none q2 hl)).trans h2, r⟩
def spDraws (K : PySem.W.Frag) : Sp := fun vs H Q _ => ∃ (a : Addr) (zs : List Int) (c : Nat), vs = [.ref a, .int c] ∧ SqL K H a (zs.map V.int) ∧ zs.length ≤ 63 ∧ 0 < c ∧ c ≤ 1000 ∧
  ∀ (H' : Hp) (d p : Addr), ExtP H H' → H d = none → H p = none → Draw H' d p → Q (.ref d) H'
def spTake : Sp := fun vs H Q _ => ∃ (d p : Addr) (b : Int), vs = [.ref d, .int b] ∧ Draw H d p ∧ 0 < b ∧ ∀ (H' : Hp) (v : Int), ExtL H H' → Draw H' d p → 0 ≤ v → v < b → Q (.int v) H'
abbrev sDraws : Stmt := top 23
abbrev sTake : Stmt := top 24
theorem scDraws : FnScope ["script", "count"] ["script", "count"] (defScope sDraws) := ⟨rfl, rfl, rfl, by decide +kernel, rfl, by decide +kernel, by decide +kernel⟩
theorem scTake : FnScope ["draws", "bound", "row", "at", "value"] ["draws", "bound"] (defScope sTake) := ⟨rfl, rfl, rfl, by decide +kernel, rfl, by decide +kernel, by decide +kernel⟩
section
variable {P : Program} {w : World} {K : PySem.W.Frag} {mg : Str → Option Value} {base : Heap} {f T : Addr} {fd : FuncData}
theorem ok_draws (F : Fun K "_law_draws" "_law_draws" sDraws f fd) (G : Glb mg) (DN : Def P w K mg base "_law_numbers" 2 ["script", "count"] (spNumbers K)) : FnOk P w K mg base CX0 3 f fd ["script", "count"] (spDraws K) := by
  refine F.ok scDraws (fun vs H Q E h => ?_) (fun cdv A outer s H vs Q E hr h => ?_)
  · obtain ⟨a, zs, c, rfl, _⟩ := h
    rfl
  obtain ⟨a, zs, c, rfl, hS, h63, hc0, hc, q⟩ := h
  have nd := scDraws.nd
  refine ⟨_, (pss_one (ps_ret (pe_disp (pps_cons pe_str pe_int (pps_cons pe_str (pe_c DN (hr) (pa_cons (pv 0) (pa_cons (pv 1) pa_nil))) pps_nil)) (by rfl) (by rfl) (fun z => by cases z) (by decide)))), ?_⟩
  refine fun d hd => ?_
  have e0 : ExtP H (upd H d (.dK [])) := Ext.new hd _
  refine ⟨_, rfl, _, rfl, a, zs, c, rfl, e0.sqL hS, h63, hc, fun H' p ns e1 hp hpl hlen hns => ?_⟩
  have hdK : H' d = some (.dK []) := e1.obj _ _ rfl upd_same
  have hpd : p ≠ d := fun z => by rw [z, upd_same] at hp; cases hp
  refine ⟨hdK, [(kAt, .int 0), (kRow, .ref p)], rfl, (by show 2 ≤ 15; decide), ?_⟩
  refine q _ d p ((e0.trans e1).upd_new hd) hd (e0.non p hp) ⟨0, ns, upd_same, (upd_ne hpd).trans hpl, Int.le_refl 0, by omega, by omega, hns⟩
theorem ok_take (F : Fun K "_law_take" "_law_take" sTake f fd) (G : Glb mg) : FnOk P w K mg base CX0 1 f fd ["draws", "bound"] spTake := by
  refine F.ok scTake (fun vs H Q E h => ?_) (fun cdv A outer s H vs Q E hr h => ?_)
  · obtain ⟨d, p, b, rfl, _⟩ := h
    rfl
  obtain ⟨d, p, b, rfl, ⟨at_, ns, hd, hp, h0, hl0, hl, hns⟩, hb, q⟩ := h
  have nd := scTake.nd
  refine ⟨_, (pss_cons (ps_set (i := 2) nd rfl (Or.inl rfl) (pe_dget (hu_of hr) (pv 0) pe_str (fun _ _ => rfl)))
    (pss_cons (ps_set (i := 3) nd rfl (Or.inl rfl) (pe_dget (hu_of hr) (pv 0) pe_str (fun _ _ => rfl)))
    (pss_cons (ps_dput (hu_of hr) (pv 0) pe_str (pe_op op_add (pv 3) pe_int) rfl)
    (pss_cons (ps_set (i := 4) nd rfl (Or.inl rfl) (pe_op op_add (pe_ix ix_list (pv 2) (pe_op op_mod (pe_callTy call_int1 rfl G.int boot_int (pa_cons (pv 3) pa_nil)) (pe_callB call_len rfl G.len PySem.boot_len (pa_cons (pv 2) pa_nil))) (fun _ _ => rfl)) (pe_op op_fdiv (pv 3) (pe_callB call_len rfl G.len PySem.boot_len (pa_cons (pv 2) pa_nil)))))
    (pss_one (ps_ret (pe_op op_mod (pe_callTy call_int1 rfl G.int boot_int (pa_cons (pv 4) pa_nil)) (pv 1)))))))), ?_⟩
  refine ⟨_, rfl, d, .ref p, rfl, DGet.k (k := kRow) hd, ?_⟩
  refine ⟨_, rfl, d, .int at_, rfl, DGet.k (k := kAt) hd, ?_⟩
  refine ⟨_, rfl, at_, 1, rfl, rfl, _, rfl, d, _, rfl, DPut.k (k := kAt) hd (by show 2 < sizeLine; decide), ?_⟩
  have eL : ExtL H (upd H d (.dK [(kAt, .int (at_ + 1)), (kRow, .ref p)])) := (Ext.refl false H).upd_dK hd
  have hpd : p ≠ d := ne_of hp hd (fun z => by cases z)
  have hp1 : upd H d (.dK [(kAt, .int (at_ + 1)), (kRow, .ref p)]) p = some (.lst (ns.map V.int)) := (upd_ne hpd).trans hp
  have lk : ((ns.map V.int).length : Int) = (ns.length : Int) := by rw [List.length_map]
  have hi0 : 0 ≤ at_ % (ns.length : Int) := Int.emod_nonneg _ (by omega)
  have hi1 : at_ % (ns.length : Int) < ns.length := Int.emod_lt_of_pos _ (by omega)
  have hget : (at_ % (ns.length : Int)).toNat < ns.length := by omega
  have hat : atI (ns.map V.int) (at_ % ((ns.map V.int).length : Int)) = some (.int ns[(at_ % (ns.length : Int)).toNat]) := by
    rw [lk]
    have := atI_nat (xs := ns.map V.int) (j := (at_ % (ns.length : Int)).toNat) (v := .int ns[(at_ % (ns.length : Int)).toNat]) (by rw [List.getElem?_map, List.getElem?_eq_getElem hget]; rfl)
    rw [Int.toNat_of_nonneg hi0] at this
    exact this
  refine ⟨_, rfl, _, rfl, .inl ⟨at_, rfl, _, rfl, .ref p, _, rfl, .inl ⟨_, SqL.of hp1, rfl⟩, _, _, rfl, rfl, (by show (0 : Int) < _; omega), p, _, _, _, rfl, rfl, SqL.of hp1, hat, ?_⟩⟩
  refine ⟨_, rfl, _, rfl, .ref p, _, rfl, .inl ⟨_, SqL.of hp1, rfl⟩, _, _, rfl, rfl, (by constructor <;> omega), ?_⟩
  refine ⟨_, _, rfl, rfl, ?_⟩
  refine ⟨_, rfl, .inl ⟨_, rfl, _, rfl, _, _, rfl, rfl, hb, ?_⟩⟩
  exact q _ _ eL ⟨at_ + 1, ns, upd_same, hp1, by omega, hl0, hl, hns⟩ (Int.emod_nonneg _ (by omega)) (Int.emod_lt_of_pos _ hb)
end
end Mint


namespace Mint
open PySem PySem.Spec PyProof.Rows L2 GxR Gx RZ

/-! ### _law_stock -/
theorem atI_mem {α : Type} {xs : List α} {i : Int} (h0 : 0 ≤ i) (h1 : i < xs.length) : ∃ v, atI xs i = some v ∧ v ∈ xs := by
  have h2 : i.toNat < xs.length := by omega
  refine ⟨xs[i.toNat], ?_, List.getElem_mem h2⟩
  have := atI_nat (xs := xs) (j := i.toNat) (v := xs[i.toNat]) (List.getElem?_eq_getElem h2)
  rw [Int.toNat_of_nonneg h0] at this
  exact this
def spStockL : Sp := fun vs H Q _ => ∃ (d p0 : Addr) (n : Nat) (m : Int), vs = [.ref d, .int n, .int m] ∧ Draw H d p0 ∧ n ≤ 1000 ∧ 0 ≤ m ∧
  ∀ (H' : Hp) (p : Addr) (es : List Int), ExtL H H' → Draw H' d p0 → H p = none → H' p = some (.tup (es.map V.int)) → es.length = n → (∀ e ∈ es, 0 ≤ e ∧ e ≤ m) → Q (.ref p) H'
abbrev sStockL : Stmt := top 26
theorem scStockL : FnScope ["draws", "n", "most", "entries", "k", "entry"] ["draws", "n", "most"] (defScope sStockL) := ⟨rfl, rfl, rfl, by decide +kernel, rfl, by decide +kernel, by decide +kernel⟩
theorem Draw.new {H : Hp} {d p0 p : Addr} {o : HO} (h : Draw H d p0) (hp : H p = none) : Draw (L2.upd H p o) d p0 := h.ext (Ext.new hp o)
section
variable {P : Program} {w : World} {K : PySem.W.Frag} {mg : Str → Option Value} {base : Heap} {f T : Addr} {fd : FuncData}
theorem ok_stockL (F : Fun K "_law_stock" "_law_stock" sStockL f fd) (G : Glb mg) (DT : Def P w K mg base "_law_take" 1 ["draws", "bound"] spTake) : FnOk P w K mg base CX0 2 f fd ["draws", "n", "most"] spStockL := by
  refine F.ok scStockL (fun vs H Q E h => ?_) (fun cdv A outer s H vs Q E hr h => ?_)
  · obtain ⟨d, p0, n, m, rfl, _⟩ := h
    rfl
  obtain ⟨d, p0, n, m, rfl, hD, hn, hm, q⟩ := h
  have nd := scStockL.nd
  refine ⟨_, (pss_cons (ps_set (i := 3) nd rfl (Or.inl rfl) (pe_lst pa_nil))
    (pss_cons (ps_for PassesOwn.never rfl (pi_range1 rfl G.range (pa_cons (pv 1) pa_nil)) (pg_name (i := 4) nd rfl (Or.inl rfl)) (pss_one (ps_expr (pe_bm PySem.F.plainAttrs_list PySem.F.slot_list_append PySem.F.type_list_append mt_append (pv 3) (pa_cons (pe_ix ix_list (pe_lst (pa_cons pe_int (pa_cons pe_int (pa_cons pe_int (pa_cons pe_int (pa_cons (pe_c DT (hr) (pa_cons (pv 0) (pa_cons (pe_op op_add (pv 2) pe_int) pa_nil))) (pa_cons (pv 2) pa_nil))))))) (pe_c DT (hr) (pa_cons (pv 0) (pa_cons pe_int pa_nil))) (fun _ _ => rfl)) pa_nil)))))
    (pss_one (ps_ret (pe_callTy call_tuple_of rfl G.tuple (by decide +kernel) (pa_cons (pe_lc (own := [("entry", 5)]) (g := gName 5) (te := tCB (fun xs H Q => ∃ i j, xs = [.int i, .int j] ∧ Q (.int (if j < i then j else i)) H) (tCons (tVar 2) (tCons (tVar 5) tNil)))  rfl nd (pi_list (pv 3)) (blkOk_by (own := [("entry", 5)]) (N := ["draws", "n", "most", "entries", "k", "entry"]) (sc := defScope sStockL) (by decide +kernel)) (fun _ _ _ _ _ => (pg_name (i := 5) nd rfl (Or.inl rfl))) (fun _ _ _ _ _ => pts_nil) (fun _ _ _ _ _ => (pe_callB (call_min2 rfl) rfl G.min (by decide +kernel) (pa_cons (pv 2) (pa_cons (pv 5) pa_nil))))) pa_nil)))))), ?_⟩
  refine ⟨Nat.zero_le _, fun l hl => ?_⟩
  have e0 : ExtL H (upd H l (.lst [])) := Ext.new hl _
  refine ⟨_, rfl, n, rfl, by omega, by omega, ?_⟩
  refine for_range (lo := 0) (n := n) (fun i σ H' => ∃ (o4 : Option V) (es : List Int), σ = [some (.ref d), some (.int n), some (.int m), some (.ref l), o4, none] ∧ ExtL H H' ∧ Draw H' d p0 ∧ H' l = some (.lst (es.map V.int)) ∧ es.length = i ∧ ∀ e ∈ es, 0 ≤ e)
    ⟨none, [], rfl, e0, hD.new hl, upd_same, rfl, fun e he => by cases he⟩ (fun i σ H' hi ⟨o4, es, eσ, e1, hD1, hl1, hlen, hes⟩ => ?_) fun σ H' ⟨o4, es, eσ, e1, hD1, hl1, hlen, hes⟩ => ?_
  · subst eσ
    refine ⟨_, rfl, .inl ⟨rfl, _, SqL.of hl1⟩, _, rfl, _, rfl, m, 1, rfl, rfl, d, p0, m + 1, rfl, hD1, by omega, fun H2 v e2 hD2 hv0 hv1 => ?_⟩
    refine ⟨_, rfl, (by show 6 ≤ sizeLine; decide), fun p hp => ?_⟩
    refine ⟨_, rfl, d, p0, 6, rfl, hD2.new hp, by decide, fun H3 i6 e3 hD3 h60 h61 => ?_⟩
    have hp3 : H3 p = some (.lst [.int 0, .int 0, .int 1, .int 2, .int v, .int m]) := e3.obj _ _ rfl upd_same
    have e13 : ExtL H' H3 := (e2.trans (Ext.new hp _)).trans e3
    have hl3 : H3 l = some (.lst (es.map V.int)) := e13.obj _ _ rfl hl1
    obtain ⟨x, hx, hmem⟩ := atI_mem (xs := [V.int 0, .int 0, .int 1, .int 2, .int v, .int m]) h60 (by simpa using h61)
    have hxi : ∃ e : Int, x = .int e ∧ 0 ≤ e := by
      simp at hmem
      rcases hmem with z | z | z | z | z
      · exact ⟨_, z, by decide⟩
      · exact ⟨_, z, by decide⟩
      · exact ⟨_, z, by decide⟩
      · exact ⟨_, z, hv0⟩
      · exact ⟨_, z, hm⟩
    obtain ⟨e, rfl, he0⟩ := hxi
    refine ⟨p, _, i6, .int e, rfl, rfl, SqL.of hp3, hx, l, _, _, rfl, rfl, hl3, (by rw [List.length_map]; exact small1000 (by omega)), ?_⟩
    refine ⟨_, es ++ [e], rfl, (e1.trans e13).upd_new hl, hD3.upd hD hl, by rw [upd_same, List.map_append]; rfl, by rw [List.length_append, hlen]; rfl, fun y hy => ?_⟩
    rcases List.mem_append.mp hy with z | z
    · exact hes y z
    · rw [List.mem_singleton.mp z]; exact he0
  · subst eσ
    refine ⟨_, rfl, l, rfl, ⟨_, SqL.of hl1⟩, fun D hD0 => ?_⟩
    refine lc_list (xs := es.map V.int) (fun i H2 => ExtL H' H2 ∧ Draw H2 d p0 ∧ H2 D = some (.lst (((es.map fun e => if e < m then e else m).take i).map V.int))) ⟨Ext.new hD0 _, hD1.new hD0, upd_same⟩ (fun i H2 _ p => p.1.sqL (SqL.of hl1)) (fun i x H2 hx ⟨e2, hD2, hD3⟩ => ?_) fun H2 ⟨e2, hD2, hD3⟩ => ?_
    · rw [List.getElem?_map, Option.map_eq_some_iff] at hx
      obtain ⟨e, he, rfl⟩ := hx
      refine ⟨rfl, _, rfl, _, rfl, m, e, rfl, _, hD3, ?_, e2.upd_new hD0, hD2.upd hD1 hD0, ?_⟩
      · rw [List.length_map, List.length_take, List.length_map]
        exact small1000 (by omega)
      · rw [upd_same, List.take_add_one, List.getElem?_map, he]
        simp
    · rw [List.length_map, ← List.length_map (f := fun e => if e < m then e else m), List.take_length] at hD3
      refine ⟨D, _, rfl, .inl ⟨SqL.of hD3, fun p hp => ?_⟩⟩
      refine q _ p (es.map fun e => if e < m then e else m) ((e1.trans e2).upd_new ((e1.trans e2).non p hp)) (hD2.upd hD2 hp) ((e1.trans e2).non p hp) upd_same (by rw [List.length_map, hlen]) fun y hy => ?_
      obtain ⟨e, he, rfl⟩ := List.mem_map.mp hy
      have := hes e he
      show 0 ≤ (if e < m then e else m) ∧ (if e < m then e else m) ≤ m
      split <;> omega
end
end Mint


namespace Mint
open PySem PySem.Spec PyProof.Rows L2 GxR Gx RZ

/-! ### _law_named -/
theorem cps_app (a b : Str) : (a ++ b).cps.toList = a.cps.toList ++ b.cps.toList := by
  show (a.cps ++ b.cps).toList = _
  simp
theorem str_ext {a b : Str} (h : a.cps.toList = b.cps.toList) : a = b := by
  obtain ⟨a⟩ := a
  obtain ⟨b⟩ := b
  exact congrArg Str.mk (Array.toList_inj.mp h)
theorem str_len (a : Str) : a.length = a.cps.toList.length := by
  show a.cps.size = _
  simp
theorem join_signs (cs : List Nat) : (Txt.join "" (cs.map fun c => ⟨#[c]⟩)).cps.toList = cs := by
  have e : (Str.ofString "" : Str) = Str.empty := by decide +kernel
  rw [e]
  unfold Txt.join
  rw [StrLaws.glued_eq_join]
  induction cs with
  | nil => rfl
  | cons c r ih =>
    cases r with
    | nil => rfl
    | cons d r =>
      show ((⟨#[c]⟩ ++ Str.empty) ++ Str.join Str.empty ((d :: r).map fun c => (⟨#[c]⟩ : Str))).cps.toList = _
      rw [cps_app, cps_app, ih]
      rfl
/-- a name that was drawn, the i-th one -/
def GoodName (i : Nat) (x : Str) : Prop := ∃ (c0 : Nat) (cs : List Nat), x.cps.toList = c0 :: (cs ++ [97 + i]) ∧ c0 ∈ lettersS.cps.toList ∧ (∀ c ∈ cs, c ∈ signsS.cps.toList) ∧ cs.length ≤ 9 ∧ cs.length ≠ 5
theorem GoodName.inj {i j : Nat} {x : Str} (h : GoodName i x) (h2 : GoodName j x) : i = j := by
  obtain ⟨c0, cs, e, _⟩ := h
  obtain ⟨d0, ds, e2, _⟩ := h2
  rw [e] at e2
  have e3 := congrArg List.getLast? e2
  rw [← List.cons_append, ← List.cons_append, List.getLast?_concat, List.getLast?_concat] at e3
  have := Option.some.inj e3
  omega
theorem GoodName.small {i : Nat} {x : Str} (h : GoodName i x) : x.length ≤ sizeLine := by
  obtain ⟨c0, cs, e, _, _, h9, _⟩ := h
  rw [str_len, e, sizeLine_eq]
  simp
  omega
theorem GoodName.name {i : Nat} {x : Str} (hi : i < 14) (h : GoodName i x) : fNameS x = true := by
  obtain ⟨c0, cs, e, h0, hs, h9, h5⟩ := h
  have hl : x.length = cs.length + 2 := by rw [str_len, e]; simp
  have sub : ∀ c, c ∈ lettersS.cps.toList → okSign c = true := by decide +kernel
  have last : okSign (97 + i) = true := by
    have all : ∀ j : Fin 14, okSign (97 + j.val) = true := by decide +kernel
    exact all ⟨i, hi⟩
  have ne : ∀ y : Str, y.cps.toList ≠ c0 :: (cs ++ [97 + i]) → (y == x) = false := fun y hy => by
    rw [beq_eq_false_iff_ne]
    intro z
    exact hy (by rw [z, e])
  have ends : ∀ (l : List Nat) (z : Nat), l.getLast? = some z → z ≠ 97 + i → l ≠ c0 :: (cs ++ [97 + i]) := fun l z h1 h2 h3 => by
    rw [h3, ← List.cons_append, List.getLast?_concat] at h1
    exact h2 (Option.some.inj h1).symm
  have lens : ∀ (l : List Nat), l.length ≠ cs.length + 2 → l ≠ c0 :: (cs ++ [97 + i]) := fun l h1 h3 => h1 (by rw [h3]; simp)
  have res : inV (.str x) reservedV = false := by
    show ((eqV (.str "kinds") (.str x)) || ((eqV (.str "nothing") (.str x)) || ((eqV (.str "endless") (.str x)) || ((eqV (.str "x") (.str x)) || false)))) = false
    have k1 : eqV (.str "kinds") (.str x) = false := ne "kinds" (ends _ 115 (by decide +kernel) (by omega))
    have n7 : (Str.ofString "nothing").cps.toList.length = 7 := by decide +kernel
    have n1 : (Str.ofString "x").cps.toList.length = 1 := by decide +kernel
    have k2 : eqV (.str "nothing") (.str x) = false := ne "nothing" (lens _ (by rw [n7]; omega))
    have k3 : eqV (.str "endless") (.str x) = false := ne "endless" (ends _ 115 (by decide +kernel) (by omega))
    have k4 : eqV (.str "x") (.str x) = false := ne "x" (lens _ (by rw [n1]; omega))
    rw [k1, k2, k3, k4]
    rfl
  unfold fNameS
  rw [e, res, hl, decide_eq_true (by omega), decide_eq_true (by omega)]
  simp only [Bool.not_false, Bool.and_true, Bool.true_and]
  rw [decide_eq_true h0, Bool.true_and, List.all_cons, sub c0 h0, Bool.true_and, List.all_append, List.all_cons, last]
  simp only [List.all_nil, Bool.and_true]
  exact List.all_eq_true.mpr fun c hc => decide_eq_true (hs c hc)
def spNamed : Sp := fun vs H Q _ => ∃ (d p0 : Addr), vs = [.ref d] ∧ Draw H d p0 ∧ ∀ (H' : Hp) (p : Addr) (xs : List Str), ExtL H H' → Draw H' d p0 → H p = none → H' p = some (.lst (xs.map V.str)) → xs.length = 14 → (∀ i x, xs[i]? = some x → GoodName i x) → Q (.ref p) H'
abbrev sNamed : Stmt := top 25
theorem scNamed : FnScope ["draws", "small", "names", "k", "size", "rest", "n"] ["draws"] (defScope sNamed) := ⟨rfl, rfl, rfl, by decide +kernel, rfl, by decide +kernel, by decide +kernel⟩
section
variable {P : Program} {w : World} {K : PySem.W.Frag} {mg : Str → Option Value} {base : Heap} {f T : Addr} {fd : FuncData}
theorem ok_named (F : Fun K "_law_named" "_law_named" sNamed f fd) (G : Glb mg) (DT : Def P w K mg base "_law_take" 1 ["draws", "bound"] spTake) : FnOk P w K mg base CX0 2 f fd ["draws"] spNamed := by
  refine F.ok scNamed (fun vs H Q E h => ?_) (fun cdv A outer s H vs Q E hr h => ?_)
  · obtain ⟨d, p0, rfl, _⟩ := h
    rfl
  obtain ⟨d, p0, rfl, hD, q⟩ := h
  have nd := scNamed.nd
  refine ⟨_, (pss_cons (ps_set (i := 1) nd rfl (Or.inr rfl) pe_str)
    (pss_cons (ps_set (i := 2) nd rfl (Or.inl rfl) (pe_lst pa_nil))
    (pss_cons (ps_for PassesOwn.never rfl (pi_range1 rfl G.range (pa_cons pe_int pa_nil)) (pg_name (i := 3) nd rfl (Or.inl rfl)) (pss_cons (ps_set (i := 4) nd rfl (Or.inl rfl) (pe_ix ix_list (pe_lst (pa_cons pe_int (pa_cons pe_int (pa_cons pe_int (pa_cons pe_int (pa_cons pe_int pa_nil)))))) (pe_c DT (hr) (pa_cons (pv 0) (pa_cons pe_int pa_nil))) (fun _ _ => rfl)))
    (pss_cons (ps_set (i := 5) nd rfl (Or.inl rfl) (pe_join pe_str (pe_lc (own := [("n", 6)]) (g := gName 6) (te := tOp rIxS (tOp (fun x y H Q => ∃ i j, x = V.str i ∧ y = V.str j ∧ i.length + j.length ≤ sizeLine ∧ Q (V.str (i ++ j)) H) (tVar 1) (tC (.str "0123456789"))) (tCall spTake [] E0 (tCons (tVar 0) (tCons (tC (.int 36)) tNil))))  rfl nd (pi_range1 rfl G.range (pa_cons (pv 4) pa_nil)) (blkOk_by (own := [("n", 6)]) (N := ["draws", "small", "names", "k", "size", "rest", "n"]) (sc := defScope sNamed) (by decide +kernel)) (fun _ _ _ _ _ => (pg_name (i := 6) nd rfl (Or.inl rfl))) (fun _ _ _ _ _ => pts_nil) (fun _ _ _ _ _ => (pe_ix ix_str (pe_op op_add_str (pv 1) pe_str) (pe_c DT (hr) (pa_cons (pv 0) (pa_cons pe_int pa_nil))) (fun _ _ => rfl))))))
    (pss_one (ps_expr (pe_bm PySem.F.plainAttrs_list PySem.F.slot_list_append PySem.F.type_list_append mt_append (pv 2) (pa_cons (pe_op op_add_str (pe_op op_add_str (pe_ix ix_str (pv 1) (pe_c DT (hr) (pa_cons (pv 0) (pa_cons pe_int pa_nil))) (fun _ _ => rfl)) (pv 5)) (pe_ix ix_str pe_str (pv 3) (fun _ _ => rfl))) pa_nil)))))))
    (pss_one (ps_ret (pv 2)))))), ?_⟩
  refine ⟨Nat.zero_le _, fun l hl => ?_⟩
  have e0 : ExtL H (upd H l (.lst [])) := Ext.new hl _
  have hsz : ∀ n : Nat, n ≤ 1000 → n ≤ sizeLine := fun n hn => Nat.le_of_lt (small1000 hn)
  have lS : lettersS.cps.toList.length = 26 := by decide +kernel
  have lC : (lettersS ++ (Str.ofString "0123456789")).cps.toList = signsS.cps.toList := by decide +kernel
  have lD : signsS.cps.toList.length = 36 := by decide +kernel
  have tail : ∀ j : Fin 14, atI (Str.ofString "abcdefghijklmn").cps.toList (0 + (j.val : Int)) = some (97 + j.val) := by decide +kernel
  refine ⟨14, rfl, by decide, by decide, ?_⟩
  refine for_range (lo := 0) (n := 14) (fun i σ H' => ∃ (o3 o4 o5 : Option V) (xs : List Str), σ = [some (.ref d), some (.str lettersS), some (.ref l), o3, o4, o5, none] ∧ ExtL H H' ∧ Draw H' d p0 ∧ H' l = some (.lst (xs.map V.str)) ∧ xs.length = i ∧ ∀ j x, xs[j]? = some x → GoodName j x)
    ⟨none, none, none, [], rfl, e0, hD.new hl, upd_same, rfl, fun j x hx => by simp at hx⟩ (fun i σ H' hi ⟨o3, o4, o5, xs, eσ, e1, hD1, hl1, hlen, hxs⟩ => ?_) fun σ H' ⟨o3, o4, o5, xs, eσ, e1, hD1, hl1, hlen, hxs⟩ => ?_
  · subst eσ
    refine ⟨hsz 5 (by decide), fun p hp => ?_⟩
    refine ⟨_, rfl, d, p0, 5, rfl, hD1.new hp, by decide, fun H2 i5 e2 hD2 h50 h51 => ?_⟩
    have hp2 : H2 p = some (.lst [.int 0, .int 0, .int 1, .int 2, .int 9]) := e2.obj _ _ rfl upd_same
    obtain ⟨x, hx, hmem⟩ := atI_mem (xs := [V.int 0, .int 0, .int 1, .int 2, .int 9]) h50 (by simpa using h51)
    have hxi : ∃ e : Nat, x = .int (e : Int) ∧ e ≤ 9 ∧ e ≠ 5 := by
      simp at hmem
      rcases hmem with z | z | z | z
      · exact ⟨0, z, by decide⟩
      · exact ⟨1, z, by decide⟩
      · exact ⟨2, z, by decide⟩
      · exact ⟨9, z, by decide⟩
    obtain ⟨sz, rfl, hz9, hz5⟩ := hxi
    have e02 : ExtL H' H2 := (Ext.new hp _).trans e2
    refine ⟨p, _, i5, .int sz, rfl, rfl, SqL.of hp2, hx, ?_⟩
    -- rest
    refine ⟨⟨_, rfl⟩, _, rfl, (sz : Int), rfl, by omega, by omega, fun D hD0 => ?_⟩
    have zt : ((sz : Int)).toNat = sz := Int.toNat_natCast sz
    rw [zt]
    refine lc_range (lo := 0) (n := sz) (fun j H3 => ExtL H2 H3 ∧ Draw H3 d p0 ∧ ∃ cs : List Nat, H3 D = some (.lst ((cs.map fun c => (⟨#[c]⟩ : Str)).map V.str)) ∧ cs.length = j ∧ ∀ c ∈ cs, c ∈ signsS.cps.toList) ⟨Ext.new hD0 _, hD2.new hD0, [], upd_same, rfl, fun c hc => by cases hc⟩ (fun j H3 hj ⟨e3, hD3, cs, hcs, hcl, hcm⟩ => ?_) fun H3 ⟨e3, hD3, cs, hcs, hcl, hcm⟩ => ?_
    · refine ⟨rfl, _, rfl, lettersS, Str.ofString "0123456789", rfl, rfl, (by rw [str_len, str_len, lS]; exact hsz _ (by decide +kernel)), _, rfl, d, p0, 36, rfl, hD3, by decide, fun H4 v e4 hD4 hv0 hv1 => ?_⟩
      obtain ⟨c, hc, hcm2⟩ := atI_mem (xs := signsS.cps.toList) hv0 (by rw [lD]; exact hv1)
      have hcs4 : H4 D = some (.lst ((cs.map fun c => (⟨#[c]⟩ : Str)).map V.str)) := e4.obj _ _ rfl hcs
      refine ⟨_, v, c, rfl, rfl, (by rw [str_len, lC, lD]; exact hsz _ (by decide)), (by rw [lC]; exact hc), _, hcs4, ?_, (e3.trans e4).upd_new hD0, hD4.upd hD2 hD0, cs ++ [c], ?_, ?_, fun y hy => ?_⟩
      · rw [List.length_map, List.length_map]
        exact small1000 (by omega)
      · rw [upd_same, List.map_append, List.map_append]
        rfl
      · rw [List.length_append, hcl]
        rfl
      · rcases List.mem_append.mp hy with z | z
        · exact hcm y z
        · rw [List.mem_singleton.mp z]; exact hcm2
    refine ⟨_, D, _, rfl, rfl, .inl (SqL.of hcs), ?_, ?_⟩
    · have : ∀ l : List Nat, ((l.map fun c => (⟨#[c]⟩ : Str)).map (·.length)).sum = l.length := by
        intro l
        induction l with
        | nil => rfl
        | cons c r ih =>
          rw [List.map_cons, List.map_cons, List.sum_cons, ih, List.length_cons]
          show 1 + r.length = _
          omega
      have z0 : (Str.ofString "").length = 0 := by decide +kernel
      rw [this, z0]
      omega
    -- the name
    refine ⟨_, rfl, .inl ⟨rfl, _, SqL.of (e3.obj _ _ rfl (e02.obj _ _ rfl hl1))⟩, _, rfl, _, rfl, d, p0, 26, rfl, hD3, by decide, fun H4 v e4 hD4 hv0 hv1 => ?_⟩
    obtain ⟨c0, hc0, hm0⟩ := atI_mem (xs := lettersS.cps.toList) hv0 (by rw [lS]; exact hv1)
    have ej := join_signs cs
    have lj : (Txt.join "" (cs.map fun c => ⟨#[c]⟩)).length = cs.length := by rw [str_len, ej]
    have e14 : ExtL H' H4 := (e02.trans e3).trans e4
    have hl4 : H4 l = some (.lst (xs.map V.str)) := e14.obj _ _ rfl hl1
    refine ⟨lettersS, v, c0, rfl, rfl, (by rw [str_len, lS]; exact hsz _ (by decide)), hc0, _, rfl, ⟨#[c0]⟩, _, rfl, rfl, ?_, _, rfl, _, _, 97 + i, rfl, rfl, ?_, tail ⟨i, hi⟩, _, _, rfl, rfl, ?_, l, _, _, rfl, rfl, hl4, ?_, ?_⟩
    · rw [lj]
      exact hsz _ (by show 1 + cs.length ≤ 1000; omega)
    · have l14 : (Str.ofString "abcdefghijklmn").length = 14 := by decide +kernel
      rw [l14]
      exact hsz _ (by decide)
    · rw [str_len, cps_app, List.length_append, ej]
      exact hsz _ (by show (1 + cs.length) + 1 ≤ 1000; omega)
    · rw [List.length_map]
      exact small1000 (by omega)
    have gn : GoodName i ((⟨#[c0]⟩ ++ Txt.join "" (cs.map fun c => ⟨#[c]⟩)) ++ ⟨#[97 + i]⟩) := by
      refine ⟨c0, cs, ?_, hm0, hcm, by omega, by omega⟩
      rw [cps_app, cps_app, ej]
      rfl
    refine ⟨_, _, _, xs ++ [_], rfl, (e1.trans e14).upd_new hl, hD4.upd hD hl, by rw [upd_same, List.map_append]; rfl, by rw [List.length_append, hlen]; rfl, fun j x hx => ?_⟩
    rcases Nat.lt_or_ge j xs.length with h | h
    · rw [List.getElem?_append_left h] at hx
      exact hxs j x hx
    · rw [List.getElem?_append_right h] at hx
      have hj : j - xs.length = 0 := by
        have := (List.getElem?_eq_some_iff.mp hx).1
        simp at this
        omega
      rw [hj] at hx
      have ex : _ = x := Option.some.inj hx
      rw [← ex, show j = i by omega]
      exact gn
  · subst eσ
    exact ⟨_, rfl, q _ l xs e1 hD1 hl hl1 hlen hxs⟩
end
end Mint


namespace Mint
open PySem PySem.Spec PyProof.Rows L2 GxR Gx RZ

/-! ### _law_book -/
theorem cut_upto (xs : List V) (k : Nat) : cutV xs none (some (k : Int)) = xs.take k := by
  unfold cutV
  rw [HT.sIx_none, HT.sIx_nat, List.drop_zero, Nat.sub_zero]
  rcases Nat.le_total k xs.length with h | h
  · rw [Nat.min_eq_left h]
  · rw [Nat.min_eq_right h, List.take_of_length_le (Nat.le_refl _), List.take_of_length_le h]
abbrev intsD (es : List Int) : PyData := .tuple (es.map PyData.int)
structure Mv where
  name : Str
  take : List Int
  low : List Int
  high : List Int
def moveD (m : Mv) : PyData := .tuple [.str m.name, intsD m.take, intsD m.low, intsD m.high]
def Small (n : Nat) (top : Int) (es : List Int) : Prop := es.length = n ∧ ∀ e ∈ es, 0 ≤ e ∧ e ≤ top
structure GoodMv (n j : Nat) (m : Mv) : Prop where
  name : GoodName (6 + j) m.name
  take : Small n 1000 m.take
  low : Small n 1000 m.low
  high : Small n 1000 m.high
  le : (List.zipWith (fun a b => decide (a ≤ b)) m.low m.high).all id = true
structure GoodBk (kn : List Str) (mv : List Mv) : Prop where
  one : 1 ≤ kn.length
  six : kn.length ≤ 6
  eight : mv.length ≤ 8
  kinds : ∀ i x, kn[i]? = some x → GoodName i x
  moves : ∀ j m, mv[j]? = some m → GoodMv kn.length j m
abbrev bkD (kn : List Str) (mv : List Mv) : PyData := bookD (kn.map PyData.str) (mv.map moveD)
theorem dp_ints {K : PySem.W.Frag} {H : Hp} : ∀ es : List Int, DpAll K H (es.map V.int) (es.map PyData.int)
  | [] => .nil
  | e :: r => .cons (.int e) (dp_ints r)
theorem dp_strs {K : PySem.W.Frag} {H : Hp} : ∀ es : List Str, DpAll K H (es.map V.str) (es.map PyData.str)
  | [] => .nil
  | e :: r => .cons (.str e) (dp_strs r)
theorem dp_app {K : PySem.W.Frag} {H : Hp} : ∀ {xs ys : List V} {ds es : List PyData}, DpAll K H xs ds → DpAll K H ys es → DpAll K H (xs ++ ys) (ds ++ es)
  | _, _, _, _, .nil, h => h
  | _, _, _, _, .cons a t, h => .cons a (dp_app t h)
mutual
def noLst : PyData → Bool
  | .list _ => false
  | .tuple ds => noLsts ds
  | _ => true
def noLsts : List PyData → Bool
  | [] => true
  | d :: r => noLst d && noLsts r
end
section
variable {K : PySem.W.Frag} {H : Hp} {l : Addr} {xs : List V} {o : HO}
theorem sqT_upd {a : Addr} {ys : List V} (hl : H l = some (.lst xs)) (h : SqT K H a ys) : SqT K (upd H l o) a ys := by
  rcases h with (h | ⟨ob, h⟩) | h
  · exact .inl (.inl ((upd_ne (ne_of h hl fun z => by cases z)).trans h))
  · exact .inl (.inr ⟨ob, (upd_ne (ne_of h hl fun z => by cases z)).trans h⟩)
  · exact .inr h
mutual
theorem dp_upd (hl : H l = some (.lst xs)) : ∀ {d : PyData} {v : V}, noLst d = true → Dp K H v d → Dp K (upd H l o) v d
  | _, _, _, .non => .non
  | _, _, _, .bl b => .bl b
  | _, _, _, .int i => .int i
  | _, _, _, .str x => .str x
  | _, _, n, .lst h t => by cases n
  | _, _, n, .tup h t => .tup (sqT_upd hl h) (dps_upd hl n t)
theorem dps_upd (hl : H l = some (.lst xs)) : ∀ {ds : List PyData} {vs : List V}, noLsts ds = true → DpAll K H vs ds → DpAll K (upd H l o) vs ds
  | _, _, _, .nil => .nil
  | _, _, n, .cons h t => by
    have n' : noLst _ = true ∧ noLsts _ = true := Bool.and_eq_true_iff.mp n
    exact .cons (dp_upd hl n'.1 h) (dps_upd hl n'.2 t)
end
end
theorem noLsts_ints : ∀ es : List Int, noLsts (es.map PyData.int) = true
  | [] => rfl
  | _ :: r => noLsts_ints r
theorem noLsts_strs : ∀ es : List Str, noLsts (es.map PyData.str) = true
  | [] => rfl
  | _ :: r => noLsts_strs r
theorem noLst_move (m : Mv) : noLst (moveD m) = true := by
  show (noLst (.str m.name) && (noLst (intsD m.take) && (noLst (intsD m.low) && (noLst (intsD m.high) && true)))) = true
  have h : ∀ es, noLst (intsD es) = true := noLsts_ints
  rw [h, h, h]
  rfl
theorem noLsts_moves : ∀ mv : List Mv, noLsts (mv.map moveD) = true
  | [] => rfl
  | m :: r => by
    show (noLst (moveD m) && noLsts (r.map moveD)) = true
    rw [noLst_move, noLsts_moves r]
    rfl
theorem zip_self (es : List Int) : (List.zipWith (fun a b => decide (a ≤ b)) es es).all id = true := by
  induction es with
  | nil => rfl
  | cons a r ih => simp [ih]
theorem zip_le : ∀ (xs ys : List Int), (∀ (u : Nat) (a b : Int), xs[u]? = some a → ys[u]? = some b → a ≤ b) → (List.zipWith (fun a b => decide (a ≤ b)) xs ys).all id = true
  | [], _, _ => by simp
  | _ :: _, [], _ => by simp
  | x :: xs, y :: ys, h => by
    rw [List.zipWith_cons_cons, List.all_cons, zip_le xs ys fun u a b ha hb => h (u + 1) a b (by simpa using ha) (by simpa using hb)]
    simp only [id_eq, Bool.and_true, decide_eq_true_eq]
    exact h 0 x y rfl rfl
def spBookL (K : PySem.W.Frag) : Sp := fun vs H Q _ => ∃ (d p0 : Addr) (m : Int), vs = [.ref d, .int m] ∧ Draw H d p0 ∧ 0 ≤ m ∧ m ≤ 1000 ∧
  ∀ (H' : Hp) (b : V) (kn : List Str) (mv : List Mv), ExtL H H' → Draw H' d p0 → Dp K H' b (bkD kn mv) → GoodBk kn mv → Q b H'
abbrev sBookL : Stmt := top 27
theorem scBookL : FnScope ["draws", "most", "names", "n", "moves", "k", "take", "high", "low", "entry"] ["draws", "most"] (defScope sBookL) := ⟨rfl, rfl, rfl, by decide +kernel, rfl, by decide +kernel, by decide +kernel⟩
section
variable {P : Program} {w : World} {K : PySem.W.Frag} {mg : Str → Option Value} {base : Heap} {f T : Addr} {fd : FuncData}
theorem ok_bookL (F : Fun K "_law_book" "_law_book" sBookL f fd) (G : Glb mg) (DT : Def P w K mg base "_law_take" 1 ["draws", "bound"] spTake) (DN : Def P w K mg base "_law_named" 2 ["draws"] spNamed) (DS : Def P w K mg base "_law_stock" 2 ["draws", "n", "most"] spStockL) :
    FnOk P w K mg base CX0 3 f fd ["draws", "most"] (spBookL K) := by
  refine F.ok scBookL (fun vs H Q E h => ?_) (fun cdv A outer s H vs Q E hr h => ?_)
  · obtain ⟨d, p0, m, rfl, _⟩ := h
    rfl
  obtain ⟨d, p0, m, rfl, hD, hm0, hm1, q⟩ := h
  have nd := scBookL.nd
  refine ⟨_, (pss_cons (ps_set (i := 2) nd rfl (Or.inl rfl) (pe_c DN (hr) (pa_cons (pv 0) pa_nil)))
    (pss_cons (ps_set (i := 3) nd rfl (Or.inl rfl) (pe_op op_add pe_int (pe_c DT (hr.mono (by decide)) (pa_cons (pv 0) (pa_cons pe_int pa_nil)))))
    (pss_cons (ps_set (i := 4) nd rfl (Or.inl rfl) (pe_lst pa_nil))
    (pss_cons (ps_for PassesOwn.never rfl (pi_range1 rfl G.range (pa_cons (pe_c DT (hr.mono (by decide)) (pa_cons (pv 0) (pa_cons pe_int pa_nil))) pa_nil)) (pg_name (i := 5) nd rfl (Or.inl rfl)) (pss_cons (ps_set (i := 6) nd rfl (Or.inl rfl) (pe_c DS (hr) (pa_cons (pv 0) (pa_cons (pv 3) (pa_cons (pv 1) pa_nil)))))
    (pss_cons (ps_set (i := 7) nd rfl (Or.inl rfl) (pe_c DS (hr) (pa_cons (pv 0) (pa_cons (pv 3) (pa_cons (pv 1) pa_nil)))))
    (pss_cons (ps_set (i := 8) nd rfl (Or.inl rfl) (pv 7))
    (pss_cons (ps_if (pt_cmpR op_eq (pe_c DT (hr.mono (by decide)) (pa_cons (pv 0) (pa_cons pe_int pa_nil))) pe_int (nomark _)) (pss_one (ps_set (i := 8) nd rfl (Or.inl rfl) (pe_callTy call_tuple_of rfl G.tuple (by decide +kernel) (pa_cons (pe_lc (own := [("entry", 9)]) (g := gName 9) (te := tCall spTake [] E0 (tCons (tVar 0) (tCons (tOp (rI0 fun i j => .int (i + j)) (tVar 9) (tC (.int 1))) tNil)))  rfl nd (pi_tup (pv 7)) (blkOk_by (own := [("entry", 9)]) (N := ["draws", "most", "names", "n", "moves", "k", "take", "high", "low", "entry"]) (sc := defScope sBookL) (by decide +kernel)) (fun _ _ _ _ _ => (pg_name (i := 9) nd rfl (Or.inl rfl))) (fun _ _ _ _ _ => pts_nil) (fun _ _ _ _ _ => (pe_c DT (hr.mono (by decide)) (pa_cons (pv 0) (pa_cons (pe_op op_add (pv 9) pe_int) pa_nil))))) pa_nil)))) pss_nil)
    (pss_one (ps_expr (pe_bm PySem.F.plainAttrs_list PySem.F.slot_list_append PySem.F.type_list_append mt_append (pv 4) (pa_cons (pe_tup (pa_cons (pe_ix ix_list (pv 2) (pe_op op_add pe_int (pv 5)) (fun _ _ => rfl)) (pa_cons (pv 6) (pa_cons (pv 8) (pa_cons (pv 7) pa_nil))))) pa_nil)))))))))
    (pss_one (ps_ret (pe_tup (pa_cons (pe_callTy call_tuple_of rfl G.tuple (by decide +kernel) (pa_cons (pe_slice sl_list (pv 2) po_none (po_some (pv 3))) pa_nil)) (pa_cons (pe_callTy call_tuple_of rfl G.tuple (by decide +kernel) (pa_cons (pv 4) pa_nil)) pa_nil))))))))), ?_⟩
  refine ⟨_, rfl, d, p0, rfl, hD, fun H1 pn xs e1 hD1 hpn hnm hx14 hxs => ?_⟩
  refine ⟨_, rfl, d, p0, 6, rfl, hD1, by decide, fun H2 v6 e2 hD2 hv0 hv1 => ?_⟩
  refine ⟨1, v6, rfl, rfl, ?_⟩
  obtain ⟨n, hn⟩ : ∃ n : Nat, 1 + v6 = (n : Int) := ⟨(1 + v6).toNat, by omega⟩
  show gName 3 (V.int (1 + v6)) _ _ _
  rw [hn]
  have hn1 : 1 ≤ n := by omega
  have hn6 : n ≤ 6 := by omega
  refine ⟨Nat.zero_le _, fun l hl => ?_⟩
  have e02 : ExtL H H2 := e1.trans e2
  have hlH : H l = none := e02.non l hl
  have e03 : ExtL H (upd H2 l (.lst [])) := e02.trans (Ext.new hl _)
  have hnm2 : H2 pn = some (.lst (xs.map V.str)) := e2.obj _ _ rfl hnm
  refine ⟨_, rfl, d, p0, 9, rfl, hD2.new hl, by decide, fun H3 v9 e3 hD3 hw0 hw1 => ⟨v9, rfl, by omega, by omega, ?_⟩⟩
  obtain ⟨c9, hc9⟩ : ∃ c : Nat, v9 = (c : Int) := ⟨v9.toNat, by omega⟩
  have hc8 : c9 ≤ 8 := by omega
  subst hc9
  rw [Int.toNat_natCast]
  refine for_range (lo := 0) (n := c9) (fun i σ H' => ∃ (o5 o6 o7 o8 : Option V) (rs : List V) (mv : List Mv), σ = [some (.ref d), some (.int m), some (.ref pn), some (.int n), some (.ref l), o5, o6, o7, o8, none] ∧ ExtL H2 H' ∧ Draw H' d p0 ∧ H' l = some (.lst rs) ∧ DpAll K H' rs (mv.map moveD) ∧ mv.length = i ∧ (∀ j m, mv[j]? = some m → GoodMv n j m))
    ⟨none, none, none, none, [], [], rfl, (Ext.new hl _).trans e3, hD3, e3.obj _ _ rfl upd_same, .nil, rfl, fun j m hj => by simp at hj⟩ (fun i σ H' hi ⟨o5, o6, o7, o8, rs, mv, eσ, e4, hD4, hl4, hdp, hlen, hmv⟩ => ?_) fun σ H' ⟨o5, o6, o7, o8, rs, mv, eσ, e4, hD4, hl4, hdp, hlen, hmv⟩ => ?_
  · subst eσ
    have hll : H2 l = none := hl
    refine ⟨_, rfl, _, rfl, _, rfl, d, p0, n, m, rfl, hD4, by omega, hm0, fun H5 pt ts e5 hD5 hpt ht1 ht2 ht3 => ?_⟩
    refine ⟨_, rfl, _, rfl, _, rfl, d, p0, n, m, rfl, hD5, by omega, hm0, fun H6 ph hs e6 hD6 hph hh1 hh2 hh3 => ?_⟩
    refine ⟨_, rfl, ?_⟩
    refine ⟨_, rfl, d, p0, 3, rfl, hD6, by decide, fun H7 v3 e7 hD7 hv30 hv31 => ⟨rfl, _, rfl, ?_⟩⟩
    have e47 : ExtL H' H7 := (e5.trans e6).trans e7
    have eAll : ExtL H H7 := (e02.trans e4).trans e47
    have tk7 : H7 pt = some (.tup (ts.map V.int)) := (e6.trans e7).obj _ _ rfl ht1
    have hg7 : H7 ph = some (.tup (hs.map V.int)) := e7.obj _ _ rfl hh1
    have sT : Small n 1000 ts := ⟨ht2, fun e he => ⟨(ht3 e he).1, Int.le_trans (ht3 e he).2 hm1⟩⟩
    have sH : Small n 1000 hs := ⟨hh2, fun e he => ⟨(hh3 e he).1, Int.le_trans (hh3 e he).2 hm1⟩⟩
    -- what the turn ends with, once low is there
    have fin : ∀ (H8 : Hp) (pl : Addr) (ls : List Int), ExtL H7 H8 → Draw H8 d p0 → H8 pl = some (.tup (ls.map V.int)) → Small n 1000 ls → (List.zipWith (fun a b => decide (a ≤ b)) ls hs).all id = true → ∀ (R : Hp → Prop),
        (∀ H9 r, ExtL H7 H9 → Draw H9 d p0 → H9 l = some (.lst rs) → Dp K H9 (.ref r) (moveD ⟨(xs.getD (6 + i) Str.empty), ts, ls, hs⟩) → R (upd H9 l (.lst (rs ++ [.ref r])))) → ∃ y, atI (xs.map V.str) (6 + (0 + (i : Int))) = some y ∧ ∀ r, H8 r = none → R (upd (upd H8 r (.tup [y, .ref pt, .ref pl, .ref ph])) l (.lst (rs ++ [.ref r]))) := by
      intro H8 pl ls e8 hD8 hpl sL hle R hR
      have h14 : 6 + i < xs.length := by omega
      have hx : xs[6 + i]? = some (xs.getD (6 + i) Str.empty) := by rw [List.getD_eq_getElem?_getD, List.getElem?_eq_getElem h14]; rfl
      refine ⟨.str (xs.getD (6 + i) Str.empty), ?_, fun r hr => ?_⟩
      · have := atI_nat (xs := xs.map V.str) (j := 6 + i) (v := .str (xs.getD (6 + i) Str.empty)) (by rw [List.getElem?_map, hx]; rfl)
        rw [show (6 + (0 + (i : Int)) : Int) = ((6 + i : Nat) : Int) by omega]
        exact this
      · have e9 : ExtL H8 (upd H8 r (.tup [.str (xs.getD (6 + i) Str.empty), .ref pt, .ref pl, .ref ph])) := Ext.new hr _
        have e79 := e8.trans e9
        refine hR _ r e79 (hD8.new hr) ((e47.trans e79).obj _ _ rfl hl4) ?_
        exact .tup (SqT.of upd_same) (.cons (.str _) (.cons (.tup (SqT.of (e79.obj _ _ rfl tk7)) (dp_ints ts)) (.cons (.tup (SqT.of (e9.obj _ _ rfl hpl)) (dp_ints ls)) (.cons (.tup (SqT.of (e79.obj _ _ rfl hg7)) (dp_ints hs)) .nil))))
    have h14 : 6 + i < xs.length := by omega
    have hx : xs[6 + i]? = some (xs.getD (6 + i) Str.empty) := by rw [List.getD_eq_getElem?_getD, List.getElem?_eq_getElem h14]; rfl
    have hl7 : H7 l = some (.lst rs) := e47.obj _ _ rfl hl4
    have hn7 : H7 pn = some (.lst (xs.map V.str)) := (e4.trans e47).obj _ _ rfl hnm2
    -- the new state
    have next : ∀ (ls : List Int), Small n 1000 ls → (List.zipWith (fun a b => decide (a ≤ b)) ls hs).all id = true → ∀ (o8 : Option V) (H9 : Hp) (r : Addr), ExtL H7 H9 → Draw H9 d p0 → H9 l = some (.lst rs) → Dp K H9 (.ref r) (moveD ⟨(xs.getD (6 + i) Str.empty), ts, ls, hs⟩) →
        (fun Hx : Hp => ∃ (o5 o6 o7 o8' : Option V) (rs' : List V) (mv' : List Mv), ([some (V.ref d), some (.int m), some (.ref pn), some (.int n), some (.ref l), some (.int (0 + (i : Int))), some (.ref pt), some (.ref ph), o8, none] : L2.St) = [some (.ref d), some (.int m), some (.ref pn), some (.int n), some (.ref l), o5, o6, o7, o8', none] ∧ ExtL H2 Hx ∧ Draw Hx d p0 ∧ Hx l = some (.lst rs') ∧ DpAll K Hx rs' (mv'.map moveD) ∧ mv'.length = i + 1 ∧ (∀ j m, mv'[j]? = some m → GoodMv n j m)) (upd H9 l (.lst (rs ++ [.ref r]))) := by
      intro ls sL hle o8 H9 r e9 hD9 hl9 hd9
      refine ⟨_, _, _, _, rs ++ [.ref r], mv ++ [⟨(xs.getD (6 + i) Str.empty), ts, ls, hs⟩], rfl, ((e4.trans e47).trans e9).upd_new hl, hD9.upd hD hlH, upd_same, ?_, by rw [List.length_append, hlen]; rfl, fun j m hj => ?_⟩
      · rw [List.map_append]
        exact dp_app (dps_upd hl9 (noLsts_moves mv) ((e47.trans e9).dps hdp)) (.cons (dp_upd hl9 (noLst_move _) hd9) .nil)
      · rcases Nat.lt_or_ge j mv.length with h | h
        · rw [List.getElem?_append_left h] at hj
          exact hmv j m hj
        · rw [List.getElem?_append_right h] at hj
          have hz : j - mv.length = 0 := by
            have := (List.getElem?_eq_some_iff.mp hj).1
            simp at this
            omega
          rw [hz] at hj
          have em : _ = m := Option.some.inj hj
          rw [← em, show j = i by omega]
          exact ⟨hxs _ _ hx, sT, sL, sH, hle⟩
    refine ite2 (fun c1 => ?_) (fun c1 => ?_)
    · refine ⟨_, rfl, ph, rfl, ⟨_, SqT.of hg7⟩, fun D hD0 => ?_⟩
      refine lc_tup (xs := hs.map V.int) (fun j H3 => ExtL H7 H3 ∧ Draw H3 d p0 ∧ ∃ ls : List Int, H3 D = some (.lst (ls.map V.int)) ∧ ls.length = j ∧ ∀ (u : Nat) (a b : Int), ls[u]? = some a → hs[u]? = some b → 0 ≤ a ∧ a ≤ b) ⟨Ext.new hD0 _, hD7.new hD0, [], upd_same, rfl, fun u a b hu => by simp at hu⟩ (fun j H3 _ p => p.1.sqT (SqT.of hg7)) (fun j x H3 hx ⟨e8, hD8, ls, hls, hll8, hle8⟩ => ?_) fun H3 ⟨e8, hD8, ls, hls, hll8, hle8⟩ => ?_
      · rw [List.getElem?_map, Option.map_eq_some_iff] at hx
        obtain ⟨b, hb, rfl⟩ := hx
        have hbm : b ∈ hs := List.mem_of_getElem? hb
        have hb0 := (hh3 b hbm).1
        refine ⟨rfl, _, rfl, _, rfl, b, 1, rfl, rfl, d, p0, b + 1, rfl, hD8, by omega, fun H4 v e9 hD9 hv0 hv1 => ?_⟩
        have hls9 : H4 D = some (.lst (ls.map V.int)) := e9.obj _ _ rfl hls
        refine ⟨_, hls9, ?_, (e8.trans e9).upd_new hD0, hD9.upd hD7 hD0, ls ++ [v], ?_, ?_, fun u a b' ha hb' => ?_⟩
        · rw [List.length_map]
          have : j < hs.length := (List.getElem?_eq_some_iff.mp hb).1
          exact small1000 (by omega)
        · rw [upd_same, List.map_append]
          rfl
        · rw [List.length_append, hll8]
          rfl
        · rcases Nat.lt_or_ge u ls.length with h | h
          · rw [List.getElem?_append_left h] at ha
            exact hle8 u a b' ha hb'
          · rw [List.getElem?_append_right h] at ha
            have hz : u - ls.length = 0 := by
              have := (List.getElem?_eq_some_iff.mp ha).1
              simp at this
              omega
            rw [hz] at ha
            have em : v = a := Option.some.inj ha
            rw [show u = j by omega, hb] at hb'
            have eb : b = b' := Option.some.inj hb'
            omega
      · rw [List.length_map] at hll8
        have sL : Small n 1000 ls := by
          refine ⟨by rw [hll8, hh2], fun a ha => ?_⟩
          obtain ⟨u, hu, ea⟩ := List.getElem_of_mem ha
          have hu2 : u < hs.length := by omega
          have := hle8 u a hs[u] (by rw [List.getElem?_eq_getElem hu, ea]) (List.getElem?_eq_getElem hu2)
          have h3 := sH.2 hs[u] (List.getElem_mem hu2)
          exact ⟨this.1, Int.le_trans this.2 h3.2⟩
        have hle : (List.zipWith (fun a b => decide (a ≤ b)) ls hs).all id = true := zip_le ls hs fun u a b ha hb => (hle8 u a b ha hb).2
        refine ⟨D, _, rfl, .inl ⟨SqL.of hls, fun pl hpl => ?_⟩⟩
        have e8' : ExtL H7 (upd H3 pl (.tup (ls.map V.int))) := e8.trans (Ext.new hpl _)
        obtain ⟨y, hy, hR⟩ := fin (upd H3 pl (.tup (ls.map V.int))) pl ls e8' (hD8.new hpl) upd_same sL hle (fun Hx => ∃ (o5 o6 o7 o8' : Option V) (rs' : List V) (mv' : List Mv), ([some (V.ref d), some (.int m), some (.ref pn), some (.int n), some (.ref l), some (.int (0 + (i : Int))), some (.ref pt), some (.ref ph), some (.ref pl), none] : L2.St) = [some (.ref d), some (.int m), some (.ref pn), some (.int n), some (.ref l), o5, o6, o7, o8', none] ∧ ExtL H2 Hx ∧ Draw Hx d p0 ∧ Hx l = some (.lst rs') ∧ DpAll K Hx rs' (mv'.map moveD) ∧ mv'.length = i + 1 ∧ (∀ j m, mv'[j]? = some m → GoodMv n j m)) (next ls sL hle (some (.ref pl)))
        have hl8 := e8'.obj _ _ rfl hl7
        have hn8 := e8'.obj _ _ rfl hn7
        refine ⟨_, rfl, .inl ⟨rfl, _, SqL.of hl8⟩, _, rfl, _, rfl, 6, 0 + (i : Int), rfl, rfl, pn, _, _, y, rfl, rfl, SqL.of hn8, hy, _, rfl, _, rfl, _, rfl, (by show 4 ≤ sizeLine; decide), fun r hr => ⟨l, rs, .ref r, rfl, rfl, (Ext.new (dk := true) hr _).obj _ _ rfl hl8, ?_, hR r hr⟩⟩
        rw [dpAll_len hdp, List.length_map]
        exact small1000 (by omega)
    · obtain ⟨y, hy, hR⟩ := fin H7 ph hs (Ext.refl false H7) hD7 hg7 sH (zip_self hs) (fun Hx => ∃ (o5 o6 o7 o8' : Option V) (rs' : List V) (mv' : List Mv), ([some (V.ref d), some (.int m), some (.ref pn), some (.int n), some (.ref l), some (.int (0 + (i : Int))), some (.ref pt), some (.ref ph), some (.ref ph), none] : L2.St) = [some (.ref d), some (.int m), some (.ref pn), some (.int n), some (.ref l), o5, o6, o7, o8', none] ∧ ExtL H2 Hx ∧ Draw Hx d p0 ∧ Hx l = some (.lst rs') ∧ DpAll K Hx rs' (mv'.map moveD) ∧ mv'.length = i + 1 ∧ (∀ j m, mv'[j]? = some m → GoodMv n j m)) (next hs sH (zip_self hs) (some (.ref ph)))
      · have hl8 := hl7; have hn8 := hn7
        refine ⟨_, rfl, .inl ⟨rfl, _, SqL.of hl8⟩, _, rfl, _, rfl, 6, 0 + (i : Int), rfl, rfl, pn, _, _, y, rfl, rfl, SqL.of hn8, hy, _, rfl, _, rfl, _, rfl, (by show 4 ≤ sizeLine; decide), fun r hr => ⟨l, rs, .ref r, rfl, rfl, (Ext.new (dk := true) hr _).obj _ _ rfl hl8, ?_, hR r hr⟩⟩
        rw [dpAll_len hdp, List.length_map]
        exact small1000 (by omega)

  · subst eσ
    have hpn4 : H' pn = some (.lst (xs.map V.str)) := e4.obj _ _ rfl hnm2
    have hl40 := hl4
    refine ⟨_, rfl, _, rfl, n, rfl, pn, _, rfl, SqL.of hpn4, fun p2 hp2 => ⟨p2, _, rfl, .inl ⟨SqL.of upd_same, fun pk hpk => ?_⟩⟩⟩
    have eb : ExtL H' (upd (upd H' p2 (.lst (cutV (xs.map V.str) none (some (n : Int))))) pk (.tup (cutV (xs.map V.str) none (some (n : Int))))) := (Ext.new hp2 _).trans (Ext.new hpk _)
    refine ⟨_, rfl, l, rs, rfl, .inl ⟨SqL.of (eb.obj _ _ rfl hl40), fun pm hpm => ⟨(by show 2 ≤ sizeLine; decide), fun r hr => ?_⟩⟩⟩
    have ec := eb.trans (Ext.new hpm (.tup rs))
    have ed := ec.trans (Ext.new hr (.tup [.ref pk, .ref pm]))
    have hk : (upd (upd H' p2 (.lst (cutV (xs.map V.str) none (some (n : Int))))) pk (.tup (cutV (xs.map V.str) none (some (n : Int))))) pk = some (.tup ((xs.take n).map V.str)) := by
      rw [upd_same, cut_upto, List.map_take]
    have hpk2 := (Ext.new (dk := false) hpm (.tup rs)).obj _ _ rfl hk
    have hpk3 := (Ext.new (dk := false) hr (.tup [.ref pk, .ref pm])).obj _ _ rfl hpk2
    have hpm3 := (Ext.new (dk := false) hr (.tup [.ref pk, .ref pm])).obj _ _ rfl (upd_same (a := pm) (o := .tup rs))
    have gb : GoodBk (xs.take n) mv := by
      have hl : (xs.take n).length = n := by rw [List.length_take]; omega
      refine ⟨by omega, by omega, by omega, fun j x hx => ?_, fun j m hj => ?_⟩
      · have hj : j < n := by
          have := (List.getElem?_eq_some_iff.mp hx).1
          omega
        rw [List.getElem?_take_of_lt hj] at hx
        exact hxs j x hx
      · rw [hl]
        exact hmv j m hj
    have ed' : ExtL H' (upd (upd (upd (upd H' p2 (.lst (cutV (xs.map V.str) none (some (n : Int))))) pk (.tup (cutV (xs.map V.str) none (some (n : Int))))) pm (.tup rs)) r (.tup [.ref pk, .ref pm])) := ed
    exact q _ _ (xs.take n) mv ((e02.trans e4).trans ed') ((((hD4.new hp2).new hpk).new hpm).new hr) (.tup (SqT.of upd_same) (.cons (.tup (SqT.of hpk3) (dp_strs _)) (.cons (.tup (SqT.of hpm3) (ed'.dps hdp)) .nil))) gb
end
end Mint


namespace Mint
open PySem PySem.Spec PyProof.Rows L2 GxR Gx RZ

/-! ### a tuple, taken once -/
theorem tuple_mulOne (l : Addr) (items : Array Value) (n : Nat) (dd : Option Addr) (sl : Array (Option Value)) (u : Tok) :
    Meets (Builtin.«tuple.__mul__» ⟨[.ref l, .int 1 u], []⟩) (fun _ R s => s.heap.get? l = some { cls := .type "tuple", dict := dd, data := .seq items n, slots := sl } ∧
      R (.ok (.ret (Value.ref l))) { s with heap := s.heap, toks := s.toks }) :=
  .of_wp fun prog w A R s h => by
    obtain ⟨hp, g, d, tk, os⟩ := s
    obtain ⟨hl, h⟩ := h
    have f1 := AutoSeq1.idx_int
    have c0 : (decide ((1 : Int) < -(2 ^ 63)) || decide ((1 : Int) ≥ 2 ^ 63)) = false := by decide
    have c1 : (items.isEmpty || (1 : Int) == 1) = true := by rw [show ((1 : Int) == 1) = true from rfl, Bool.or_true]
    wp_walk using wpAny_loadPart' hl
    repeat (first
      | (refine wpAny_ite_false (decide_eq_false (by rw [c0]; exact Bool.false_ne_true)) ?_; wp_walk using wpAny_loadPart' hl)
      | (refine wpAny_ite_true (decide_eq_true c1) ?_; wp_walk using wpAny_loadPart' hl))
    exact ⟨_, rfl, h⟩
/-- t * k, k from 1 on -/
def rRepA (K : PySem.W.Frag) : R2 := fun x y H Q => ∃ l k xs, x = .ref l ∧ y = .int k ∧ SqT K H l xs ∧ xs ≠ [] ∧ 1 ≤ k ∧ k ≤ 1000 ∧ xs.length ≤ 1000 ∧ (k = 1 → Q (.ref l) H) ∧ (k ≠ 1 → ∀ p, H p = none → Q (.ref p) (upd H p (.tup (List.replicate k.toNat xs).flatten)))
section
variable {X : Cx}
theorem op_repA : OpR X (binaryOp .Mult) (rRepA X.K) := by
  intro pins s σ H x y v u Q I rx ry h
  obtain ⟨l, k, xs, ex, ey, hT, hne, h1, h2, hz, q1, q2⟩ := h
  by_cases hk : k = 1
  · subst hk ex ey
    cases rx
    obtain ⟨t, rfl⟩ := ry
    obtain ⟨its, r, ⟨⟨cls, dd, data, sl⟩, ho, hc, n, hd⟩, hs⟩ := I.tuple hT
    simp only at hc hd
    subst hc hd
    refine wpAny_binaryOp_repeat_ref (T := "tuple") (U := "int") (by decide) ⟨_, ho, rfl⟩ (fun s' => typeIs_int s' 1 t) noFill_tuple_mul F.fills_int_mul F.slot_int_rmul repeat_tuple F.slot_int_index.lookup
      (call_meets F.slot_int_rmul (typeIs_int s 1 t) F.entry_int_rmul (F.args_int_rmul_2 _ _) (int_rmul_tuple 1 t l its.toArray n dd sl)
        ⟨ho, rfl, ⟨_, ho, rfl⟩, call_meets F.slot_tuple_mul ⟨_, ho, rfl⟩ F.entry_tuple_mul (F.args_tuple_mul_2 _ _) (tuple_mulOne l its.toArray n dd sl t) ⟨ho, ?_⟩⟩)
    exact ⟨.ref l, H, I, rfl, q1 rfl⟩
  · exact op_repT pins s σ H x y v u Q I rx ry ⟨l, k, xs, ex, ey, hT, hne, by omega, h2, hz, q2 hk⟩
end
end Mint


namespace Mint
open PySem PySem.Spec PyProof.Rows L2 GxR Gx RZ

/-! ### vectors -/
abbrev vadd (a b : List Int) : List Int := List.zipWith (fun x y => x + y) a b
abbrev vsub (a b : List Int) : List Int := List.zipWith (fun x y => x - y) a b
abbrev vmax (a b : List Int) : List Int := List.zipWith (fun x y => if y > x then y else x) a b
abbrev vsc (a : List Int) (t : Int) : List Int := a.map (fun x => x * t)
abbrev vzero (n : Nat) : List Int := List.replicate n 0
def cg (a : List Int) (i : Nat) : Int := a.getD i 0
theorem cg_of {a : List Int} {i : Nat} {x : Int} (h : a[i]? = some x) : cg a i = x := by
  unfold cg
  rw [List.getD_eq_getElem?_getD, h]
  rfl
theorem cg_some {a : List Int} {i : Nat} (h : i < a.length) : a[i]? = some (cg a i) := by
  unfold cg
  rw [List.getD_eq_getElem?_getD, List.getElem?_eq_getElem h]
  rfl
theorem cg_zip {f : Int → Int → Int} {a b : List Int} {i : Nat} (ha : i < a.length) (hb : i < b.length) : cg (List.zipWith f a b) i = f (cg a i) (cg b i) := by
  refine cg_of ?_
  rw [List.getElem?_zipWith, cg_some ha, cg_some hb]
theorem cg_map {f : Int → Int} {a : List Int} {i : Nat} (ha : i < a.length) : cg (a.map f) i = f (cg a i) := by
  refine cg_of ?_
  rw [List.getElem?_map, cg_some ha]
  rfl
theorem cg_zero {n i : Nat} (h : i < n) : cg (vzero n) i = 0 := by
  refine cg_of ?_
  rw [List.getElem?_replicate, if_pos h]
theorem cg_mem {a : List Int} {i : Nat} (h : i < a.length) : cg a i ∈ a := List.mem_of_getElem? (cg_some h)
theorem vext {a b : List Int} {n : Nat} (ha : a.length = n) (hb : b.length = n) (h : ∀ i, i < n → cg a i = cg b i) : a = b := by
  refine List.ext_getElem? fun i => ?_
  by_cases hi : i < n
  · rw [cg_some (by omega), cg_some (by omega), h i hi]
  · rw [List.getElem?_eq_none (by omega), List.getElem?_eq_none (by omega)]
theorem len_zip {f : Int → Int → Int} {a b : List Int} {n : Nat} (ha : a.length = n) (hb : b.length = n) : (List.zipWith f a b).length = n := by
  rw [List.length_zipWith, ha, hb, Nat.min_self]
/-! ### need and change -/
abbrev E2 := List Int × List Int
def eTwo (a b : E2) : E2 := (vmax a.1 (vsub b.1 a.2), vadd a.2 b.2)
def eMany (a : E2) (t : Int) : E2 := (vmax a.1 (vsub a.1 (vsc a.2 (t - 1))), vadd (vsc a.2 (t - 1)) a.2)
def EL (n : Nat) (e : E2) : Prop := e.1.length = n ∧ e.2.length = n
structure GE (n : Nat) (e : E2) : Prop where
  l1 : e.1.length = n
  l2 : e.2.length = n
  pos : ∀ i, i < n → 0 ≤ cg e.1 i
theorem e2_ext {n : Nat} {a b : E2} (ha : EL n a) (hb : EL n b) (h1 : ∀ i, i < n → cg a.1 i = cg b.1 i) (h2 : ∀ i, i < n → cg a.2 i = cg b.2 i) : a = b :=
  Prod.ext (vext ha.1 hb.1 h1) (vext ha.2 hb.2 h2)
theorem el_two {n : Nat} {a b : E2} (ha : EL n a) (hb : EL n b) : EL n (eTwo a b) := ⟨len_zip ha.1 (len_zip hb.1 ha.2), len_zip ha.2 hb.2⟩
theorem len_sc {a : List Int} {t : Int} {n : Nat} (h : a.length = n) : (vsc a t).length = n := by rw [List.length_map, h]
theorem el_many {n : Nat} {a : E2} {t : Int} (ha : EL n a) : EL n (eMany a t) := ⟨len_zip ha.1 (len_zip ha.1 (len_sc ha.2)), len_zip (len_sc ha.2) ha.2⟩
def smax (x y : Int) : Int := if y > x then y else x
theorem two1 {n i : Nat} {a b : E2} (ha : EL n a) (hb : EL n b) (hi : i < n) : cg (eTwo a b).1 i = smax (cg a.1 i) (cg b.1 i - cg a.2 i) := by
  unfold eTwo
  rw [cg_zip (by rw [ha.1]; exact hi) (by rw [len_zip hb.1 ha.2]; exact hi), cg_zip (by rw [hb.1]; exact hi) (by rw [ha.2]; exact hi)]
  rfl
theorem two2 {n i : Nat} {a b : E2} (ha : EL n a) (hb : EL n b) (hi : i < n) : cg (eTwo a b).2 i = cg a.2 i + cg b.2 i := by
  unfold eTwo
  rw [cg_zip (by rw [ha.2]; exact hi) (by rw [hb.2]; exact hi)]
theorem many1 {n i : Nat} {a : E2} {t : Int} (ha : EL n a) (hi : i < n) : cg (eMany a t).1 i = smax (cg a.1 i) (cg a.1 i - cg a.2 i * (t - 1)) := by
  unfold eMany
  rw [cg_zip (by rw [ha.1]; exact hi) (by rw [len_zip ha.1 (len_sc ha.2)]; exact hi), cg_zip (by rw [ha.1]; exact hi) (by rw [len_sc ha.2]; exact hi), cg_map (by rw [ha.2]; exact hi)]
  rfl
theorem many2 {n i : Nat} {a : E2} {t : Int} (ha : EL n a) (hi : i < n) : cg (eMany a t).2 i = cg a.2 i * (t - 1) + cg a.2 i := by
  unfold eMany
  rw [cg_zip (by rw [len_sc ha.2]; exact hi) (by rw [ha.2]; exact hi), cg_map (by rw [ha.2]; exact hi)]
def ezero (n : Nat) : E2 := (vzero n, vzero n)
theorem el_zero (n : Nat) : EL n (ezero n) := ⟨List.length_replicate, List.length_replicate⟩
theorem two_assoc {n : Nat} {a b c : E2} (ha : EL n a) (hb : EL n b) (hc : EL n c) : eTwo (eTwo a b) c = eTwo a (eTwo b c) := by
  have hab := el_two ha hb
  have hbc := el_two hb hc
  refine e2_ext (el_two hab hc) (el_two ha hbc) (fun i hi => ?_) fun i hi => ?_
  · rw [two1 hab hc hi, two1 ha hbc hi, two1 ha hb hi, two2 ha hb hi, two1 hb hc hi]
    unfold smax
    repeat' split
    all_goals omega
  · rw [two2 hab hc hi, two2 ha hbc hi, two2 ha hb hi, two2 hb hc hi]
    omega
theorem zero_two {n : Nat} {a : E2} (ha : GE n a) : eTwo (ezero n) a = a := by
  have el : EL n a := ⟨ha.l1, ha.l2⟩
  refine e2_ext (el_two (el_zero n) el) el (fun i hi => ?_) fun i hi => ?_
  · rw [two1 (el_zero n) el hi]
    have := ha.pos i hi
    show smax (cg (vzero n) i) (cg a.1 i - cg (vzero n) i) = _
    rw [cg_zero hi]
    unfold smax
    split <;> omega
  · rw [two2 (el_zero n) el hi]
    show cg (vzero n) i + _ = _
    rw [cg_zero hi]
    omega
theorem ge_zero (n : Nat) : GE n (ezero n) := ⟨(el_zero n).1, (el_zero n).2, fun i hi => by show 0 ≤ cg (vzero n) i; rw [cg_zero hi]; exact Int.le_refl 0⟩
theorem GE.el {n : Nat} {a : E2} (h : GE n a) : EL n a := ⟨h.l1, h.l2⟩
theorem ge_two {n : Nat} {a b : E2} (ha : GE n a) (hb : EL n b) : GE n (eTwo a b) := by
  have h := el_two ha.el hb
  refine ⟨h.1, h.2, fun i hi => ?_⟩
  rw [two1 ha.el hb hi]
  have := ha.pos i hi
  unfold smax
  split <;> omega
theorem ge_many {n : Nat} {a : E2} {t : Int} (ha : GE n a) : GE n (eMany a t) := by
  have h := el_many (t := t) ha.el
  refine ⟨h.1, h.2, fun i hi => ?_⟩
  rw [many1 ha.el hi]
  have := ha.pos i hi
  unfold smax
  split <;> omega
theorem many_one {n : Nat} {a : E2} (ha : EL n a) : eMany a ((0 + 1 : Nat) : Int) = a := by
  refine e2_ext (el_many ha) ha (fun i hi => ?_) fun i hi => ?_
  · rw [many1 ha hi, show (((0 + 1 : Nat) : Int) - 1) = 0 by omega, Int.mul_zero]
    unfold smax
    split <;> omega
  · rw [many2 ha hi, show (((0 + 1 : Nat) : Int) - 1) = 0 by omega, Int.mul_zero]
    omega
theorem many_succ {n : Nat} {a : E2} (k : Nat) (ha : EL n a) : eMany a ((k + 1 + 1 : Nat) : Int) = eTwo a (eMany a ((k + 1 : Nat) : Int)) := by
  have hm := el_many (t := ((k + 1 : Nat) : Int)) ha
  refine e2_ext (el_many ha) (el_two ha hm) (fun i hi => ?_) fun i hi => ?_
  · rw [many1 ha hi, two1 ha hm hi, many1 ha hi, show (((k + 1 + 1 : Nat) : Int) - 1) = (k : Int) + 1 by omega, show (((k + 1 : Nat) : Int) - 1) = (k : Int) by omega, Int.mul_add, Int.mul_one]
    generalize cg a.1 i = x
    generalize cg a.2 i = c
    have h1 : 0 ≤ c → 0 ≤ c * (k : Int) := fun h => Int.mul_nonneg h (Int.natCast_nonneg k)
    have h2 : c ≤ 0 → c * (k : Int) ≤ 0 := fun h => Int.mul_nonpos_of_nonpos_of_nonneg h (Int.natCast_nonneg k)
    generalize c * (k : Int) = y at h1 h2 ⊢
    unfold smax
    repeat' split
    all_goals omega
  · rw [many2 ha hi, two2 ha hm hi, many2 ha hi, show (((k + 1 + 1 : Nat) : Int) - 1) = (k : Int) + 1 by omega, show (((k + 1 : Nat) : Int) - 1) = (k : Int) by omega, Int.mul_add, Int.mul_one]
    omega
/-! ### runs -/
inductive RSt where
  | mv (m : Nat)
  | rep (k : Nat) (r : List RSt)
mutual
def stD : RSt → PyData
  | .mv m => .tuple [.str "do", .int m]
  | .rep k r => .tuple [.str "rep", .int k, .tuple (rnD r)]
def rnD : List RSt → List PyData
  | [] => []
  | s :: r => stD s :: rnD r
end
theorem rnD_map : ∀ r : List RSt, rnD r = r.map stD
  | [] => rfl
  | s :: r => by rw [rnD, rnD_map r]; rfl
theorem rnD_app (a b : List RSt) : rnD (a ++ b) = rnD a ++ rnD b := by rw [rnD_map, rnD_map, rnD_map, List.map_append]
theorem rnD_len (a : List RSt) : (rnD a).length = a.length := by rw [rnD_map, List.length_map]
/-- steps of at most so many levels below -/
def GSt (nm : Nat) (t : Nat) : Nat → RSt → Prop
  | 0, s => ∃ m, s = .mv m ∧ m < nm
  | d + 1, s => (∃ m, s = .mv m ∧ m < nm) ∨ ∃ k r, s = .rep k r ∧ 1 ≤ k ∧ k ≤ t ∧ r ≠ [] ∧ r.length ≤ 3 ∧ ∀ x ∈ r, GSt nm t d x
structure GRn (nm t d : Nat) (r : List RSt) : Prop where
  three : r.length ≤ 3
  all : ∀ x ∈ r, GSt nm t d x
theorem gst_mv {nm t d m : Nat} (h : m < nm) : GSt nm t d (.mv m) := by
  cases d with
  | zero => exact ⟨m, rfl, h⟩
  | succ d => exact .inl ⟨m, rfl, h⟩
mutual
theorem noLst_st : ∀ s : RSt, noLst (stD s) = true
  | .mv m => rfl
  | .rep k r => by
    show (true && (true && (noLsts (rnD r) && true))) = true
    rw [noLst_rn r]
    rfl
theorem noLst_rn : ∀ r : List RSt, noLsts (rnD r) = true
  | [] => rfl
  | s :: r => by
    show (noLst (stD s) && noLsts (rnD r)) = true
    rw [noLst_st s, noLst_rn r]
    rfl
end
mutual
theorem lay_st : ∀ s : RSt, (stD s).canLay0 = true
  | .mv m => by
    have l : (PyData.str "do").canLay0 = true := by decide +kernel
    simp only [stD, PyData.canLay0, PyData.canLayAll0] at l ⊢
    rw [l]
    rfl
  | .rep k r => by
    have l : (PyData.str "rep").canLay0 = true := by decide +kernel
    have h := lay_rn r
    simp only [stD, PyData.canLay0, PyData.canLayAll0] at l ⊢
    rw [l, h]
    rfl
theorem lay_rn : ∀ r : List RSt, PyData.canLayAll0 (rnD r) = true
  | [] => by simp [rnD, PyData.canLayAll0]
  | s :: r => by
    simp only [rnD, PyData.canLayAll0]
    rw [lay_st s, lay_rn r]
    rfl
end
theorem depth_rn {n : Nat} : ∀ r : List RSt, (∀ s ∈ r, (stD s).depth ≤ n) → PyData.depthAll (rnD r) ≤ n
  | [], _ => by simp [rnD, PyData.depthAll]
  | s :: r, h => by
    simp only [rnD, PyData.depthAll]
    have h1 := h s List.mem_cons_self
    have h2 := depth_rn r fun y hy => h y (List.mem_cons_of_mem _ hy)
    omega
theorem depth_st {nm t : Nat} : ∀ (d : Nat) (s : RSt), GSt nm t d s → (stD s).depth ≤ 2 * d + 1
  | 0, s, h => by
    obtain ⟨m, rfl, _⟩ := h
    simp [stD, PyData.depth, PyData.depthAll]
  | d + 1, s, h => by
    rcases h with ⟨m, rfl, _⟩ | ⟨k, r, rfl, _, _, _, _, h⟩
    · simp [stD, PyData.depth, PyData.depthAll]
    · have := depth_rn (n := 2 * d + 1) r fun x hx => depth_st d x (h x hx)
      simp only [stD, PyData.depth, PyData.depthAll]
      omega
theorem shaped_rn {nm t d : Nat} {r : List RSt} (h : GRn nm t d r) (hd : d ≤ 28) : SeqAt.shaped (.tuple (rnD r)) = true := by
  have := depth_rn (n := 2 * d + 1) r fun x hx => depth_st d x (h.all x hx)
  unfold SeqAt.shaped
  have l : (PyData.tuple (rnD r)).canLay0 = true := by
    simp only [PyData.canLay0]
    exact lay_rn r
  have e : (PyData.tuple (rnD r)).depth ≤ 2 * d + 2 := by
    simp only [PyData.depth]
    omega
  rw [l, decide_eq_true (by omega)]
  rfl
theorem rn_ne {r : List RSt} (h : PyData.eqv (.tuple (rnD r)) (.tuple []) = false) : r ≠ [] := fun z => by
  subst z
  exact absurd h (by decide +kernel)
end Mint


namespace Mint
open PySem PySem.Spec PyProof.Rows L2 GxR Gx RZ

/-! ### _law_run, its runs as such -/
theorem run_next {K : PySem.W.Frag} {nm t k : Nat} {H' Hx : Hp} {l r : Addr} {rs : List V} {ds : List RSt} {x : RSt} (hdp : DpAll K H' rs (rnD ds)) (hds : ∀ y ∈ ds, GSt nm t k y) (e : ExtL H' Hx) (hl : Hx l = some (.lst rs)) (hx : GSt nm t k x) (hd : Dp K Hx (.ref r) (stD x)) :
    DpAll K (upd Hx l (.lst (rs ++ [.ref r]))) (rs ++ [.ref r]) (rnD (ds ++ [x])) ∧ ∀ y ∈ ds ++ [x], GSt nm t k y := by
  refine ⟨?_, fun y hy => ?_⟩
  · rw [rnD_app]
    exact dp_app (dps_upd hl (noLst_rn ds) (e.dps hdp)) (.cons (dp_upd hl (noLst_st x) hd) .nil)
  · rcases List.mem_append.mp hy with h | h
    · exact hds y h
    · rw [List.mem_singleton.mp h]
      exact hx
theorem gst_rep {nm t d k : Nat} {r : List RSt} (h : GRn nm t d r) (h1 : 1 ≤ k) (h2 : k ≤ t) (hr : r ≠ []) : GSt nm t (d + 1) (.rep k r) := .inr ⟨k, r, rfl, h1, h2, hr, h.three, h.all⟩
def spRunL (K : PySem.W.Frag) (N : Nat) : Sp := fun vs H Q _ => ∃ (d p0 : Addr) (nm k t : Nat), vs = [.ref d, .int nm, .int k, .int t] ∧ k < N ∧ k ≤ 20 ∧ Draw H d p0 ∧ 0 < t ∧
  ∀ (H' : Hp) (v : V) (r : List RSt), ExtL H H' → Draw H' d p0 → Dp K H' v (.tuple (rnD r)) → GRn nm t k r → Q v H'
abbrev sRunL : Stmt := top 28
theorem scRunL : FnScope ["draws", "moves", "depth", "times", "steps", "k", "inner"] ["draws", "moves", "depth", "times"] (defScope sRunL) := ⟨rfl, rfl, rfl, by decide +kernel, rfl, by decide +kernel, by decide +kernel⟩
section
variable {P : Program} {w : World} {K : PySem.W.Frag} {mg : Str → Option Value} {base : Heap} {f T : Addr} {fd : FuncData}
theorem ok_runL {N lv : Nat} (F : Fun K "_law_run" "_law_run" sRunL f fd) (G : Glb mg) (hlv : 1 ≤ lv) (DT : Def P w K mg base "_law_take" 1 ["draws", "bound"] spTake) (DR : Def P w K mg base "_law_run" lv ["draws", "moves", "depth", "times"] (spRunL K N)) :
    FnOk P w K mg base CX0 (lv + 1) f fd ["draws", "moves", "depth", "times"] (spRunL K (N + 1)) := by
  refine F.ok scRunL (fun vs H Q E h => ?_) (fun cdv A outer s H vs Q E hr h => ?_)
  · obtain ⟨d, p0, nm, k, t, rfl, _⟩ := h
    rfl
  obtain ⟨d, p0, nm, k, t, rfl, hkN, hk20, hD, ht, q⟩ := h
  have nd := scRunL.nd
  refine ⟨_, (pss_cons (ps_set (i := 4) nd rfl (Or.inl rfl) (pe_lst pa_nil))
    (pss_cons (ps_for PassesOwn.never rfl (pi_range1 rfl G.range (pa_cons (pe_c DT (hr.mono hlv) (pa_cons (pv 0) (pa_cons pe_int pa_nil))) pa_nil)) (pg_name (i := 5) nd rfl (Or.inl rfl)) (pss_cons (ps_if (pt_cmpR op_eq (pv 1) pe_int (nomark _)) (pss_one (ps_ret (pe_tup pa_nil))) pss_nil)
    (pss_cons (ps_set (i := 6) nd rfl (Or.inl rfl) (pe_tup pa_nil))
    (pss_cons (ps_if (PW.pt (pw_and (pt_cmpR op_gt (pv 2) pe_int (nomark _)) (pw_and1 (pt_cmpR op_eq (pe_c DT (hr.mono hlv) (pa_cons (pv 0) (pa_cons pe_int pa_nil))) pe_int (nomark _))))) (pss_one (ps_set (i := 6) nd rfl (Or.inl rfl) (pe_c DR (hr) (pa_cons (pv 0) (pa_cons (pv 1) (pa_cons (pe_op op_sub (pv 2) pe_int) (pa_cons (pv 3) pa_nil))))))) pss_nil)
    (pss_one (ps_if (pt_cmpR (op_eqD hr.units) (pv 6) (pe_tup pa_nil) (nomark _)) (pss_one (ps_expr (pe_bm PySem.F.plainAttrs_list PySem.F.slot_list_append PySem.F.type_list_append mt_append (pv 4) (pa_cons (pe_tup (pa_cons pe_str (pa_cons (pe_c DT (hr.mono hlv) (pa_cons (pv 0) (pa_cons (pv 1) pa_nil))) pa_nil))) pa_nil)))) (pss_one (ps_expr (pe_bm PySem.F.plainAttrs_list PySem.F.slot_list_append PySem.F.type_list_append mt_append (pv 4) (pa_cons (pe_tup (pa_cons pe_str (pa_cons (pe_op op_add pe_int (pe_c DT (hr.mono hlv) (pa_cons (pv 0) (pa_cons (pv 3) pa_nil)))) (pa_cons (pv 6) pa_nil)))) pa_nil))))))))))
    (pss_one (ps_ret (pe_callTy call_tuple_of rfl G.tuple (by decide +kernel) (pa_cons (pv 4) pa_nil)))))), ?_⟩
  refine ⟨Nat.zero_le _, fun l hl => ?_⟩
  have e0 : ExtL H (upd H l (.lst [])) := Ext.new hl _
  refine ⟨_, rfl, d, p0, 4, rfl, hD.new hl, by decide, fun H3 v9 e3 hD3 hw0 hw1 => ⟨v9, rfl, by omega, by omega, ?_⟩⟩
  obtain ⟨c9, hc9⟩ : ∃ c : Nat, v9 = (c : Int) := ⟨v9.toNat, by omega⟩
  have hc8 : c9 ≤ 3 := by omega
  subst hc9
  rw [Int.toNat_natCast]
  have hl3 := e3.obj _ _ rfl (upd_same (H := H) (a := l) (o := .lst []))
  refine for_range (lo := 0) (n := c9) (fun i σ H' => ∃ (o5 o6 : Option V) (rs : List V) (ds : List RSt), σ = [some (.ref d), some (.int nm), some (.int k), some (.int t), some (.ref l), o5, o6] ∧ ExtL H H' ∧ Draw H' d p0 ∧ H' l = some (.lst rs) ∧ DpAll K H' rs (rnD ds) ∧ ds.length = i ∧ ∀ x ∈ ds, GSt nm t k x)
    ⟨none, none, [], [], rfl, e0.trans e3, hD3, hl3, .nil, rfl, fun x hx => by cases hx⟩ (fun i σ H' hi ⟨o5, o6, rs, ds, eσ, e4, hD4, hl4, hdp, hlen, hds⟩ => ?_) fun σ H' ⟨o5, o6, rs, ds, eσ, e4, hD4, hl4, hdp, hlen, hds⟩ => ?_
  · subst eσ
    refine ⟨_, rfl, rfl, _, rfl, ?_⟩
    refine ite2 (fun c1 => ?_) (fun c1 => ?_)
    · refine ⟨Nat.zero_le _, fun r0 hr0 => ?_⟩
      exact q _ _ [] (e4.trans (Ext.new hr0 _)) (hD4.new hr0) (.tup (SqT.of upd_same) .nil) ⟨Nat.zero_le _, fun x hx => by cases hx⟩
    have hnm : (nm : Int) ≠ 0 := by simpa using c1
    refine ⟨Nat.zero_le _, fun r0 hr0 => ?_⟩
    have e5 : ExtL H' (upd H' r0 (.tup [])) := Ext.new hr0 _
    refine ⟨_, rfl, (k : Int), 0, rfl, rfl, _, rfl, ?_⟩
    refine ite2 (fun c2 => ?_) (fun c2 => ?_)
    · have c3 : (0 : Int) < k := of_decide_eq_true c2
      refine ⟨_, rfl, d, p0, 3, rfl, hD4.new hr0, by decide, fun H7 v3 e7 hD7 hv30 hv31 => ⟨rfl, _, rfl, ?_⟩⟩
      refine ite2 (fun c4 => ?_) (fun c4 => ?_)
      · obtain ⟨k', hk'⟩ : ∃ k' : Nat, k = k' + 1 := ⟨k - 1, by omega⟩
        refine ⟨_, rfl, _, rfl, _, rfl, (k : Int), 1, rfl, rfl, _, rfl, d, p0, nm, k', t, ?_, by omega, by omega, hD7, ht, fun H8 vi rr e8 hD8 hdp8 hg8 => ?_⟩
        · have e : (k : Int) - 1 = (k' : Int) := by omega
          exact congrArg (fun z => [V.ref d, V.int nm, V.int z, V.int t]) e
        have eB : ExtL H' _ := (e5.trans e7).trans e8
        have hDB := hD8
        have dpB := hdp8
        have shB : SeqAt.shaped (.tuple (rnD rr)) = true := shaped_rn hg8 (by omega)
        refine ⟨_, rfl, Nat.zero_le _, fun z hz => ?_⟩
        have eZ : ExtL H' _ := eB.trans (Ext.new hz (.tup []))
        refine ⟨.tuple (rnD rr), .tuple [], (Ext.new (dk := false) hz (.tup [])).dp dpB, .tup (SqT.of upd_same) .nil, shB, by decide +kernel, _, rfl, ?_⟩
        refine ite2 (fun c9 => ?_) (fun c9 => ?_)
        · refine ⟨_, rfl, .inl ⟨rfl, _, SqL.of (eZ.obj _ _ rfl hl4)⟩, _, rfl, _, rfl, d, p0, nm, rfl, hDB.new hz, by omega, fun H9 v e9 hD9 hv0 hv1 => ⟨(by show 2 ≤ sizeLine; decide), fun r2 hr2 => ?_⟩⟩
          have eY : ExtL H' _ := (eZ.trans e9).trans (Ext.new hr2 (.tup [.str "do", .int v]))
          obtain ⟨vn, rfl⟩ : ∃ vn : Nat, v = (vn : Int) := ⟨v.toNat, by omega⟩
          have nx := run_next (nm := nm) (t := t) (k := k) (x := .mv vn) hdp hds eY (eY.obj _ _ rfl hl4) (gst_mv (by omega)) (.tup (SqT.of upd_same) (.cons (.str _) (.cons (.int _) .nil)))
          refine ⟨l, rs, .ref r2, rfl, rfl, eY.obj _ _ rfl hl4, ?_, _, _, rs ++ [.ref r2], ds ++ [_], rfl, (e4.trans eY).upd_new hl, (hD9.new hr2).upd hD hl, upd_same, nx.1, by rw [List.length_append, hlen]; rfl, nx.2⟩
          rw [dpAll_len hdp, rnD_len]
          exact small1000 (by omega)
        · have c10 : PyData.eqv (.tuple (rnD rr)) (.tuple []) = false := by simpa using c9
          have c11 := rn_ne c10
          refine ⟨_, rfl, .inl ⟨rfl, _, SqL.of (eZ.obj _ _ rfl hl4)⟩, _, rfl, _, rfl, d, p0, t, rfl, hDB.new hz, by omega, fun H9 v e9 hD9 hv0 hv1 => ⟨1, v, rfl, rfl, _, rfl, (by show 3 ≤ sizeLine; decide), fun r2 hr2 => ?_⟩⟩
          obtain ⟨vn, hvn⟩ : ∃ vn : Nat, 1 + v = (vn : Int) := ⟨(1 + v).toNat, by omega⟩
          have dpY := (((Ext.new (dk := false) hz (.tup [])).trans e9).trans (Ext.new hr2 (.tup [.str "rep", .int (1 + v), vi]))).dp dpB
          have eY : ExtL H' _ := (eZ.trans e9).trans (Ext.new hr2 (.tup [.str "rep", .int (1 + v), vi]))
          have nx := run_next (nm := nm) (t := t) (k := k) (x := .rep vn rr) hdp hds eY (eY.obj _ _ rfl hl4) (by rw [hk']; exact gst_rep hg8 (by omega) (by omega) c11) (.tup (SqT.of upd_same) (.cons (.str _) (.cons (by rw [hvn]; exact .int _) (.cons dpY .nil))))
          refine ⟨l, rs, .ref r2, rfl, rfl, eY.obj _ _ rfl hl4, ?_, _, _, rs ++ [.ref r2], ds ++ [_], rfl, (e4.trans eY).upd_new hl, (hD9.new hr2).upd hD hl, upd_same, nx.1, by rw [List.length_append, hlen]; rfl, nx.2⟩
          rw [dpAll_len hdp, rnD_len]
          exact small1000 (by omega)
      · skip
        have eB : ExtL H' _ := e5.trans e7
        have hDB := hD7
        have dpB := (Dp.tup (SqT.of (e7.obj _ _ rfl upd_same)) .nil : Dp K H7 (.ref r0) (.tuple []))
        have shB : SeqAt.shaped (.tuple []) = true := by decide +kernel
        refine ⟨_, rfl, Nat.zero_le _, fun z hz => ?_⟩
        have eZ : ExtL H' _ := eB.trans (Ext.new hz (.tup []))
        refine ⟨.tuple [], .tuple [], (Ext.new (dk := false) hz (.tup [])).dp dpB, .tup (SqT.of upd_same) .nil, shB, by decide +kernel, _, rfl, ?_⟩
        refine ite2 (fun c9 => ?_) (fun c9 => ?_)
        · refine ⟨_, rfl, .inl ⟨rfl, _, SqL.of (eZ.obj _ _ rfl hl4)⟩, _, rfl, _, rfl, d, p0, nm, rfl, hDB.new hz, by omega, fun H9 v e9 hD9 hv0 hv1 => ⟨(by show 2 ≤ sizeLine; decide), fun r2 hr2 => ?_⟩⟩
          have eY : ExtL H' _ := (eZ.trans e9).trans (Ext.new hr2 (.tup [.str "do", .int v]))
          obtain ⟨vn, rfl⟩ : ∃ vn : Nat, v = (vn : Int) := ⟨v.toNat, by omega⟩
          have nx := run_next (nm := nm) (t := t) (k := k) (x := .mv vn) hdp hds eY (eY.obj _ _ rfl hl4) (gst_mv (by omega)) (.tup (SqT.of upd_same) (.cons (.str _) (.cons (.int _) .nil)))
          refine ⟨l, rs, .ref r2, rfl, rfl, eY.obj _ _ rfl hl4, ?_, _, _, rs ++ [.ref r2], ds ++ [_], rfl, (e4.trans eY).upd_new hl, (hD9.new hr2).upd hD hl, upd_same, nx.1, by rw [List.length_append, hlen]; rfl, nx.2⟩
          rw [dpAll_len hdp, rnD_len]
          exact small1000 (by omega)
        · have c10 : PyData.eqv (.tuple []) (.tuple []) = false := by simpa using c9
          exact absurd c10 (by decide +kernel)
    · skip
      have eB : ExtL H' _ := e5
      have hDB := (show Draw (upd H' r0 (.tup [])) d p0 from hD4.new hr0)
      have dpB := (Dp.tup (SqT.of upd_same) .nil : Dp K (upd H' r0 (.tup [])) (.ref r0) (.tuple []))
      have shB : SeqAt.shaped (.tuple []) = true := by decide +kernel
      refine ⟨_, rfl, Nat.zero_le _, fun z hz => ?_⟩
      have eZ : ExtL H' _ := eB.trans (Ext.new hz (.tup []))
      refine ⟨.tuple [], .tuple [], (Ext.new (dk := false) hz (.tup [])).dp dpB, .tup (SqT.of upd_same) .nil, shB, by decide +kernel, _, rfl, ?_⟩
      refine ite2 (fun c9 => ?_) (fun c9 => ?_)
      · refine ⟨_, rfl, .inl ⟨rfl, _, SqL.of (eZ.obj _ _ rfl hl4)⟩, _, rfl, _, rfl, d, p0, nm, rfl, hDB.new hz, by omega, fun H9 v e9 hD9 hv0 hv1 => ⟨(by show 2 ≤ sizeLine; decide), fun r2 hr2 => ?_⟩⟩
        have eY : ExtL H' _ := (eZ.trans e9).trans (Ext.new hr2 (.tup [.str "do", .int v]))
        obtain ⟨vn, rfl⟩ : ∃ vn : Nat, v = (vn : Int) := ⟨v.toNat, by omega⟩
        have nx := run_next (nm := nm) (t := t) (k := k) (x := .mv vn) hdp hds eY (eY.obj _ _ rfl hl4) (gst_mv (by omega)) (.tup (SqT.of upd_same) (.cons (.str _) (.cons (.int _) .nil)))
        refine ⟨l, rs, .ref r2, rfl, rfl, eY.obj _ _ rfl hl4, ?_, _, _, rs ++ [.ref r2], ds ++ [_], rfl, (e4.trans eY).upd_new hl, (hD9.new hr2).upd hD hl, upd_same, nx.1, by rw [List.length_append, hlen]; rfl, nx.2⟩
        rw [dpAll_len hdp, rnD_len]
        exact small1000 (by omega)
      · have c10 : PyData.eqv (.tuple []) (.tuple []) = false := by simpa using c9
        exact absurd c10 (by decide +kernel)
  · subst eσ
    refine ⟨_, rfl, l, rs, rfl, .inl ⟨SqL.of hl4, fun pr hpr => ?_⟩⟩
    exact q _ _ ds (e4.trans (Ext.new hpr _)) (hD4.new hpr) (.tup (SqT.of upd_same) ((Ext.new (dk := true) hpr _).dps hdp)) ⟨by omega, hds⟩
theorem ok_runsL (F : Fun K "_law_run" "_law_run" sRunL f fd) (mF : mg "_law_run" = some (.ref f)) (bF : Binds K fd ["draws", "moves", "depth", "times"] []) (G : Glb mg) (DT : Def P w K mg base "_law_take" 1 ["draws", "bound"] spTake) : ∀ N : Nat, Def P w K mg base "_law_run" (N + 1) ["draws", "moves", "depth", "times"] (spRunL K N)
  | 0 => by
    have no : ∀ vs H Q E, ¬ spRunL K 0 vs H Q E := fun vs H Q E h => by
      obtain ⟨_, _, nm, k, t, _, hn, _⟩ := h
      omega
    exact ⟨f, fd, ⟨fun vs H Q E h => absurd h (no vs H Q E), fun A outer s H args us vs Q E _ _ _ _ h => absurd h (no vs H Q E)⟩, mF, F.kp, bF⟩
  | N + 1 => ⟨f, fd, ok_runL F G (by omega) DT (ok_runsL F mF bF G DT N), mF, F.kp, bF⟩
end
end Mint


namespace Mint
open PySem PySem.Spec PyProof.Rows L2 GxR Gx RZ

/-! ### what a run needs and changes -/
structure GF (n : Nat) (e : E2) : Prop where
  ge : GE n e
  fin : ∀ i, i < n → 0 ≤ cg e.1 i + cg e.2 i
theorem GF.el {n : Nat} {e : E2} (h : GF n e) : EL n e := h.ge.el
theorem gf_zero (n : Nat) : GF n (ezero n) := ⟨ge_zero n, fun i hi => by
  show 0 ≤ cg (vzero n) i + cg (vzero n) i
  rw [cg_zero hi]
  exact Int.le_refl 0⟩
theorem gf_two {n : Nat} {a b : E2} (ha : GF n a) (hb : GF n b) : GF n (eTwo a b) := by
  refine ⟨ge_two ha.ge hb.el, fun i hi => ?_⟩
  rw [two1 ha.el hb.el hi, two2 ha.el hb.el hi]
  have h1 := ha.fin i hi
  have h2 := hb.fin i hi
  unfold smax
  split <;> omega
theorem two_zero {n : Nat} {a : E2} (ha : GF n a) : eTwo a (ezero n) = a := by
  refine e2_ext (el_two ha.el (el_zero n)) ha.el (fun i hi => ?_) fun i hi => ?_
  · rw [two1 ha.el (el_zero n) hi]
    have := ha.fin i hi
    show smax (cg a.1 i) (cg (vzero n) i - cg a.2 i) = _
    rw [cg_zero hi]
    unfold smax
    split <;> omega
  · rw [two2 ha.el (el_zero n) hi]
    show _ + cg (vzero n) i = _
    rw [cg_zero hi]
    omega
theorem gf_many {n : Nat} {a : E2} (ha : GF n a) : ∀ k : Nat, GF n (eMany a ((k + 1 : Nat) : Int))
  | 0 => by rw [many_one ha.el]; exact ha
  | k + 1 => by rw [many_succ k ha.el]; exact gf_two ha (gf_many ha k)
def mvAt (mv : List Mv) (m : Nat) : Mv := mv.getD m ⟨Str.empty, [], [], []⟩
theorem mvAt_get {mv : List Mv} {m : Nat} (h : m < mv.length) : mv[m]? = some (mvAt mv m) := by
  unfold mvAt
  rw [List.getD_eq_getElem?_getD, List.getElem?_eq_getElem h]
  rfl
def eMv (mv : List Mv) (m : Nat) : E2 := ((mvAt mv m).take, vsub (mvAt mv m).high (mvAt mv m).take)
/-- the moves' stocks are of n kinds, from 0 to B -/
structure MvOk (n : Nat) (mv : List Mv) : Prop where
  take : ∀ m, m < mv.length → Small n 1000 (mvAt mv m).take
  high : ∀ m, m < mv.length → Small n 1000 (mvAt mv m).high
theorem GoodBk.mvOk {kn : List Str} {mv : List Mv} (h : GoodBk kn mv) : MvOk kn.length mv :=
  ⟨fun m hm => (h.moves m _ (mvAt_get hm)).take, fun m hm => (h.moves m _ (mvAt_get hm)).high⟩
theorem small_cg {n i : Nat} {top : Int} {es : List Int} (h : Small n top es) (hi : i < n) : 0 ≤ cg es i ∧ cg es i ≤ top := h.2 _ (cg_mem (by rw [h.1]; exact hi))
theorem gf_mv {n m : Nat} {mv : List Mv} (h : MvOk n mv) (hm : m < mv.length) : GF n (eMv mv m) := by
  have a := h.take m hm
  have b := h.high m hm
  refine ⟨⟨a.1, len_zip b.1 a.1, fun i hi => (small_cg a hi).1⟩, fun i hi => ?_⟩
  show 0 ≤ cg (mvAt mv m).take i + cg (vsub (mvAt mv m).high (mvAt mv m).take) i
  rw [cg_zip (by rw [b.1]; exact hi) (by rw [a.1]; exact hi)]
  have := (small_cg b hi).1
  omega
mutual
def eSt (mv : List Mv) (n : Nat) : RSt → E2
  | .mv m => eMv mv m
  | .rep k r => eMany (eRn mv n r) k
def eRn (mv : List Mv) (n : Nat) : List RSt → E2
  | [] => ezero n
  | s :: r => eTwo (eSt mv n s) (eRn mv n r)
end
mutual
def lnSt : RSt → Nat
  | .mv _ => 1
  | .rep k r => k * lnRn r
def lnRn : List RSt → Nat
  | [] => 0
  | s :: r => lnSt s + lnRn r
end
mutual
def plSt : RSt → List Nat
  | .mv m => [m]
  | .rep k r => (List.replicate k (plRn r)).flatten
def plRn : List RSt → List Nat
  | [] => []
  | s :: r => plSt s ++ plRn r
end
mutual
theorem pl_lenSt : ∀ s : RSt, (plSt s).length = lnSt s
  | .mv m => rfl
  | .rep k r => by
    rw [plSt, lnSt, List.length_flatten, List.map_replicate, List.sum_replicate_nat, pl_lenRn r]
theorem pl_lenRn : ∀ r : List RSt, (plRn r).length = lnRn r
  | [] => rfl
  | s :: r => by rw [plRn, lnRn, List.length_append, pl_lenSt s, pl_lenRn r]
end
def eMs (mv : List Mv) (n : Nat) : List Nat → E2
  | [] => ezero n
  | m :: r => eTwo (eMv mv m) (eMs mv n r)
section
variable {mv : List Mv} {n : Nat}
theorem gf_ms (h : MvOk n mv) : ∀ ms : List Nat, (∀ m ∈ ms, m < mv.length) → GF n (eMs mv n ms)
  | [], _ => gf_zero n
  | m :: r, hm => gf_two (gf_mv h (hm m List.mem_cons_self)) (gf_ms h r fun x hx => hm x (List.mem_cons_of_mem _ hx))
theorem eMs_app (h : MvOk n mv) : ∀ a b : List Nat, (∀ m ∈ a, m < mv.length) → (∀ m ∈ b, m < mv.length) → eMs mv n (a ++ b) = eTwo (eMs mv n a) (eMs mv n b)
  | [], b, _, hb => (zero_two (gf_ms h b hb).ge).symm
  | m :: a, b, ha, hb => by
    have ha' := fun x hx => ha x (List.mem_cons_of_mem m hx)
    rw [List.cons_append, eMs, eMs, eMs_app h a b ha' hb, two_assoc (gf_mv h (ha m List.mem_cons_self)).el (gf_ms h a ha').el (gf_ms h b hb).el]
theorem eMs_rep (h : MvOk n mv) (a : List Nat) (ha : ∀ m ∈ a, m < mv.length) : ∀ k : Nat, eMs mv n (List.replicate (k + 1) a).flatten = eMany (eMs mv n a) ((k + 1 : Nat) : Int)
  | 0 => by
    rw [many_one (gf_ms h a ha).el]
    simp
  | k + 1 => by
    rw [many_succ k (gf_ms h a ha).el, ← eMs_rep h a ha k, List.replicate_succ, List.flatten_cons, eMs_app h _ _ ha fun m hm => ?_]
    obtain ⟨l, hl, hm'⟩ := List.mem_flatten.mp hm
    rw [(List.mem_replicate.mp hl).2] at hm'
    exact ha m hm'
theorem pl_rn_all {P : Nat → Prop} : ∀ r : List RSt, (∀ s ∈ r, ∀ m ∈ plSt s, P m) → ∀ m ∈ plRn r, P m
  | [], _ => fun m hm => by cases hm
  | s :: r, h => fun m hm => by
    rw [plRn] at hm
    rcases List.mem_append.mp hm with z | z
    · exact h s List.mem_cons_self m z
    · exact pl_rn_all r (fun x hx => h x (List.mem_cons_of_mem _ hx)) m z
theorem pl_ok {nm t : Nat} : ∀ (d : Nat) (s : RSt), GSt nm t d s → ∀ m ∈ plSt s, m < nm
  | 0, s, h => by
    obtain ⟨m, rfl, hm⟩ := h
    intro x hx
    rw [List.mem_singleton.mp hx]
    exact hm
  | d + 1, s, h => by
    rcases h with ⟨m, rfl, hm⟩ | ⟨k, r, rfl, _, _, _, _, h⟩
    · intro x hx
      rw [List.mem_singleton.mp hx]
      exact hm
    · intro x hx
      rw [plSt] at hx
      obtain ⟨l, hl, hx'⟩ := List.mem_flatten.mp hx
      rw [(List.mem_replicate.mp hl).2] at hx'
      exact pl_rn_all r (fun y hy => pl_ok d y (h y hy)) x hx'
theorem GRn.pl {nm t d : Nat} {r : List RSt} (h : GRn nm t d r) : ∀ m ∈ plRn r, m < nm := pl_rn_all r fun s hs => pl_ok d s (h.all s hs)
theorem rn_pl (h : MvOk n mv) : ∀ r : List RSt, (∀ s ∈ r, eSt mv n s = eMs mv n (plSt s) ∧ ∀ m ∈ plSt s, m < mv.length) → eRn mv n r = eMs mv n (plRn r)
  | [], _ => rfl
  | s :: r, hs => by
    have hs' := fun x hx => hs x (List.mem_cons_of_mem s hx)
    rw [eRn, plRn, eMs_app h _ _ (hs s List.mem_cons_self).2 (pl_rn_all r fun x hx => (hs' x hx).2), (hs s List.mem_cons_self).1, rn_pl h r hs']
theorem st_pl (h : MvOk n mv) {t : Nat} : ∀ (d : Nat) (s : RSt), GSt mv.length t d s → eSt mv n s = eMs mv n (plSt s) := by
  have one : ∀ m, m < mv.length → eSt mv n (.mv m) = eMs mv n (plSt (.mv m)) := fun m hm => by
    show eMv mv m = eTwo (eMv mv m) (ezero n)
    rw [two_zero (gf_mv h hm)]
  intro d
  induction d with
  | zero =>
    rintro s ⟨m, rfl, hm⟩
    exact one m hm
  | succ d ih =>
    rintro s (⟨m, rfl, hm⟩ | ⟨k, r, rfl, hk, _, _, _, hr⟩)
    · exact one m hm
    · obtain ⟨k, rfl⟩ : ∃ j, k = j + 1 := ⟨k - 1, by omega⟩
      have e := rn_pl h r fun s hs => ⟨ih s (hr s hs), pl_ok d s (hr s hs)⟩
      rw [eSt, plSt, e, eMs_rep h _ (pl_rn_all r fun s hs => pl_ok d s (hr s hs))]
theorem GRn.eq (h : MvOk n mv) {t d : Nat} {r : List RSt} (hr : GRn mv.length t d r) : eRn mv n r = eMs mv n (plRn r) := rn_pl h r fun s hs => ⟨st_pl h d s (hr.all s hs), pl_ok d s (hr.all s hs)⟩
theorem GSt.gf (h : MvOk n mv) {t d : Nat} {s : RSt} (hs : GSt mv.length t d s) : GF n (eSt mv n s) := by
  rw [st_pl h d s hs]
  exact gf_ms h _ (pl_ok d s hs)
theorem GRn.gf (h : MvOk n mv) {t d : Nat} {r : List RSt} (hr : GRn mv.length t d r) : GF n (eRn mv n r) := by
  rw [hr.eq h]
  exact gf_ms h _ hr.pl
theorem eRn_take (h : MvOk n mv) {t d : Nat} {r : List RSt} (hr : ∀ s ∈ r, GSt mv.length t d s) {i : Nat} {s : RSt} (hi : r[i]? = some s) : eRn mv n (r.take (i + 1)) = eTwo (eRn mv n (r.take i)) (eSt mv n s) := by
  have k : ∀ (a : List RSt), (∀ x ∈ a, GSt mv.length t d x) → ∀ s, GSt mv.length t d s → eRn mv n (a ++ [s]) = eTwo (eRn mv n a) (eSt mv n s) := by
    intro a
    induction a with
    | nil =>
      intro _ s hs
      show eTwo (eSt mv n s) (ezero n) = eTwo (ezero n) (eSt mv n s)
      rw [two_zero (hs.gf h), zero_two (hs.gf h).ge]
    | cons x a ih =>
      intro ha s hs
      have ha' := fun y hy => ha y (List.mem_cons_of_mem x hy)
      have ga : GF n (eRn mv n a) := by
        rw [rn_pl h a fun y hy => ⟨st_pl h d y (ha' y hy), pl_ok d y (ha' y hy)⟩]
        exact gf_ms h _ (pl_rn_all a fun y hy => pl_ok d y (ha' y hy))
      rw [List.cons_append, eRn, eRn, ih ha' s hs, two_assoc ((ha x List.mem_cons_self).gf h).el ga.el (hs.gf h).el]
  rw [List.take_add_one, hi]
  exact k _ (fun x hx => hr x (List.mem_of_mem_take hx)) s (hr s (List.mem_of_getElem? hi))
/-! ### how great the numbers can be -/
def Bd (n : Nat) (M : Int) (e : E2) : Prop := ∀ i, i < n → cg e.1 i ≤ M ∧ -M ≤ cg e.2 i ∧ cg e.2 i ≤ M
theorem bd_mv (h : MvOk n mv) {m : Nat} (hm : m < mv.length) : Bd n 1000 (eMv mv m) := fun i hi => by
  have a := h.take m hm
  have b := h.high m hm
  have a1 := small_cg a hi
  have b1 := small_cg b hi
  refine ⟨a1.2, ?_⟩
  show -1000 ≤ cg (vsub (mvAt mv m).high (mvAt mv m).take) i ∧ cg (vsub (mvAt mv m).high (mvAt mv m).take) i ≤ 1000
  rw [cg_zip (by rw [b.1]; exact hi) (by rw [a.1]; exact hi)]
  omega
theorem bd_two {a b : E2} {M N : Int} (ha : GE n a) (hb : EL n b) (h1 : Bd n M a) (h2 : Bd n N b) (hn : ∀ i, i < n → 0 ≤ cg b.1 i) : Bd n (M + N) (eTwo a b) := fun i hi => by
  have x := h1 i hi
  have y := h2 i hi
  have z := ha.pos i hi
  have u := hn i hi
  rw [two1 ha.el hb hi, two2 ha.el hb hi]
  unfold smax
  split <;> omega
theorem bd_ms (h : MvOk n mv) : ∀ ms : List Nat, (∀ m ∈ ms, m < mv.length) → Bd n (1000 * (ms.length : Int)) (eMs mv n ms)
  | [], _ => fun i hi => by
    have e1 : cg (ezero n).1 i = 0 := cg_zero hi
    have e2 : cg (ezero n).2 i = 0 := cg_zero hi
    show cg (ezero n).1 i ≤ _ ∧ _ ≤ cg (ezero n).2 i ∧ cg (ezero n).2 i ≤ _
    rw [e1, e2]
    simp
  | m :: r, hm => by
    have hr := fun x hx => hm x (List.mem_cons_of_mem m hx)
    have k := bd_two (gf_mv h (hm m List.mem_cons_self)).ge (gf_ms h r hr).el (bd_mv h (hm m List.mem_cons_self)) (bd_ms h r hr) (gf_ms h r hr).ge.pos
    intro i hi
    have k2 := k i hi
    show cg (eTwo (eMv mv m) (eMs mv n r)).1 i ≤ _ ∧ _ ≤ cg (eTwo (eMv mv m) (eMs mv n r)).2 i ∧ cg (eTwo (eMv mv m) (eMs mv n r)).2 i ≤ _
    rw [List.length_cons]
    omega
theorem ln_le {nm t : Nat} : ∀ (d : Nat) (s : RSt), GSt nm t d s → lnSt s ≤ (3 * (t + 1)) ^ d := by
  have sum : ∀ (B : Nat) (r : List RSt), (∀ s ∈ r, lnSt s ≤ B) → lnRn r ≤ r.length * B := by
    intro B r
    induction r with
    | nil => intro _; simp [lnRn]
    | cons s r ih =>
      intro h
      have a := h s List.mem_cons_self
      have b := ih fun x hx => h x (List.mem_cons_of_mem _ hx)
      rw [lnRn, List.length_cons, Nat.add_mul]
      omega
  intro d
  induction d with
  | zero =>
    rintro s ⟨m, rfl, _⟩
    simp [lnSt]
  | succ d ih =>
    rintro s (⟨m, rfl, _⟩ | ⟨k, r, rfl, _, hk, _, h3, hr⟩)
    · rw [lnSt]
      exact Nat.one_le_pow _ _ (by omega)
    · have a := sum _ r fun x hx => ih x (hr x hx)
      rw [lnSt, Nat.pow_succ]
      calc k * lnRn r ≤ (t + 1) * (3 * (3 * (t + 1)) ^ d) := Nat.mul_le_mul (by omega) (Nat.le_trans a (Nat.mul_le_mul_right _ h3))
        _ = (3 * (t + 1)) ^ d * (3 * (t + 1)) := by rw [Nat.mul_comm, Nat.mul_comm 3, Nat.mul_assoc]
theorem ln_sum {B : Nat} : ∀ r : List RSt, (∀ s ∈ r, lnSt s ≤ B) → lnRn r ≤ r.length * B
  | [], _ => by simp [lnRn]
  | s :: r, h => by
    have a := h s List.mem_cons_self
    have b := ln_sum r fun x hx => h x (List.mem_cons_of_mem _ hx)
    rw [lnRn, List.length_cons, Nat.add_mul]
    omega
theorem GRn.ln {nm t d : Nat} {r : List RSt} (h : GRn nm t d r) : lnRn r ≤ 3 * (3 * (t + 1)) ^ d :=
  Nat.le_trans (ln_sum r fun x hx => ln_le d x (h.all x hx)) (Nat.mul_le_mul_right _ h.three)
/-- counts below 2 ^ 100, at most 20 levels -/
theorem pow_small {t d : Nat} (ht : t < 2 ^ 100) (hd : d ≤ 20) : 3 * (3 * (t + 1)) ^ d ≤ 2 ^ 2100 := by
  have h1 : 3 * (t + 1) ≤ 2 ^ 102 := by
    have : (2 : Nat) ^ 102 = 4 * 2 ^ 100 := by decide
    omega
  have h2 : (3 * (t + 1)) ^ d ≤ (2 ^ 102) ^ d := Nat.pow_le_pow_left h1 d
  have h3 : (2 ^ 102) ^ d ≤ (2 ^ 102) ^ 20 := Nat.pow_le_pow_right (by decide) hd
  have h4 : 3 * ((2 : Nat) ^ 102) ^ 20 ≤ 2 ^ 2100 := by decide
  omega
theorem GRn.small {nm t d : Nat} {r : List RSt} (h : GRn nm t d r) (ht : t < 2 ^ 100) (hd : d ≤ 20) : lnRn r ≤ 2 ^ 2100 := Nat.le_trans h.ln (pow_small ht hd)
theorem GRn.bd (h : MvOk n mv) {t d : Nat} {r : List RSt} (hr : GRn mv.length t d r) (ht : t < 2 ^ 100) (hd : d ≤ 20) : ∀ i, i < n → (cg (eRn mv n r).1 i).natAbs < 2 ^ 2200 ∧ (cg (eRn mv n r).2 i).natAbs < 2 ^ 2200 := fun i hi => by
  rw [hr.eq h]
  have b := bd_ms h _ hr.pl i hi
  have p := (gf_ms h _ hr.pl).ge.pos i hi
  rw [pl_lenRn] at b
  have s := hr.small ht hd
  have e : 1000 * (2 : Nat) ^ 2100 < 2 ^ 2200 := by decide
  generalize cg (eMs mv n (plRn r)).1 i = x at *
  generalize cg (eMs mv n (plRn r)).2 i = y at *
  generalize (2 : Nat) ^ 2100 = A at *
  generalize (2 : Nat) ^ 2200 = B at *
  omega
end
end Mint


namespace Mint
open PySem PySem.Spec PyProof.Rows L2 GxR Gx RZ

/-! ### the program's vectors -/
structure GlbK (mg : Str → Option Value) : Prop where
  sum : mg "sum" = none
  any : mg "any" = none
theorem dp_tup_inv {K : PySem.W.Frag} {H : Hp} {v : V} {ds : List PyData} (h : Dp K H v (.tuple ds)) : ∃ a xs, v = .ref a ∧ SqT K H a xs ∧ DpAll K H xs ds := by
  cases h with
  | @tup a xs _ hS hD => exact ⟨a, xs, rfl, hS, hD⟩
theorem dp_int_inv {K : PySem.W.Frag} {H : Hp} {v : V} {i : Int} (h : Dp K H v (.int i)) : v = .int i := by
  cases h with
  | int i => rfl
theorem dp_str_inv {K : PySem.W.Frag} {H : Hp} {v : V} {i : Str} (h : Dp K H v (.str i)) : v = .str i := by
  cases h with
  | str i => rfl
theorem dpAll_ints {K : PySem.W.Frag} {H : Hp} : ∀ {es : List Int} {xs : List V}, DpAll K H xs (es.map PyData.int) → xs = es.map V.int
  | [], _, .nil => rfl
  | e :: r, _, .cons h t => by rw [dp_int_inv h, dpAll_ints t]; rfl
theorem iv_inv {K : PySem.W.Frag} {H : Hp} {v : V} {es : List Int} (h : Dp K H v (intsD es)) : ∃ a, v = .ref a ∧ SqT K H a (es.map V.int) := by
  obtain ⟨a, xs, rfl, hS, hD⟩ := dp_tup_inv h
  exact ⟨a, rfl, dpAll_ints hD ▸ hS⟩
theorem iv_mk {K : PySem.W.Frag} {H : Hp} {p : Addr} {es : List Int} (h : H p = some (.tup (es.map V.int))) : Dp K H (.ref p) (intsD es) := .tup (SqT.of h) (dp_ints es)
def e2D (e : E2) : PyData := .tuple [intsD e.1, intsD e.2]
theorem e2_inv {K : PySem.W.Frag} {H : Hp} {v : V} {e : E2} (h : Dp K H v (e2D e)) : ∃ a x1 x2, v = .ref a ∧ SqT K H a [x1, x2] ∧ Dp K H x1 (intsD e.1) ∧ Dp K H x2 (intsD e.2) := by
  obtain ⟨a, xs, rfl, hS, hD⟩ := dp_tup_inv h
  obtain ⟨x1, x2, d1, d2, rfl, e, h1, h2⟩ := dp_two hD (dpAll_len hD)
  cases e
  exact ⟨a, x1, x2, rfl, hS, h1, h2⟩
theorem e2_mk {K : PySem.W.Frag} {H : Hp} {p : Addr} {x1 x2 : V} {e : E2} (h : H p = some (.tup [x1, x2])) (h1 : Dp K H x1 (intsD e.1)) (h2 : Dp K H x2 (intsD e.2)) : Dp K H (.ref p) (e2D e) := .tup (SqT.of h) (.cons h1 (.cons h2 .nil))
def spZip (K : PySem.W.Frag) (g : Int → Int → Int) : Sp := fun vs H Q _ => ∃ (u v : V) (xs ys : List Int), vs = [u, v] ∧ Dp K H u (intsD xs) ∧ Dp K H v (intsD ys) ∧ xs.length = ys.length ∧ xs.length ≤ 1000 ∧
  ∀ (H' : Hp) (p : V), ExtP H H' → Dp K H' p (intsD (List.zipWith g xs ys)) → Q p H'
def spScaled (K : PySem.W.Frag) : Sp := fun vs H Q _ => ∃ (u : V) (xs : List Int) (t : Int), vs = [u, .int t] ∧ Dp K H u (intsD xs) ∧ xs.length ≤ 1000 ∧ (∀ x ∈ xs, x.natAbs < 2 ^ 4000) ∧ t.natAbs < 2 ^ 4000 ∧
  ∀ (H' : Hp) (p : V), ExtP H H' → Dp K H' p (intsD (vsc xs t)) → Q p H'
def cov1 (h l : Int) : Bool := decide (h = -1) || (!decide (l = -1) && decide (l ≤ h))
def covB (xs ys : List Int) : Bool := (List.zipWith cov1 xs ys).all id
def spCovers (K : PySem.W.Frag) : Sp := fun vs H Q _ => ∃ (u v : V) (xs ys : List Int), vs = [u, v] ∧ Dp K H u (intsD xs) ∧ Dp K H v (intsD ys) ∧ xs.length = ys.length ∧ xs.length ≤ 1000 ∧
  ∀ (H' : Hp), ExtP H H' → Q (.bl (covB xs ys)) H'
abbrev sPlus : Stmt := top 2
theorem scPlus : FnScope ["first", "second", "entry", "other"] ["first", "second"] (defScope sPlus) := ⟨rfl, rfl, rfl, by decide +kernel, rfl, by decide +kernel, by decide +kernel⟩
abbrev sLess : Stmt := top 3
theorem scLess : FnScope ["first", "second", "entry", "other"] ["first", "second"] (defScope sLess) := ⟨rfl, rfl, rfl, by decide +kernel, rfl, by decide +kernel, by decide +kernel⟩
abbrev sScaled : Stmt := top 4
theorem scScaled : FnScope ["entries", "times", "entry"] ["entries", "times"] (defScope sScaled) := ⟨rfl, rfl, rfl, by decide +kernel, rfl, by decide +kernel, by decide +kernel⟩
abbrev sCovers : Stmt := top 6
theorem scCovers : FnScope ["stock", "other", "high", "low"] ["stock", "other"] (defScope sCovers) := ⟨rfl, rfl, rfl, by decide +kernel, rfl, by decide +kernel, by decide +kernel⟩
abbrev sGreater : Stmt := top 16
theorem scGreater : FnScope ["first", "second", "entry", "other"] ["first", "second"] (defScope sGreater) := ⟨rfl, rfl, rfl, by decide +kernel, rfl, by decide +kernel, by decide +kernel⟩
section
variable {P : Program} {w : World} {K : PySem.W.Frag} {mg : Str → Option Value} {base : Heap} {f T : Addr} {fd : FuncData}
theorem ok_Plus (F : Fun K "plus" "plus" sPlus f fd) (G : Glb mg) : FnOk P w K mg base CX0 (1) f fd ["first", "second"] (spZip K fun x y => x + y) := by
  refine F.ok scPlus (fun vs H Q E h => ?_) (fun cdv A outer s H vs Q E hr h => ?_)
  · obtain ⟨u, v, xs, ys, rfl, _⟩ := h
    rfl
  obtain ⟨u, v, xs, ys, rfl, hu, hv, hl, hl2, q⟩ := h
  have nd := scPlus.nd
  refine ⟨_, ((pss_one (ps_ret (pe_callTy call_tuple_of rfl G.tuple (by decide +kernel) (pa_cons (pe_lc (own := [("entry", 2), ("other", 3)]) (g := (L2.gTup K 2 (gCons (gName 2) (gCons (gName 3) gNil)))) (te := (tOp (rI0 fun i j => .int (i + j)) (tVar 2) (tVar 3)))  rfl nd (pi_zipA rfl G.zip (pa_cons (pv 0) (pa_cons (pv 1) pa_nil))) (blkOk_by (own := [("entry", 2), ("other", 3)]) (N := ["first", "second", "entry", "other"]) (sc := defScope sPlus) (by decide +kernel)) (fun _ _ _ _ _ => (pg_tup (n := 2) (by rfl) (pgs_cons (pg_name (i := 2) nd rfl (Or.inl rfl)) (pgs_cons (pg_name (i := 3) nd rfl (Or.inl rfl)) pgs_nil)))) (fun _ _ _ _ _ => pts_nil) (fun _ _ _ _ _ => (pe_op op_add (pv 2) (pv 3)))) pa_nil))))), ?_⟩
  obtain ⟨aa, rfl, sa⟩ := iv_inv hu
  obtain ⟨ab, rfl, sb⟩ := iv_inv hv
  have hzl : (List.zipWith (fun x y : Int => x + y) xs ys).length = xs.length := by rw [List.length_zipWith, hl, Nat.min_self]
  refine ⟨_, rfl, _, rfl, aa, ab, _, _, rfl, .inr ⟨sa, sb, fun D hD => ?_⟩⟩
  refine lc_zipT (xs := xs.map V.int) (ys := ys.map V.int) (by rw [List.length_map, List.length_map, hl]) (fun i H' => ExtP H H' ∧ H' D = some (.lst (((List.zipWith (fun x y : Int => x + y) xs ys).take i).map V.int))) ⟨Ext.new hD _, upd_same⟩ (fun i H' _ p => ⟨p.1.sqT sa, p.1.sqT sb⟩) (fun i x y T' H' hx hy ⟨p1, p2⟩ hT' => ?_) fun H' ⟨p1, p2⟩ => ?_
  · rw [List.getElem?_map, Option.map_eq_some_iff] at hx hy
    obtain ⟨n, hn, rfl⟩ := hx
    obtain ⟨m, hm, rfl⟩ := hy
    have e5 : ExtP H (upd H' T' (.tup [.int n, .int m])) := p1.trans (Ext.new hT' _)
    have hDT : D ≠ T' := ne_of_none p2 hT'
    refine ⟨T', _, rfl, SqT.of upd_same, rfl, .int n, [.int m], rfl, .int m, [], rfl, rfl, rfl, _, rfl, _, rfl, n, m, rfl, rfl, _, (upd_ne hDT).trans p2, ?_, ?_, ?_⟩
    · rw [List.length_map, List.length_take]
      exact small1000 (by omega)
    · exact e5.upd_new hD
    · rw [upd_same, List.take_add_one, List.getElem?_zipWith, hn, hm]
      simp
  · rw [List.length_map, ← hzl, List.take_length] at p2
    refine ⟨D, _, rfl, .inl ⟨SqL.of p2, fun p hp => ?_⟩⟩
    exact q _ _ (p1.trans (Ext.new hp _)) (iv_mk upd_same)
theorem ok_Less (F : Fun K "less" "less" sLess f fd) (G : Glb mg) : FnOk P w K mg base CX0 (1) f fd ["first", "second"] (spZip K fun x y => x - y) := by
  refine F.ok scLess (fun vs H Q E h => ?_) (fun cdv A outer s H vs Q E hr h => ?_)
  · obtain ⟨u, v, xs, ys, rfl, _⟩ := h
    rfl
  obtain ⟨u, v, xs, ys, rfl, hu, hv, hl, hl2, q⟩ := h
  have nd := scLess.nd
  refine ⟨_, ((pss_one (ps_ret (pe_callTy call_tuple_of rfl G.tuple (by decide +kernel) (pa_cons (pe_lc (own := [("entry", 2), ("other", 3)]) (g := (L2.gTup K 2 (gCons (gName 2) (gCons (gName 3) gNil)))) (te := (tOp (rI0 fun i j => .int (i - j)) (tVar 2) (tVar 3)))  rfl nd (pi_zipA rfl G.zip (pa_cons (pv 0) (pa_cons (pv 1) pa_nil))) (blkOk_by (own := [("entry", 2), ("other", 3)]) (N := ["first", "second", "entry", "other"]) (sc := defScope sLess) (by decide +kernel)) (fun _ _ _ _ _ => (pg_tup (n := 2) (by rfl) (pgs_cons (pg_name (i := 2) nd rfl (Or.inl rfl)) (pgs_cons (pg_name (i := 3) nd rfl (Or.inl rfl)) pgs_nil)))) (fun _ _ _ _ _ => pts_nil) (fun _ _ _ _ _ => (pe_op op_sub (pv 2) (pv 3)))) pa_nil))))), ?_⟩
  obtain ⟨aa, rfl, sa⟩ := iv_inv hu
  obtain ⟨ab, rfl, sb⟩ := iv_inv hv
  have hzl : (List.zipWith (fun x y : Int => x - y) xs ys).length = xs.length := by rw [List.length_zipWith, hl, Nat.min_self]
  refine ⟨_, rfl, _, rfl, aa, ab, _, _, rfl, .inr ⟨sa, sb, fun D hD => ?_⟩⟩
  refine lc_zipT (xs := xs.map V.int) (ys := ys.map V.int) (by rw [List.length_map, List.length_map, hl]) (fun i H' => ExtP H H' ∧ H' D = some (.lst (((List.zipWith (fun x y : Int => x - y) xs ys).take i).map V.int))) ⟨Ext.new hD _, upd_same⟩ (fun i H' _ p => ⟨p.1.sqT sa, p.1.sqT sb⟩) (fun i x y T' H' hx hy ⟨p1, p2⟩ hT' => ?_) fun H' ⟨p1, p2⟩ => ?_
  · rw [List.getElem?_map, Option.map_eq_some_iff] at hx hy
    obtain ⟨n, hn, rfl⟩ := hx
    obtain ⟨m, hm, rfl⟩ := hy
    have e5 : ExtP H (upd H' T' (.tup [.int n, .int m])) := p1.trans (Ext.new hT' _)
    have hDT : D ≠ T' := ne_of_none p2 hT'
    refine ⟨T', _, rfl, SqT.of upd_same, rfl, .int n, [.int m], rfl, .int m, [], rfl, rfl, rfl, _, rfl, _, rfl, n, m, rfl, rfl, _, (upd_ne hDT).trans p2, ?_, ?_, ?_⟩
    · rw [List.length_map, List.length_take]
      exact small1000 (by omega)
    · exact e5.upd_new hD
    · rw [upd_same, List.take_add_one, List.getElem?_zipWith, hn, hm]
      simp
  · rw [List.length_map, ← hzl, List.take_length] at p2
    refine ⟨D, _, rfl, .inl ⟨SqL.of p2, fun p hp => ?_⟩⟩
    exact q _ _ (p1.trans (Ext.new hp _)) (iv_mk upd_same)
theorem ok_Greater (F : Fun K "greater" "greater" sGreater f fd) (G : Glb mg) : FnOk P w K mg base CX0 (1) f fd ["first", "second"] (spZip K fun x y => if y > x then y else x) := by
  refine F.ok scGreater (fun vs H Q E h => ?_) (fun cdv A outer s H vs Q E hr h => ?_)
  · obtain ⟨u, v, xs, ys, rfl, _⟩ := h
    rfl
  obtain ⟨u, v, xs, ys, rfl, hu, hv, hl, hl2, q⟩ := h
  have nd := scGreater.nd
  refine ⟨_, ((pss_one (ps_ret (pe_callTy call_tuple_of rfl G.tuple (by decide +kernel) (pa_cons (pe_lc (own := [("entry", 2), ("other", 3)]) (g := (L2.gTup K 2 (gCons (gName 2) (gCons (gName 3) gNil)))) (te := (tCB (fun xs H Q => ∃ i j, xs = [.int i, .int j] ∧ Q (.int (if j > i then j else i)) H) (tCons (tVar 2) (tCons (tVar 3) tNil))))  rfl nd (pi_zipA rfl G.zip (pa_cons (pv 0) (pa_cons (pv 1) pa_nil))) (blkOk_by (own := [("entry", 2), ("other", 3)]) (N := ["first", "second", "entry", "other"]) (sc := defScope sGreater) (by decide +kernel)) (fun _ _ _ _ _ => (pg_tup (n := 2) (by rfl) (pgs_cons (pg_name (i := 2) nd rfl (Or.inl rfl)) (pgs_cons (pg_name (i := 3) nd rfl (Or.inl rfl)) pgs_nil)))) (fun _ _ _ _ _ => pts_nil) (fun _ _ _ _ _ => (pe_callB (call_max2 rfl) rfl G.max (by decide +kernel) (pa_cons (pv 2) (pa_cons (pv 3) pa_nil))))) pa_nil))))), ?_⟩
  obtain ⟨aa, rfl, sa⟩ := iv_inv hu
  obtain ⟨ab, rfl, sb⟩ := iv_inv hv
  have hzl : (List.zipWith (fun x y : Int => if y > x then y else x) xs ys).length = xs.length := by rw [List.length_zipWith, hl, Nat.min_self]
  refine ⟨_, rfl, _, rfl, aa, ab, _, _, rfl, .inr ⟨sa, sb, fun D hD => ?_⟩⟩
  refine lc_zipT (xs := xs.map V.int) (ys := ys.map V.int) (by rw [List.length_map, List.length_map, hl]) (fun i H' => ExtP H H' ∧ H' D = some (.lst (((List.zipWith (fun x y : Int => if y > x then y else x) xs ys).take i).map V.int))) ⟨Ext.new hD _, upd_same⟩ (fun i H' _ p => ⟨p.1.sqT sa, p.1.sqT sb⟩) (fun i x y T' H' hx hy ⟨p1, p2⟩ hT' => ?_) fun H' ⟨p1, p2⟩ => ?_
  · rw [List.getElem?_map, Option.map_eq_some_iff] at hx hy
    obtain ⟨n, hn, rfl⟩ := hx
    obtain ⟨m, hm, rfl⟩ := hy
    have e5 : ExtP H (upd H' T' (.tup [.int n, .int m])) := p1.trans (Ext.new hT' _)
    have hDT : D ≠ T' := ne_of_none p2 hT'
    refine ⟨T', _, rfl, SqT.of upd_same, rfl, .int n, [.int m], rfl, .int m, [], rfl, rfl, rfl, _, rfl, _, rfl, n, m, rfl, _, (upd_ne hDT).trans p2, ?_, ?_, ?_⟩
    · rw [List.length_map, List.length_take]
      exact small1000 (by omega)
    · exact e5.upd_new hD
    · rw [upd_same, List.take_add_one, List.getElem?_zipWith, hn, hm]
      simp
  · rw [List.length_map, ← hzl, List.take_length] at p2
    refine ⟨D, _, rfl, .inl ⟨SqL.of p2, fun p hp => ?_⟩⟩
    exact q _ _ (p1.trans (Ext.new hp _)) (iv_mk upd_same)
theorem ok_Scaled (F : Fun K "scaled" "scaled" sScaled f fd) (G : Glb mg) : FnOk P w K mg base CX0 (1) f fd ["entries", "times"] (spScaled K) := by
  refine F.ok scScaled (fun vs H Q E h => ?_) (fun cdv A outer s H vs Q E hr h => ?_)
  · obtain ⟨u, xs, t, rfl, _⟩ := h
    rfl
  obtain ⟨u, xs, t, rfl, hu, hl, hb, hb2, q⟩ := h
  have nd := scScaled.nd
  refine ⟨_, ((pss_one (ps_ret (pe_callTy call_tuple_of rfl G.tuple (by decide +kernel) (pa_cons (pe_lc (own := [("entry", 2)]) (g := (gName 2)) (te := (tOp (rI CMulW fun i j => .int (i * j)) (tVar 2) (tVar 1)))  rfl nd (pi_tup (pv 0)) (blkOk_by (own := [("entry", 2)]) (N := ["entries", "times", "entry"]) (sc := defScope sScaled) (by decide +kernel)) (fun _ _ _ _ _ => (pg_name (i := 2) nd rfl (Or.inl rfl))) (fun _ _ _ _ _ => pts_nil) (fun _ _ _ _ _ => (pe_op op_mulW (pv 2) (pv 1)))) pa_nil))))), ?_⟩
  obtain ⟨aa, rfl, sa⟩ := iv_inv hu
  refine ⟨_, rfl, aa, rfl, ⟨_, sa⟩, fun D hD => ?_⟩
  refine lc_tup (xs := xs.map V.int) (fun i H' => ExtP H H' ∧ H' D = some (.lst (((vsc xs t).take i).map V.int))) ⟨Ext.new hD _, upd_same⟩ (fun i H' _ p => p.1.sqT sa) (fun i x H' hx ⟨p1, p2⟩ => ?_) fun H' ⟨p1, p2⟩ => ?_
  · rw [List.getElem?_map, Option.map_eq_some_iff] at hx
    obtain ⟨n, hn, rfl⟩ := hx
    refine ⟨rfl, _, rfl, _, rfl, n, t, rfl, rfl, wide_mul (hb n (List.mem_of_getElem? hn)) hb2 (by decide) (by decide) (by decide), _, p2, ?_, p1.upd_new hD, ?_⟩
    · rw [List.length_map, List.length_take, List.length_map]
      exact small1000 (by omega)
    · rw [upd_same, List.take_add_one, List.getElem?_map, hn]
      simp
  · rw [List.length_map, ← List.length_map (as := xs) (f := fun x => x * t), List.take_length] at p2
    refine ⟨D, _, rfl, .inl ⟨SqL.of p2, fun p hp => ?_⟩⟩
    exact q _ _ (p1.trans (Ext.new hp _)) (iv_mk upd_same)
theorem covZ_take {xs ys : List Int} {i : Nat} {n m : Int} (hn : xs[i]? = some n) (hm : ys[i]? = some m) : ((List.zipWith cov1 xs ys).take (i + 1)).all id = (((List.zipWith cov1 xs ys).take i).all id && cov1 n m) := by
  rw [List.take_add_one, List.getElem?_zipWith, hn, hm]
  simp
theorem covZ_false {xs ys : List Int} {i : Nat} (h : ((List.zipWith cov1 xs ys).take i).all id = false) : covB xs ys = false := by
  unfold covB
  cases e : (List.zipWith cov1 xs ys).all id with
  | false => rfl
  | true =>
    rw [List.all_eq_true] at e
    have : ((List.zipWith cov1 xs ys).take i).all id = true := List.all_eq_true.mpr fun x hx => e x (List.mem_of_mem_take hx)
    rw [h] at this
    cases this
theorem ok_Covers (F : Fun K "covers" "covers" sCovers f fd) (G : Glb mg) {tE : Tok} (cE : mg "ENDLESS" = some (.int (-1) tE)) : FnOk P w K mg base CX0 (1) f fd ["stock", "other"] (spCovers K) := by
  refine F.ok scCovers (fun vs H Q E h => ?_) (fun cdv A outer s H vs Q E hr h => ?_)
  · obtain ⟨u, v, xs, ys, rfl, _⟩ := h
    rfl
  obtain ⟨u, v, xs, ys, rfl, hu, hv, hl, hl2, q⟩ := h
  have nd := scCovers.nd
  refine ⟨_, ((pss_cons (ps_for PassesOwn.never rfl (pi_zipA rfl G.zip (pa_cons (pv 0) (pa_cons (pv 1) pa_nil))) (pg_tup (n := 2) (by rfl) (pgs_cons (pg_name (i := 2) nd rfl (Or.inl rfl)) (pgs_cons (pg_name (i := 3) nd rfl (Or.inl rfl)) pgs_nil))) (pss_one (ps_if (PW.pt (pw_and (pt_cmpR op_ne (pv 2) (pe_gI cE) (nomark _)) (pw_and1 (PW.pt (pw_or (pt_cmpR op_eq (pv 3) (pe_gI cE) (nomark _)) (pw_or1 (pt_cmpR op_gt (pv 3) (pv 2) (nomark _)))))))) (pss_one (ps_ret pe_bl)) pss_nil)))
    (pss_one (ps_ret pe_bl)))), ?_⟩
  obtain ⟨aa, rfl, sa⟩ := iv_inv hu
  obtain ⟨ab, rfl, sb⟩ := iv_inv hv
  have hzl : (List.zipWith cov1 xs ys).length = xs.length := by rw [List.length_zipWith, hl, Nat.min_self]
  refine ⟨_, rfl, _, rfl, aa, ab, _, _, rfl, .inr ⟨sa, sb, ?_⟩⟩
  refine for_zipT (xs := xs.map V.int) (ys := ys.map V.int) (by rw [List.length_map, List.length_map, hl]) (fun i σ' H' => ExtP H H' ∧ (∃ c d, σ' = [some (.ref aa), some (.ref ab), c, d]) ∧ ((List.zipWith cov1 xs ys).take i).all id = true) ⟨Ext.refl _ _, ⟨_, _, rfl⟩, rfl⟩ (fun i σ' H' p => ⟨p.1.sqT sa, p.1.sqT sb⟩) (fun i x y T' σ' H' hx hy ⟨p1, p2, p3⟩ hT' => ?_) fun σ' H' ⟨p1, p2, p3⟩ => ?_
  · rw [List.getElem?_map, Option.map_eq_some_iff] at hx hy
    obtain ⟨n, hn, rfl⟩ := hx
    obtain ⟨m, hm, rfl⟩ := hy
    obtain ⟨c, d, rfl⟩ := p2
    have e5 : ExtP H (upd H' T' (.tup [.int n, .int m])) := p1.trans (Ext.new hT' _)
    have yes : cov1 n m = true → ((List.zipWith cov1 xs ys).take (i + 1)).all id = true := fun z => by rw [covZ_take hn hm, p3, z]; rfl
    have no : cov1 n m = false → covB xs ys = false := fun z => covZ_false (i := i + 1) (by rw [covZ_take hn hm, p3, z]; rfl)
    refine ⟨T', _, rfl, SqT.of upd_same, rfl, .int n, [.int m], rfl, .int m, [], rfl, rfl, ?_⟩
    refine ⟨_, rfl, rfl, _, rfl, ?_⟩
    refine ite2 (fun c1 => ?_) (fun c1 => ?_)
    · have c2 : ¬ n = -1 := fun z => by
        subst z
        exact absurd c1 (by decide)
      refine ⟨_, rfl, rfl, _, rfl, ?_⟩
      refine ite2 (fun c3 => ?_) (fun c3 => ?_)
      · have c4 : m = -1 := V.int.inj (of_decide_eq_true c3)
        have := no (by unfold cov1; rw [decide_eq_false c2, decide_eq_true c4]; rfl)
        rw [← this]
        exact q _ e5
      · have c4 : ¬ m = -1 := fun z => c3 (by rw [z]; rfl)
        refine ⟨_, rfl, _, rfl, m, n, rfl, rfl, _, rfl, ?_⟩
        refine ite2 (fun c5 => ?_) (fun c5 => ?_)
        · have c6 : ¬ m ≤ n := by have := of_decide_eq_true c5; omega
          have := no (by unfold cov1; rw [decide_eq_false c2, decide_eq_false c4, decide_eq_false c6]; rfl)
          rw [← this]
          exact q _ e5
        · have c6 : m ≤ n := by
            have : ¬ n < m := fun z => c5 (decide_eq_true z)
            omega
          exact ⟨e5, ⟨_, _, rfl⟩, yes (by unfold cov1; rw [decide_eq_false c2, decide_eq_false c4, decide_eq_true c6]; rfl)⟩
    · have c2 : n = -1 := by
        by_cases z : n = -1
        · exact z
        · exact absurd (show (!decide (V.int n = V.int (-1))) = true by rw [decide_eq_false fun y => z (V.int.inj y)]; rfl) c1
      exact ⟨e5, ⟨_, _, rfl⟩, yes (by unfold cov1; rw [decide_eq_true c2]; rfl)⟩
  · rw [List.length_map, ← hzl, List.take_length] at p3
    have : covB xs ys = true := p3
    rw [← this]
    exact q _ p1
end
end Mint


namespace Mint
open PySem PySem.Spec PyProof.Rows L2 GxR Gx RZ

/-! ### moves, runs -/
/-- (0,) * k -/
def rZeros (K : PySem.W.Frag) : R2 := fun x y H Q => ∃ (l : Addr) (k : Nat), x = .ref l ∧ y = .int k ∧ SqT K H l [.int 0] ∧ 1 ≤ k ∧ k ≤ 1000 ∧ ∀ H' z, ExtP H H' → Dp K H' z (intsD (vzero k)) → Q z H'
theorem op_zero {X : Cx} : OpR X (binaryOp .Mult) (rZeros X.K) := fun pins s σ H x y v u Q I rx ry h => by
  obtain ⟨l, k, e1, e2, hS, h1, h2, q⟩ := h
  refine op_repA pins s σ H x y v u Q I rx ry ⟨l, k, [.int 0], e1, e2, hS, by simp, by omega, by omega, by simp, fun hk => ?_, fun hk p hp => ?_⟩
  · obtain rfl : k = 1 := by omega
    exact q H _ (Ext.refl true H) (.tup hS (.cons (.int 0) .nil))
  · refine q _ _ (Ext.new hp _) (iv_mk ?_)
    rw [upd_same, Int.toNat_natCast]
    congr 2
    clear hk q e2 h1 h2
    induction k with
    | zero => rfl
    | succ k ih =>
      rw [List.replicate_succ, List.flatten_cons, ih]
      rfl
theorem mv_inv {K : PySem.W.Frag} {H : Hp} {x2 : List V} {mv : List Mv} {m : Nat} (h : DpAll K H x2 (mv.map moveD)) (hm : m < mv.length) : ∃ am v1 v2 v3 v4, x2[m]? = some (.ref am) ∧ SqT K H am [v1, v2, v3, v4] ∧ Dp K H v2 (intsD (mvAt mv m).take) ∧ Dp K H v3 (intsD (mvAt mv m).low) ∧ Dp K H v4 (intsD (mvAt mv m).high) := by
  have e : (mv.map moveD)[m]? = some (moveD (mvAt mv m)) := by rw [List.getElem?_map, mvAt_get hm]; rfl
  obtain ⟨v, hv, hd⟩ := dpAll_at h e
  obtain ⟨a, xs, rfl, hS, hD⟩ := dp_tup_inv hd
  obtain ⟨v1, v2, v3, v4, d1, d2, d3, d4, rfl, ed, h1, h2, h3, h4⟩ := dp_four hD (dpAll_len hD)
  cases ed
  exact ⟨a, v1, v2, v3, v4, hv, hS, h2, h3, h4⟩
theorem do_inv {K : PySem.W.Frag} {H : Hp} {v : V} {m : Nat} (h : Dp K H v (stD (.mv m))) : ∃ a, v = .ref a ∧ SqT K H a [.str "do", .int m] := by
  obtain ⟨a, xs, rfl, hS, hD⟩ := dp_tup_inv h
  obtain ⟨x1, x2, d1, d2, rfl, e, h1, h2⟩ := dp_two hD (dpAll_len hD)
  cases e
  rw [dp_str_inv h1, dp_int_inv h2] at hS
  exact ⟨a, rfl, hS⟩
theorem rep_inv {K : PySem.W.Frag} {H : Hp} {v : V} {k : Nat} {r : List RSt} (h : Dp K H v (stD (.rep k r))) : ∃ a x, v = .ref a ∧ SqT K H a [.str "rep", .int k, x] ∧ Dp K H x (.tuple (rnD r)) := by
  obtain ⟨a, xs, rfl, hS, hD⟩ := dp_tup_inv h
  obtain ⟨x1, x2, x3, d1, d2, d3, rfl, e, h1, h2, h3⟩ := dp_three hD (dpAll_len hD)
  cases e
  rw [dp_str_inv h1, dp_int_inv h2] at hS
  exact ⟨a, x3, rfl, hS, h3⟩
abbrev BkH (K : PySem.W.Frag) (H : Hp) (b : V) (kn : List Str) (mv : List Mv) : Prop := Dp K H b (bkD kn mv) ∧ GoodBk kn mv
def spMvCh (K : PySem.W.Frag) : Sp := fun vs H Q _ => ∃ (b : V) (kn : List Str) (mv : List Mv) (m : Nat), vs = [b, .int m] ∧ BkH K H b kn mv ∧ m < mv.length ∧ ∀ (H' : Hp) (p : V), ExtP H H' → Dp K H' p (intsD (eMv mv m).2) → Q p H'
def spCanDo (K : PySem.W.Frag) : Sp := fun vs H Q _ => ∃ (b s : V) (kn : List Str) (mv : List Mv) (st : List Int) (m : Nat), vs = [b, s, .int m] ∧ BkH K H b kn mv ∧ m < mv.length ∧ Dp K H s (intsD st) ∧ st.length = kn.length ∧ ∀ (H' : Hp), ExtP H H' → Q (.bl (covB st (mvAt mv m).take)) H'
def spDone (K : PySem.W.Frag) : Sp := fun vs H Q _ => ∃ (b s : V) (kn : List Str) (mv : List Mv) (st : List Int) (m : Nat), vs = [b, s, .int m] ∧ BkH K H b kn mv ∧ m < mv.length ∧ Dp K H s (intsD st) ∧ st.length = kn.length ∧ ∀ (H' : Hp) (p : V), ExtP H H' → Dp K H' p (intsD (vadd st (eMv mv m).2)) → Q p H'
def spTwo (K : PySem.W.Frag) : Sp := fun vs H Q _ => ∃ (u v : V) (a b : E2) (n : Nat), vs = [u, v] ∧ Dp K H u (e2D a) ∧ Dp K H v (e2D b) ∧ EL n a ∧ EL n b ∧ n ≤ 1000 ∧ ∀ (H' : Hp) (p : V), ExtP H H' → Dp K H' p (e2D (eTwo a b)) → Q p H'
def spMany (K : PySem.W.Frag) : Sp := fun vs H Q _ => ∃ (u : V) (a : E2) (n : Nat) (t : Int), vs = [u, .int t] ∧ Dp K H u (e2D a) ∧ EL n a ∧ n ≤ 1000 ∧ (∀ i, i < n → (cg a.2 i).natAbs < 2 ^ 4000) ∧ (t - 1).natAbs < 2 ^ 4000 ∧ ∀ (H' : Hp) (p : V), ExtP H H' → Dp K H' p (e2D (eMany a t)) → Q p H'
def spEff (K : PySem.W.Frag) (N : Nat) : Sp := fun vs H Q _ => ∃ (b v : V) (kn : List Str) (mv : List Mv) (t d : Nat) (r : List RSt), vs = [b, v] ∧ BkH K H b kn mv ∧ Dp K H v (.tuple (rnD r)) ∧ GRn mv.length t d r ∧ d < N ∧ t < 2 ^ 100 ∧ d ≤ 20 ∧
  ∀ (H' : Hp) (p : V), ExtP H H' → Dp K H' p (e2D (eRn mv kn.length r)) → Q p H'
def spStEff (K : PySem.W.Frag) (N : Nat) : Sp := fun vs H Q _ => ∃ (b v : V) (kn : List Str) (mv : List Mv) (t d : Nat) (s : RSt), vs = [b, v] ∧ BkH K H b kn mv ∧ Dp K H v (stD s) ∧ GSt mv.length t d s ∧ d ≤ N ∧ t < 2 ^ 100 ∧ d ≤ 20 ∧
  ∀ (H' : Hp) (p : V), ExtP H H' → Dp K H' p (e2D (eSt mv kn.length s)) → Q p H'
def spLen (K : PySem.W.Frag) (N : Nat) : Sp := fun vs H Q _ => ∃ (v : V) (nm t d : Nat) (r : List RSt), vs = [v] ∧ Dp K H v (.tuple (rnD r)) ∧ GRn nm t d r ∧ d < N ∧ t < 2 ^ 100 ∧ d ≤ 20 ∧ ∀ (H' : Hp), ExtP H H' → Q (.int (lnRn r : Nat)) H'
def spStLen (K : PySem.W.Frag) (N : Nat) : Sp := fun vs H Q _ => ∃ (v : V) (nm t d : Nat) (s : RSt), vs = [v] ∧ Dp K H v (stD s) ∧ GSt nm t d s ∧ d ≤ N ∧ t < 2 ^ 100 ∧ d ≤ 20 ∧ ∀ (H' : Hp), ExtP H H' → Q (.int (lnSt s : Nat)) H'
def spNeed (K : PySem.W.Frag) (g : E2 → List Int) : Sp := fun vs H Q _ => ∃ (b v : V) (kn : List Str) (mv : List Mv) (t d : Nat) (r : List RSt), vs = [b, v] ∧ BkH K H b kn mv ∧ Dp K H v (.tuple (rnD r)) ∧ GRn mv.length t d r ∧ t < 2 ^ 100 ∧ d ≤ 20 ∧
  ∀ (H' : Hp) (p : V), ExtP H H' → Dp K H' p (intsD (g (eRn mv kn.length r))) → Q p H'
def spEndR (K : PySem.W.Frag) : Sp := fun vs H Q _ => ∃ (b s v : V) (kn : List Str) (mv : List Mv) (st : List Int) (t d : Nat) (r : List RSt), vs = [b, s, v] ∧ BkH K H b kn mv ∧ Dp K H s (intsD st) ∧ st.length = kn.length ∧ Dp K H v (.tuple (rnD r)) ∧ GRn mv.length t d r ∧ t < 2 ^ 100 ∧ d ≤ 20 ∧
  (covB st (eRn mv kn.length r).1 = true → ∀ (H' : Hp) (p : V), ExtP H H' → Dp K H' p (intsD (vadd st (eRn mv kn.length r).2)) → Q p H') ∧ (covB st (eRn mv kn.length r).1 = false → ∀ H' : Hp, ExtP H H' → Q .non H')
abbrev sMvCh : Stmt := top 9
theorem scMvCh : FnScope ["book", "m"] ["book", "m"] (defScope sMvCh) := ⟨rfl, rfl, rfl, by decide +kernel, rfl, by decide +kernel, by decide +kernel⟩
abbrev sCanDo : Stmt := top 7
theorem scCanDo : FnScope ["book", "stock", "m"] ["book", "stock", "m"] (defScope sCanDo) := ⟨rfl, rfl, rfl, by decide +kernel, rfl, by decide +kernel, by decide +kernel⟩
abbrev sDone : Stmt := top 8
theorem scDone : FnScope ["book", "stock", "m"] ["book", "stock", "m"] (defScope sDone) := ⟨rfl, rfl, rfl, by decide +kernel, rfl, by decide +kernel, by decide +kernel⟩
abbrev sTwo : Stmt := top 14
theorem scTwo : FnScope ["first", "second", "needed"] ["first", "second"] (defScope sTwo) := ⟨rfl, rfl, rfl, by decide +kernel, rfl, by decide +kernel, by decide +kernel⟩
abbrev sMany : Stmt := top 15
theorem scMany : FnScope ["once", "times", "needed", "changed", "before_last"] ["once", "times"] (defScope sMany) := ⟨rfl, rfl, rfl, by decide +kernel, rfl, by decide +kernel, by decide +kernel⟩
abbrev sEff : Stmt := top 12
theorem scEff : FnScope ["book", "run", "nothing", "both", "step"] ["book", "run"] (defScope sEff) := ⟨rfl, rfl, rfl, by decide +kernel, rfl, by decide +kernel, by decide +kernel⟩
abbrev sStEff : Stmt := top 13
theorem scStEff : FnScope ["book", "step"] ["book", "step"] (defScope sStEff) := ⟨rfl, rfl, rfl, by decide +kernel, rfl, by decide +kernel, by decide +kernel⟩
abbrev sLen : Stmt := top 17
theorem scLen : FnScope ["run", "step"] ["run"] (defScope sLen) := ⟨rfl, rfl, rfl, by decide +kernel, rfl, by decide +kernel, by decide +kernel⟩
abbrev sStLen : Stmt := top 18
theorem scStLen : FnScope ["step"] ["step"] (defScope sStLen) := ⟨rfl, rfl, rfl, by decide +kernel, rfl, by decide +kernel, by decide +kernel⟩
abbrev sNeed : Stmt := top 10
theorem scNeed : FnScope ["book", "run"] ["book", "run"] (defScope sNeed) := ⟨rfl, rfl, rfl, by decide +kernel, rfl, by decide +kernel, by decide +kernel⟩
abbrev sChange : Stmt := top 11
theorem scChange : FnScope ["book", "run"] ["book", "run"] (defScope sChange) := ⟨rfl, rfl, rfl, by decide +kernel, rfl, by decide +kernel, by decide +kernel⟩
abbrev sEndR : Stmt := top 19
theorem scEndR : FnScope ["book", "stock", "run", "needed", "changed"] ["book", "stock", "run"] (defScope sEndR) := ⟨rfl, rfl, rfl, by decide +kernel, rfl, by decide +kernel, by decide +kernel⟩
section
variable {P : Program} {w : World} {K : PySem.W.Frag} {mg : Str → Option Value} {base : Heap} {f T : Addr} {fd : FuncData}
theorem ok_MvCh (F : Fun K "move_change" "move_change" sMvCh f fd) (DLe : Def P w K mg base "less" (1) ["first", "second"] (spZip K fun x y => x - y)) : FnOk P w K mg base CX0 (2) f fd ["book", "m"] (spMvCh K) := by
  refine F.ok scMvCh (fun vs H Q E h => ?_) (fun cdv A outer s H vs Q E hr h => ?_)
  · obtain ⟨b, kn, mv, m, rfl, _⟩ := h
    rfl
  obtain ⟨b, kn, mv, m, rfl, hb, hm, q⟩ := h
  have nd := scMvCh.nd
  refine ⟨_, ((pss_one (ps_ret (pe_c DLe (hr.mono (by omega)) (pa_cons (pe_ix ix_tup (pe_ix ix_tup (pe_ix ix_tup (pv 0) pe_int (fun _ _ => rfl)) (pv 1) (fun _ _ => rfl)) pe_int (fun _ _ => rfl)) (pa_cons (pe_ix ix_tup (pe_ix ix_tup (pe_ix ix_tup (pv 0) pe_int (fun _ _ => rfl)) (pv 1) (fun _ _ => rfl)) pe_int (fun _ _ => rfl)) pa_nil)))))), ?_⟩
  obtain ⟨ab, a1, a2, x1, x2, rfl, hSb, s1, d1, s2, d2⟩ := book_parts hb.1
  obtain ⟨am, v1, v2, v3, v4, hm2, sm, dT, dL, dH⟩ := mv_inv d2 hm
  have ok := hb.2.mvOk
  have lt := (ok.take m hm).1
  have lh := (ok.high m hm).1
  have h6 := hb.2.six
  exact ⟨_, rfl, ab, _, 1, .ref a2, rfl, rfl, hSb, atI_nat (xs := [V.ref a1, V.ref a2]) (j := 1) rfl, _, rfl, a2, x2, m, .ref am, rfl, rfl, s2, atI_nat hm2, am, _, 3, v4, rfl, rfl, sm, atI_nat (xs := [v1, v2, v3, v4]) (j := 3) rfl, _, rfl, ab, _, 1, .ref a2, rfl, rfl, hSb, atI_nat (xs := [V.ref a1, V.ref a2]) (j := 1) rfl, _, rfl, a2, x2, m, .ref am, rfl, rfl, s2, atI_nat hm2, am, _, 1, v2, rfl, rfl, sm, atI_nat (xs := [v1, v2, v3, v4]) (j := 1) rfl, v4, v2, _, _, rfl, dH, dT, by omega, by omega, q⟩
theorem ok_CanDo (F : Fun K "can_do" "can_do" sCanDo f fd) (DCo : Def P w K mg base "covers" (1) ["stock", "other"] (spCovers K)) : FnOk P w K mg base CX0 (2) f fd ["book", "stock", "m"] (spCanDo K) := by
  refine F.ok scCanDo (fun vs H Q E h => ?_) (fun cdv A outer s H vs Q E hr h => ?_)
  · obtain ⟨b, sv, kn, mv, st, m, rfl, _⟩ := h
    rfl
  obtain ⟨b, sv, kn, mv, st, m, rfl, hb, hm, hs, hl, q⟩ := h
  have nd := scCanDo.nd
  refine ⟨_, ((pss_one (ps_ret (pe_c DCo (hr.mono (by omega)) (pa_cons (pv 1) (pa_cons (pe_ix ix_tup (pe_ix ix_tup (pe_ix ix_tup (pv 0) pe_int (fun _ _ => rfl)) (pv 2) (fun _ _ => rfl)) pe_int (fun _ _ => rfl)) pa_nil)))))), ?_⟩
  obtain ⟨ab, a1, a2, x1, x2, rfl, hSb, s1, d1, s2, d2⟩ := book_parts hb.1
  obtain ⟨am, v1, v2, v3, v4, hm2, sm, dT, dL, dH⟩ := mv_inv d2 hm
  have lt := (hb.2.mvOk.take m hm).1
  have h6 := hb.2.six
  exact ⟨_, rfl, _, rfl, ab, _, 1, .ref a2, rfl, rfl, hSb, atI_nat (xs := [V.ref a1, V.ref a2]) (j := 1) rfl, _, rfl, a2, x2, m, .ref am, rfl, rfl, s2, atI_nat hm2, am, _, 1, v2, rfl, rfl, sm, atI_nat (xs := [v1, v2, v3, v4]) (j := 1) rfl, sv, v2, _, _, rfl, hs, dT, by omega, by omega, q⟩
theorem ok_Done (F : Fun K "done" "done" sDone f fd) (DPl : Def P w K mg base "plus" (1) ["first", "second"] (spZip K fun x y => x + y)) (DMC : Def P w K mg base "move_change" (2) ["book", "m"] (spMvCh K)) : FnOk P w K mg base CX0 (3) f fd ["book", "stock", "m"] (spDone K) := by
  refine F.ok scDone (fun vs H Q E h => ?_) (fun cdv A outer s H vs Q E hr h => ?_)
  · obtain ⟨b, sv, kn, mv, st, m, rfl, _⟩ := h
    rfl
  obtain ⟨b, sv, kn, mv, st, m, rfl, hb, hm, hs, hl, q⟩ := h
  have nd := scDone.nd
  refine ⟨_, ((pss_one (ps_ret (pe_c DPl (hr.mono (by omega)) (pa_cons (pv 1) (pa_cons (pe_c DMC (hr.mono (by omega)) (pa_cons (pv 0) (pa_cons (pv 2) pa_nil))) pa_nil)))))), ?_⟩
  have ok := hb.2.mvOk
  have lc : (eMv mv m).2.length = kn.length := len_zip (ok.high m hm).1 (ok.take m hm).1
  have h6 := hb.2.six
  exact ⟨_, rfl, _, rfl, _, rfl, b, kn, mv, m, rfl, hb, hm, fun H1 p e1 hp => ⟨sv, p, st, _, rfl, e1.dp hs, hp, by omega, by omega, fun H2 p2 e2 h2 => q H2 p2 (e1.trans e2) h2⟩⟩
theorem ok_Two (F : Fun K "effect_of_two" "effect_of_two" sTwo f fd) (DPl : Def P w K mg base "plus" (1) ["first", "second"] (spZip K fun x y => x + y)) (DLe : Def P w K mg base "less" (1) ["first", "second"] (spZip K fun x y => x - y)) (DGr : Def P w K mg base "greater" (1) ["first", "second"] (spZip K fun x y => if y > x then y else x)) : FnOk P w K mg base CX0 (2) f fd ["first", "second"] (spTwo K) := by
  refine F.ok scTwo (fun vs H Q E h => ?_) (fun cdv A outer s H vs Q E hr h => ?_)
  · obtain ⟨u, v, a, b, n, rfl, _⟩ := h
    rfl
  obtain ⟨u, v, a, b, n, rfl, hu, hv, la, lb, hn, q⟩ := h
  have nd := scTwo.nd
  refine ⟨_, ((pss_cons (ps_set (i := 2) nd rfl (Or.inl rfl) (pe_c DGr (hr.mono (by omega)) (pa_cons (pe_ix ix_tup (pv 0) pe_int (fun _ _ => rfl)) (pa_cons (pe_c DLe (hr.mono (by omega)) (pa_cons (pe_ix ix_tup (pv 1) pe_int (fun _ _ => rfl)) (pa_cons (pe_ix ix_tup (pv 0) pe_int (fun _ _ => rfl)) pa_nil))) pa_nil))))
    (pss_one (ps_ret (pe_tup (pa_cons (pv 2) (pa_cons (pe_c DPl (hr.mono (by omega)) (pa_cons (pe_ix ix_tup (pv 0) pe_int (fun _ _ => rfl)) (pa_cons (pe_ix ix_tup (pv 1) pe_int (fun _ _ => rfl)) pa_nil))) pa_nil))))))), ?_⟩
  obtain ⟨pa, xa1, xa2, rfl, sa, da1, da2⟩ := e2_inv hu
  obtain ⟨pb, xb1, xb2, rfl, sb, db1, db2⟩ := e2_inv hv
  have la1 := la.1
  have la2 := la.2
  have lb1 := lb.1
  have lb2 := lb.2
  refine ⟨_, rfl, pa, _, 0, xa1, rfl, rfl, sa, atI_nat (xs := [xa1, xa2]) (j := 0) rfl, _, rfl, pb, _, 0, xb1, rfl, rfl, sb, atI_nat (xs := [xb1, xb2]) (j := 0) rfl, _, rfl, pa, _, 1, xa2, rfl, rfl, sa, atI_nat (xs := [xa1, xa2]) (j := 1) rfl, xb1, xa2, _, _, rfl, db1, da2, by omega, by omega, fun H1 p e1 hp => ?_⟩
  refine ⟨xa1, p, _, _, rfl, e1.dp da1, hp, by rw [len_zip lb1 la2]; exact la1, by omega, fun H2 p2 e2 hp2 => ?_⟩
  have e12 := e1.trans e2
  refine ⟨_, rfl, _, rfl, pa, _, 1, xa2, rfl, rfl, (e12.sqT sa), atI_nat (xs := [xa1, xa2]) (j := 1) rfl, _, rfl, pb, _, 1, xb2, rfl, rfl, (e12.sqT sb), atI_nat (xs := [xb1, xb2]) (j := 1) rfl, xa2, xb2, _, _, rfl, e12.dp da2, e12.dp db2, by omega, by omega, fun H3 p3 e3 hp3 => ?_⟩
  refine ⟨(by show 2 ≤ sizeLine; decide), fun p4 hp4 => ?_⟩
  have e4 : ExtP H3 (upd H3 p4 (.tup [p2, p3])) := Ext.new hp4 _
  exact q _ _ (e12.trans (e3.trans e4)) (e2_mk upd_same ((e3.trans e4).dp hp2) (e4.dp hp3))
theorem ok_Many (F : Fun K "effect_of_many" "effect_of_many" sMany f fd) (DPl : Def P w K mg base "plus" (1) ["first", "second"] (spZip K fun x y => x + y)) (DLe : Def P w K mg base "less" (1) ["first", "second"] (spZip K fun x y => x - y)) (DGr : Def P w K mg base "greater" (1) ["first", "second"] (spZip K fun x y => if y > x then y else x)) (DSc : Def P w K mg base "scaled" (1) ["entries", "times"] (spScaled K)) : FnOk P w K mg base CX0 (2) f fd ["once", "times"] (spMany K) := by
  refine F.ok scMany (fun vs H Q E h => ?_) (fun cdv A outer s H vs Q E hr h => ?_)
  · obtain ⟨u, a, n, t, rfl, _⟩ := h
    rfl
  obtain ⟨u, a, n, t, rfl, hu, la, hn, hB, ht, q⟩ := h
  have nd := scMany.nd
  refine ⟨_, ((pss_cons (ps_asg (pv 0) (pg_tup (n := 2) (by rfl) (pgs_cons (pg_name (i := 2) nd rfl (Or.inl rfl)) (pgs_cons (pg_name (i := 3) nd rfl (Or.inl rfl)) pgs_nil))))
    (pss_cons (ps_set (i := 4) nd rfl (Or.inl rfl) (pe_c DSc (hr.mono (by omega)) (pa_cons (pv 3) (pa_cons (pe_op op_sub (pv 1) pe_int) pa_nil))))
    (pss_one (ps_ret (pe_tup (pa_cons (pe_c DGr (hr.mono (by omega)) (pa_cons (pv 2) (pa_cons (pe_c DLe (hr.mono (by omega)) (pa_cons (pv 2) (pa_cons (pv 4) pa_nil))) pa_nil))) (pa_cons (pe_c DPl (hr.mono (by omega)) (pa_cons (pv 4) (pa_cons (pv 3) pa_nil))) pa_nil)))))))), ?_⟩
  obtain ⟨pa, xa1, xa2, rfl, sa, da1, da2⟩ := e2_inv hu
  have la1 := la.1
  have la2 := la.2
  have hBm : ∀ x ∈ a.2, x.natAbs < 2 ^ 4000 := fun x hx => by
    obtain ⟨i, hi, rfl⟩ := List.getElem_of_mem hx
    have := hB i (by omega)
    rw [cg_of (List.getElem?_eq_getElem hi)] at this
    exact this
  have ls : (vsc a.2 (t - 1)).length = n := len_sc la2
  refine ⟨_, rfl, pa, [xa1, xa2], rfl, sa, rfl, xa1, [xa2], rfl, xa2, [], rfl, rfl, ?_⟩
  refine ⟨_, rfl, _, rfl, t, 1, rfl, rfl, xa2, _, t - 1, rfl, da2, by omega, hBm, ht, fun H1 p e1 hp => ?_⟩
  refine ⟨_, rfl, _, rfl, _, rfl, xa1, p, _, _, rfl, e1.dp da1, hp, by omega, by omega, fun H2 p2 e2 hp2 => ?_⟩
  have e12 := e1.trans e2
  refine ⟨xa1, p2, _, _, rfl, e12.dp da1, hp2, by rw [len_zip la1 ls]; exact la1, by omega, fun H3 p3 e3 hp3 => ?_⟩
  have e123 := e12.trans e3
  refine ⟨_, rfl, _, rfl, p, xa2, _, _, rfl, (e2.trans e3).dp hp, e123.dp da2, by omega, by omega, fun H4 p4 e4 hp4 => ?_⟩
  refine ⟨(by show 2 ≤ sizeLine; decide), fun p5 hp5 => ?_⟩
  have e5 : ExtP H4 (upd H4 p5 (.tup [p3, p4])) := Ext.new hp5 _
  exact q _ _ (e123.trans (e4.trans e5)) (e2_mk upd_same ((e4.trans e5).dp hp3) (e5.dp hp4))
theorem ok_Eff {N : Nat} (F : Fun K "effect" "effect" sEff f fd) (G : Glb mg) (DTw : Def P w K mg base "effect_of_two" (2) ["first", "second"] (spTwo K)) (DSE : Def P w K mg base "step_effect" (2 * N + 3) ["book", "step"] (spStEff K N)) : FnOk P w K mg base CX0 (2 * N + 4) f fd ["book", "run"] (spEff K (N + 1)) := by
  refine F.ok scEff (fun vs H Q E h => ?_) (fun cdv A outer s H vs Q E hr h => ?_)
  · obtain ⟨b, v, kn, mv, t, d, r, rfl, _⟩ := h
    rfl
  obtain ⟨b, v, kn, mv, t, d, r, rfl, hb, hv, hr2, hd, ht, hd20, q⟩ := h
  have nd := scEff.nd
  refine ⟨_, ((pss_cons (ps_set (i := 2) nd rfl (Or.inl rfl) (pe_op op_zero (pe_tup (pa_cons pe_int pa_nil)) (pe_callB call_len rfl G.len PySem.boot_len (pa_cons (pe_ix ix_tup (pv 0) pe_int (fun _ _ => rfl)) pa_nil))))
    (pss_cons (ps_set (i := 3) nd rfl (Or.inl rfl) (pe_tup (pa_cons (pv 2) (pa_cons (pv 2) pa_nil))))
    (pss_cons (ps_for PassesOwn.never rfl (pi_tup (pv 1)) (pg_name (i := 4) nd rfl (Or.inl rfl)) (pss_one (ps_set (i := 3) nd rfl (Or.inl rfl) (pe_c DTw (hr.mono (by omega)) (pa_cons (pv 3) (pa_cons (pe_c DSE (hr.mono (by omega)) (pa_cons (pv 0) (pa_cons (pv 4) pa_nil))) pa_nil))))))
    (pss_one (ps_ret (pv 3))))))), ?_⟩
  obtain ⟨ab, a1, a2, x1, x2, rfl, hSb, s1, d1, s2, d2⟩ := book_parts hb.1
  obtain ⟨ar, xr, rfl, sr, dr⟩ := dp_tup_inv hv
  have ok := hb.2.mvOk
  have h1 := hb.2.one
  have h6 := hb.2.six
  have lx : x1.length = kn.length := by rw [dpAll_len d1, List.length_map]
  refine ⟨(by show 1 ≤ sizeLine; decide), fun t0 ht0 => ?_⟩
  have e0 : ExtP H (upd H t0 (.tup [.int 0])) := Ext.new ht0 _
  refine ⟨_, rfl, ab, _, 0, .ref a1, rfl, rfl, e0.sqT hSb, atI_nat (xs := [V.ref a1, V.ref a2]) (j := 0) rfl, _, _, rfl, .inr ⟨x1, e0.sqT s1, rfl⟩, t0, kn.length, rfl, by rw [lx], SqT.of upd_same, h1, by omega, fun H1 z e1 hz => ?_⟩
  refine ⟨_, rfl, _, rfl, (by show 2 ≤ sizeLine; decide), fun p1 hp1 => ?_⟩
  have e2 : ExtP H1 (upd H1 p1 (.tup [z, z])) := Ext.new hp1 _
  have e02 := (e0.trans e1).trans e2
  refine ⟨_, rfl, ar, rfl, ⟨_, e02.sqT sr⟩, ?_⟩
  refine for_tup (xs := xr) (fun i σ H' => ∃ (o4 : Option V) (y : V), σ = [some (.ref ab), some (.ref ar), some z, some y, o4] ∧ ExtP H H' ∧ Dp K H' y (e2D (eRn mv kn.length (r.take i))))
    ⟨none, _, rfl, e02, e2_mk upd_same (e2.dp hz) (e2.dp hz)⟩ (fun i σ H' _ ⟨_, _, _, e, _⟩ => e.sqT sr) (fun i x σ H' hx ⟨o4, y, eσ, e3, hy⟩ => ?_) fun σ H' ⟨o4, y, eσ, e3, hy⟩ => ?_
  · subst eσ
    obtain ⟨D, hD, hxd⟩ := dpAll_get dr hx
    rw [rnD_map, List.getElem?_map, Option.map_eq_some_iff] at hD
    obtain ⟨s0, hs0, rfl⟩ := hD
    have gs : GSt mv.length t d s0 := hr2.all s0 (List.mem_of_getElem? hs0)
    have gt : GRn mv.length t d (r.take i) := ⟨by have := hr2.three; rw [List.length_take]; omega, fun x hx => hr2.all x (List.mem_of_mem_take hx)⟩
    refine ⟨_, rfl, _, rfl, _, rfl, .ref ab, x, kn, mv, t, d, s0, rfl, ⟨e3.dp hb.1, hb.2⟩, e3.dp hxd, gs, by omega, ht, hd20, fun H3 p3 e4 hp3 => ?_⟩
    refine ⟨y, p3, _, _, kn.length, rfl, e4.dp hy, hp3, (gt.gf ok).el, (gs.gf ok).el, by omega, fun H4 p4 e5 hp4 => ?_⟩
    rw [← eRn_take ok hr2.all hs0] at hp4
    exact ⟨_, _, rfl, e3.trans (e4.trans e5), hp4⟩
  · subst eσ
    have lr : xr.length = r.length := by rw [dpAll_len dr, rnD_len]
    rw [lr, List.take_length] at hy
    exact ⟨_, rfl, q _ _ e3 hy⟩
theorem ok_StEff {N : Nat} (F : Fun K "step_effect" "step_effect" sStEff f fd) (DMC : Def P w K mg base "move_change" (2) ["book", "m"] (spMvCh K)) (DMa : Def P w K mg base "effect_of_many" (2) ["once", "times"] (spMany K)) (DEf : Def P w K mg base "effect" (2 * N + 2) ["book", "run"] (spEff K N)) : FnOk P w K mg base CX0 (2 * N + 3) f fd ["book", "step"] (spStEff K N) := by
  refine F.ok scStEff (fun vs H Q E h => ?_) (fun cdv A outer s H vs Q E hr h => ?_)
  · obtain ⟨b, v, kn, mv, t, d, s0, rfl, _⟩ := h
    rfl
  obtain ⟨b, v, kn, mv, t, d, s0, rfl, hb, hv, gs, hd, ht, hd20, q⟩ := h
  have nd := scStEff.nd
  refine ⟨_, ((pss_cons (ps_if (pt_cmpR op_eq (pe_ix ix_tup (pv 1) pe_int (fun _ _ => rfl)) pe_str (nomark _)) (pss_one (ps_ret (pe_tup (pa_cons (pe_ix ix_tup (pe_ix ix_tup (pe_ix ix_tup (pv 0) pe_int (fun _ _ => rfl)) (pe_ix ix_tup (pv 1) pe_int (fun _ _ => rfl)) (fun _ _ => rfl)) pe_int (fun _ _ => rfl)) (pa_cons (pe_c DMC (hr.mono (by omega)) (pa_cons (pv 0) (pa_cons (pe_ix ix_tup (pv 1) pe_int (fun _ _ => rfl)) pa_nil))) pa_nil))))) pss_nil)
    (pss_one (ps_ret (pe_c DMa (hr.mono (by omega)) (pa_cons (pe_c DEf (hr.mono (by omega)) (pa_cons (pv 0) (pa_cons (pe_ix ix_tup (pv 1) pe_int (fun _ _ => rfl)) pa_nil))) (pa_cons (pe_ix ix_tup (pv 1) pe_int (fun _ _ => rfl)) pa_nil))))))), ?_⟩
  have ok := hb.2.mvOk
  have h6 := hb.2.six
  cases d with
  | zero =>
    obtain ⟨m, rfl, hm⟩ := gs
    obtain ⟨as, rfl, sS⟩ := do_inv hv
    obtain ⟨ab, a1, a2, x1, x2, rfl, hSb, s1, d1, s2, d2⟩ := book_parts hb.1
    obtain ⟨am, v1, v2, v3, v4, hm2, sm, dT, dL, dH⟩ := mv_inv d2 hm
    refine ⟨_, rfl, as, _, 0, .str "do", rfl, rfl, sS, atI_nat (xs := [V.str "do", .int m]) (j := 0) rfl, rfl, _, rfl, ?_⟩
    refine iteT ?_
    refine ⟨_, rfl, ab, _, 1, .ref a2, rfl, rfl, hSb, atI_nat (xs := [V.ref a1, V.ref a2]) (j := 1) rfl, _, rfl, as, _, 1, .int m, rfl, rfl, sS, atI_nat (xs := [V.str "do", .int m]) (j := 1) rfl, a2, x2, m, .ref am, rfl, rfl, s2, atI_nat hm2, am, _, 1, v2, rfl, rfl, sm, atI_nat (xs := [v1, v2, v3, v4]) (j := 1) rfl, _, rfl, _, rfl, as, _, 1, .int m, rfl, rfl, sS, atI_nat (xs := [V.str "do", .int m]) (j := 1) rfl, .ref ab, kn, mv, m, rfl, hb, hm, fun H1 p e1 hp => ?_⟩
    refine ⟨(by show 2 ≤ sizeLine; decide), fun p4 hp4 => ?_⟩
    have e5 : ExtP H1 (upd H1 p4 (.tup [v2, p])) := Ext.new hp4 _
    exact q _ _ (e1.trans e5) (e2_mk upd_same ((e1.trans e5).dp dT) (e5.dp hp))
  | succ d =>
    rcases gs with ⟨m, rfl, hm⟩ | ⟨k, r, rfl, hk1, hk, _, h3, hall⟩
    · obtain ⟨as, rfl, sS⟩ := do_inv hv
      obtain ⟨ab, a1, a2, x1, x2, rfl, hSb, s1, d1, s2, d2⟩ := book_parts hb.1
      obtain ⟨am, v1, v2, v3, v4, hm2, sm, dT, dL, dH⟩ := mv_inv d2 hm
      refine ⟨_, rfl, as, _, 0, .str "do", rfl, rfl, sS, atI_nat (xs := [V.str "do", .int m]) (j := 0) rfl, rfl, _, rfl, ?_⟩
      refine iteT ?_
      refine ⟨_, rfl, ab, _, 1, .ref a2, rfl, rfl, hSb, atI_nat (xs := [V.ref a1, V.ref a2]) (j := 1) rfl, _, rfl, as, _, 1, .int m, rfl, rfl, sS, atI_nat (xs := [V.str "do", .int m]) (j := 1) rfl, a2, x2, m, .ref am, rfl, rfl, s2, atI_nat hm2, am, _, 1, v2, rfl, rfl, sm, atI_nat (xs := [v1, v2, v3, v4]) (j := 1) rfl, _, rfl, _, rfl, as, _, 1, .int m, rfl, rfl, sS, atI_nat (xs := [V.str "do", .int m]) (j := 1) rfl, .ref ab, kn, mv, m, rfl, hb, hm, fun H1 p e1 hp => ?_⟩
      refine ⟨(by show 2 ≤ sizeLine; decide), fun p4 hp4 => ?_⟩
      have e5 : ExtP H1 (upd H1 p4 (.tup [v2, p])) := Ext.new hp4 _
      exact q _ _ (e1.trans e5) (e2_mk upd_same ((e1.trans e5).dp dT) (e5.dp hp))
    · obtain ⟨as, xr, rfl, sS, hxr⟩ := rep_inv hv
      refine ⟨_, rfl, as, _, 0, .str "rep", rfl, rfl, sS, atI_nat (xs := [V.str "rep", .int k, xr]) (j := 0) rfl, rfl, _, rfl, ?_⟩
      refine iteF ?_
      have g2 : GRn mv.length t d r := ⟨h3, hall⟩
      refine ⟨_, rfl, _, rfl, as, _, 2, xr, rfl, rfl, sS, atI_nat (xs := [V.str "rep", .int k, xr]) (j := 2) rfl, b, xr, kn, mv, t, d, r, rfl, hb, hxr, g2, by omega, ht, by omega, fun H1 p e1 hp => ?_⟩
      have b0 := g2.bd ok ht (by omega)
      refine ⟨_, rfl, as, _, 1, .int k, rfl, rfl, (e1.sqT sS), atI_nat (xs := [V.str "rep", .int k, xr]) (j := 1) rfl, p, _, kn.length, (k : Int), rfl, hp, (g2.gf ok).el, by omega, fun i hi => Nat.lt_of_lt_of_le (b0 i hi).2 (Nat.pow_le_pow_right (by decide) (by decide)), ?_, fun H2 p2 e2 hp2 => q _ _ (e1.trans e2) hp2⟩
      have e9 : (2 : Nat) ^ 100 ≤ 2 ^ 4000 := Nat.pow_le_pow_right (by decide) (by decide)
      generalize (2 : Nat) ^ 4000 = B at *
      omega
/-- the effect of runs of fewer than N levels -/
theorem ok_effs {g : Addr} {gd : FuncData} (F : Fun K "effect" "effect" sEff f fd) (mF : mg "effect" = some (.ref f)) (bF : Binds K fd ["book", "run"] []) (F2 : Fun K "step_effect" "step_effect" sStEff g gd) (mF2 : mg "step_effect" = some (.ref g)) (bF2 : Binds K gd ["book", "step"] [])
    (G : Glb mg) (DMC : Def P w K mg base "move_change" (2) ["book", "m"] (spMvCh K)) (DMa : Def P w K mg base "effect_of_many" (2) ["once", "times"] (spMany K)) (DTw : Def P w K mg base "effect_of_two" (2) ["first", "second"] (spTwo K)) : ∀ N : Nat, Def P w K mg base "effect" (2 * N + 2) ["book", "run"] (spEff K N)
  | 0 => by
    have no : ∀ vs H Q E, ¬ spEff K 0 vs H Q E := fun vs H Q E h => by
      obtain ⟨_, _, _, _, _, _, _, _, _, _, _, hn, _⟩ := h
      omega
    exact ⟨f, fd, ⟨fun vs H Q E h => absurd h (no vs H Q E), fun A outer s H args us vs Q E _ _ _ _ h => absurd h (no vs H Q E)⟩, mF, F.kp, bF⟩
  | N + 1 => by
    have ih := ok_effs F mF bF F2 mF2 bF2 G DMC DMa DTw N
    have st := ok_StEff F2 DMC DMa ih
    have ef := ok_Eff (N := N) F G DTw ⟨g, gd, st, mF2, F2.kp, bF2⟩
    exact ⟨f, fd, ef, mF, F.kp, bF⟩
theorem ln_cast : ∀ r : List RSt, ((r.map fun s => ((lnSt s : Nat) : Int)).sum) = ((lnRn r : Nat) : Int)
  | [] => rfl
  | s :: r => by rw [List.map_cons, List.sum_cons, ln_cast r, lnRn]; omega
theorem ok_Len {N : Nat} (F : Fun K "length" "length" sLen f fd) (G : Glb mg) (GK : GlbK mg) (DSL : Def P w K mg base "step_length" (2 * N + 2) ["step"] (spStLen K N)) : FnOk P w K mg base CX0 (2 * N + 3) f fd ["run"] (spLen K (N + 1)) := by
  refine F.ok scLen (fun vs H Q E h => ?_) (fun cdv A outer s H vs Q E hr h => ?_)
  · obtain ⟨v, nm, t, d, r, rfl, _⟩ := h
    rfl
  obtain ⟨v, nm, t, d, r, rfl, hv, hr2, hd, ht, hd20, q⟩ := h
  have nd := scLen.nd
  refine ⟨_, ((pss_one (ps_ret (pe_callB (cr_sum rfl) rfl GK.sum (by decide +kernel) (pa_cons (pe_lc (own := [("step", 1)]) (g := (gName 1)) (te := (tCall (spStLen K N) [] E0 (tCons (tVar 1) tNil)))  rfl nd (pi_tup (pv 0)) (blkOk_by (own := [("step", 1)]) (N := ["run", "step"]) (sc := defScope sLen) (by decide +kernel)) (fun _ _ _ _ _ => (pg_name (i := 1) nd rfl (Or.inl rfl))) (fun _ _ _ _ _ => pts_nil) (fun _ _ _ _ _ => (pe_c DSL (hr.mono (by omega)) (pa_cons (pv 1) pa_nil)))) pa_nil))))), ?_⟩
  obtain ⟨ar, xr, rfl, sr, dr⟩ := dp_tup_inv hv
  have lr : xr.length = r.length := by rw [dpAll_len dr, rnD_len]
  refine ⟨_, rfl, ar, rfl, ⟨_, sr⟩, fun D hD => ?_⟩
  refine lc_tup (xs := xr) (fun i H' => ExtP H H' ∧ H' D = some (.lst (((r.map fun s => ((lnSt s : Nat) : Int)).take i).map V.int))) ⟨Ext.new hD _, upd_same⟩ (fun i H' _ p => p.1.sqT sr) (fun i x H' hx ⟨p1, p2⟩ => ?_) fun H' ⟨p1, p2⟩ => ?_
  · obtain ⟨D2, hD2, hxd⟩ := dpAll_get dr hx
    rw [rnD_map, List.getElem?_map, Option.map_eq_some_iff] at hD2
    obtain ⟨s0, hs0, rfl⟩ := hD2
    refine ⟨rfl, _, rfl, x, nm, t, d, s0, rfl, p1.dp hxd, hr2.all s0 (List.mem_of_getElem? hs0), by omega, ht, hd20, fun H2 e2 => ?_⟩
    refine ⟨_, e2.obj _ _ rfl p2, ?_, (p1.trans e2).upd_new hD, ?_⟩
    · rw [List.length_map, List.length_take, List.length_map]
      have := hr2.three
      exact small1000 (by omega)
    · rw [upd_same, List.take_add_one, List.getElem?_map, hs0]
      simp
  · rw [lr, ← List.length_map (as := r) (f := fun s => ((lnSt s : Nat) : Int)), List.take_length] at p2
    refine ⟨D, _, rfl, SqL.of p2, ?_⟩
    rw [ln_cast]
    exact q H' p1
theorem ok_StLen {N : Nat} (F : Fun K "step_length" "step_length" sStLen f fd) (DLn : Def P w K mg base "length" (2 * N + 1) ["run"] (spLen K N)) : FnOk P w K mg base CX0 (2 * N + 2) f fd ["step"] (spStLen K N) := by
  refine F.ok scStLen (fun vs H Q E h => ?_) (fun cdv A outer s H vs Q E hr h => ?_)
  · obtain ⟨v, nm, t, d, s0, rfl, _⟩ := h
    rfl
  obtain ⟨v, nm, t, d, s0, rfl, hv, gs, hd, ht, hd20, q⟩ := h
  have nd := scStLen.nd
  refine ⟨_, ((pss_one (ps_ret (pe_ifExp (pt_cmpR op_eq (pe_ix ix_tup (pv 0) pe_int (fun _ _ => rfl)) pe_str (nomark _)) pe_int (pe_op op_mulW (pe_ix ix_tup (pv 0) pe_int (fun _ _ => rfl)) (pe_c DLn (hr.mono (by omega)) (pa_cons (pe_ix ix_tup (pv 0) pe_int (fun _ _ => rfl)) pa_nil))))))), ?_⟩
  cases d with
  | zero =>
    obtain ⟨m, rfl, hm⟩ := gs
    obtain ⟨as, rfl, sS⟩ := do_inv hv
    refine ⟨_, rfl, as, _, 0, .str "do", rfl, rfl, sS, atI_nat (xs := [V.str "do", .int m]) (j := 0) rfl, rfl, _, rfl, ?_⟩
    refine iteT ?_
    exact q H (Ext.refl true H)
  | succ d =>
    rcases gs with ⟨m, rfl, hm⟩ | ⟨k, r, rfl, hk1, hk, _, h3, hall⟩
    · obtain ⟨as, rfl, sS⟩ := do_inv hv
      refine ⟨_, rfl, as, _, 0, .str "do", rfl, rfl, sS, atI_nat (xs := [V.str "do", .int m]) (j := 0) rfl, rfl, _, rfl, ?_⟩
      refine iteT ?_
      exact q H (Ext.refl true H)
    · obtain ⟨as, xr, rfl, sS, hxr⟩ := rep_inv hv
      refine ⟨_, rfl, as, _, 0, .str "rep", rfl, rfl, sS, atI_nat (xs := [V.str "rep", .int k, xr]) (j := 0) rfl, rfl, _, rfl, ?_⟩
      refine iteF ?_
      have g2 : GRn nm t d r := ⟨h3, hall⟩
      refine ⟨_, rfl, as, _, 1, .int k, rfl, rfl, sS, atI_nat (xs := [V.str "rep", .int k, xr]) (j := 1) rfl, _, rfl, as, _, 2, xr, rfl, rfl, sS, atI_nat (xs := [V.str "rep", .int k, xr]) (j := 2) rfl, xr, nm, t, d, r, rfl, hxr, g2, by omega, ht, by omega, fun H1 e1 => ?_⟩
      have b0 := g2.small ht (by omega)
      have b1 : (2 : Nat) ^ 2100 < 2 ^ 2101 := by decide
      have b2 : ((lnRn r : Nat) : Int).natAbs < 2 ^ 2101 := by
        generalize (2 : Nat) ^ 2101 = B at *
        generalize (2 : Nat) ^ 2100 = C at *
        omega
      have b3 : ((k : Nat) : Int).natAbs < 2 ^ 100 := by
        generalize (2 : Nat) ^ 100 = B at *
        omega
      refine ⟨k, (lnRn r : Nat), rfl, rfl, wide_mul b3 b2 (by decide) (by decide) (by decide), ?_⟩
      have e9 : ((k : Nat) : Int) * ((lnRn r : Nat) : Int) = ((lnSt (.rep k r) : Nat) : Int) := by rw [lnSt, Int.natCast_mul]
      show Q (V.int (((k : Nat) : Int) * ((lnRn r : Nat) : Int))) H1
      rw [e9]
      exact q H1 e1
theorem ok_lens {g : Addr} {gd : FuncData} (F : Fun K "length" "length" sLen f fd) (mF : mg "length" = some (.ref f)) (bF : Binds K fd ["run"] []) (F2 : Fun K "step_length" "step_length" sStLen g gd) (mF2 : mg "step_length" = some (.ref g)) (bF2 : Binds K gd ["step"] [])
    (G : Glb mg) (GK : GlbK mg) : ∀ N : Nat, Def P w K mg base "length" (2 * N + 1) ["run"] (spLen K N)
  | 0 => by
    have no : ∀ vs H Q E, ¬ spLen K 0 vs H Q E := fun vs H Q E h => by
      obtain ⟨_, _, _, _, _, _, _, _, hn, _⟩ := h
      omega
    exact ⟨f, fd, ⟨fun vs H Q E h => absurd h (no vs H Q E), fun A outer s H args us vs Q E _ _ _ _ h => absurd h (no vs H Q E)⟩, mF, F.kp, bF⟩
  | N + 1 => by
    have ih := ok_lens F mF bF F2 mF2 bF2 G GK N
    have st := ok_StLen F2 ih
    have ef := ok_Len (N := N) F G GK ⟨g, gd, st, mF2, F2.kp, bF2⟩
    exact ⟨f, fd, ef, mF, F.kp, bF⟩
theorem ok_Need (F : Fun K "need" "need" sNeed f fd) (DEf : Def P w K mg base "effect" (44) ["book", "run"] (spEff K 21)) : FnOk P w K mg base CX0 (45) f fd ["book", "run"] (spNeed K Prod.fst) := by
  refine F.ok scNeed (fun vs H Q E h => ?_) (fun cdv A outer s H vs Q E hr h => ?_)
  · obtain ⟨b, v, kn, mv, t, d, r, rfl, _⟩ := h
    rfl
  obtain ⟨b, v, kn, mv, t, d, r, rfl, hb, hv, hr2, ht, hd20, q⟩ := h
  have nd := scNeed.nd
  refine ⟨_, ((pss_one (ps_ret (pe_ix ix_tup (pe_c DEf (hr.mono (by omega)) (pa_cons (pv 0) (pa_cons (pv 1) pa_nil))) pe_int (fun _ _ => rfl))))), ?_⟩
  refine ⟨_, rfl, _, rfl, b, v, kn, mv, t, d, r, rfl, hb, hv, hr2, by omega, ht, hd20, fun H1 p e1 hp => ?_⟩
  obtain ⟨a, x1, x2, rfl, sa, h1, h2⟩ := e2_inv hp
  exact ⟨a, _, 0, x1, rfl, rfl, sa, atI_nat (xs := [x1, x2]) (j := 0) rfl, q H1 _ e1 h1⟩
theorem ok_Change (F : Fun K "change" "change" sChange f fd) (DEf : Def P w K mg base "effect" (44) ["book", "run"] (spEff K 21)) : FnOk P w K mg base CX0 (45) f fd ["book", "run"] (spNeed K Prod.snd) := by
  refine F.ok scChange (fun vs H Q E h => ?_) (fun cdv A outer s H vs Q E hr h => ?_)
  · obtain ⟨b, v, kn, mv, t, d, r, rfl, _⟩ := h
    rfl
  obtain ⟨b, v, kn, mv, t, d, r, rfl, hb, hv, hr2, ht, hd20, q⟩ := h
  have nd := scChange.nd
  refine ⟨_, ((pss_one (ps_ret (pe_ix ix_tup (pe_c DEf (hr.mono (by omega)) (pa_cons (pv 0) (pa_cons (pv 1) pa_nil))) pe_int (fun _ _ => rfl))))), ?_⟩
  refine ⟨_, rfl, _, rfl, b, v, kn, mv, t, d, r, rfl, hb, hv, hr2, by omega, ht, hd20, fun H1 p e1 hp => ?_⟩
  obtain ⟨a, x1, x2, rfl, sa, h1, h2⟩ := e2_inv hp
  exact ⟨a, _, 1, x2, rfl, rfl, sa, atI_nat (xs := [x1, x2]) (j := 1) rfl, q H1 _ e1 h2⟩
theorem ok_EndR (F : Fun K "end_of_run" "end_of_run" sEndR f fd) (DEf : Def P w K mg base "effect" (44) ["book", "run"] (spEff K 21)) (DCo : Def P w K mg base "covers" (1) ["stock", "other"] (spCovers K)) (DPl : Def P w K mg base "plus" (1) ["first", "second"] (spZip K fun x y => x + y)) : FnOk P w K mg base CX0 (45) f fd ["book", "stock", "run"] (spEndR K) := by
  refine F.ok scEndR (fun vs H Q E h => ?_) (fun cdv A outer s H vs Q E hr h => ?_)
  · obtain ⟨b, sv, v, kn, mv, st, t, d, r, rfl, _⟩ := h
    rfl
  obtain ⟨b, sv, v, kn, mv, st, t, d, r, rfl, hb, hs, hl, hv, hr2, ht, hd20, q1, q2⟩ := h
  have nd := scEndR.nd
  refine ⟨_, ((pss_cons (ps_asg (pe_c DEf (hr.mono (by omega)) (pa_cons (pv 0) (pa_cons (pv 2) pa_nil))) (pg_tup (n := 2) (by rfl) (pgs_cons (pg_name (i := 3) nd rfl (Or.inl rfl)) (pgs_cons (pg_name (i := 4) nd rfl (Or.inl rfl)) pgs_nil))))
    (pss_one (ps_ret (pe_ifExp (pt_val (pe_c DCo (hr.mono (by omega)) (pa_cons (pv 1) (pa_cons (pv 3) pa_nil)))) (pe_c DPl (hr.mono (by omega)) (pa_cons (pv 1) (pa_cons (pv 4) pa_nil))) pe_non))))), ?_⟩
  refine ⟨_, rfl, _, rfl, b, v, kn, mv, t, d, r, rfl, hb, hv, hr2, by omega, ht, hd20, fun H1 p e1 hp => ?_⟩
  obtain ⟨a, x1, x2, rfl, sa, h1, h2⟩ := e2_inv hp
  have el := (hr2.gf hb.2.mvOk).el
  have l1 := el.1
  have l2 := el.2
  have h6 := hb.2.six
  refine ⟨a, [x1, x2], rfl, sa, rfl, x1, [x2], rfl, x2, [], rfl, rfl, ?_⟩
  refine ⟨_, rfl, _, rfl, sv, x1, _, _, rfl, e1.dp hs, h1, by omega, by omega, fun H2 e2 => ⟨_, rfl, ?_⟩⟩
  refine ite2 (fun c1 => ?_) (fun c1 => ?_)
  · exact ⟨_, rfl, _, rfl, sv, x2, _, _, rfl, (e1.trans e2).dp hs, e2.dp h2, by omega, by omega, fun H3 p3 e3 hp3 => q1 c1 H3 p3 ((e1.trans e2).trans e3) hp3⟩
  · exact q2 (by simpa using c1) H2 (e1.trans e2)
end
end Mint


namespace Mint
open PySem PySem.Spec PyProof.Rows L2 GxR Gx RZ

/-! ### play, move by move -/
def lacks (s t : List Int) : Bool := (List.zipWith (fun a b => decide (a < b)) s t).any id
def after (mv : List Mv) (s : List Int) (m : Nat) : List Int := List.zipWith (fun a b => a + b) (vsub s (mvAt mv m).take) (mvAt mv m).high
def play (mv : List Mv) : List Int → List Nat → Nat × List Int
  | s, [] => (0, s)
  | s, m :: r => if lacks s (mvAt mv m).take then (0, s) else ((play mv (after mv s m) r).1 + 1, (play mv (after mv s m) r).2)
section
variable {mv : List Mv} {n : Nat}
theorem after_len (h : MvOk n mv) {s : List Int} {m : Nat} (hs : s.length = n) (hm : m < mv.length) : (after mv s m).length = n := len_zip (len_zip hs (h.take m hm).1) (h.high m hm).1
theorem after_cg (h : MvOk n mv) {s : List Int} {m i : Nat} (hs : s.length = n) (hm : m < mv.length) (hi : i < n) : cg (after mv s m) i = cg s i - cg (mvAt mv m).take i + cg (mvAt mv m).high i := by
  have a := (h.take m hm).1
  have b := (h.high m hm).1
  unfold after
  rw [cg_zip (by rw [len_zip hs a]; exact hi) (by rw [b]; exact hi), cg_zip (by rw [hs]; exact hi) (by rw [a]; exact hi)]
theorem lacks_iff {s t : List Int} (hs : s.length = n) (ht : t.length = n) : lacks s t = false ↔ ∀ i, i < n → cg t i ≤ cg s i := by
  unfold lacks
  rw [Bool.eq_false_iff, ne_eq, List.any_eq_true]
  constructor
  · intro h i hi
    refine Int.not_lt.mp fun c => h ⟨true, List.mem_of_getElem? (i := i) ?_, rfl⟩
    rw [List.getElem?_zipWith, cg_some (by omega), cg_some (by omega)]
    show some (decide (cg s i < cg t i)) = some true
    rw [decide_eq_true c]
  · rintro h ⟨x, hx, e⟩
    obtain ⟨i, hi, rfl⟩ := List.getElem_of_mem hx
    rw [List.length_zipWith] at hi
    have e2 := h i (by omega)
    rw [List.getElem_zipWith] at e
    have e3 : s[i]'(by omega) < t[i]'(by omega) := of_decide_eq_true e
    rw [cg_of (List.getElem?_eq_getElem (by omega : i < t.length)), cg_of (List.getElem?_eq_getElem (by omega : i < s.length))] at e2
    omega
theorem play_le (mv : List Mv) : ∀ (ms : List Nat) (s : List Int), (play mv s ms).1 ≤ ms.length
  | [], s => Nat.le_refl 0
  | m :: r, s => by
    unfold play
    split
    · exact Nat.zero_le _
    · exact Nat.succ_le_succ (play_le mv r _)
theorem play_len (h : MvOk n mv) : ∀ (ms : List Nat) (s : List Int), s.length = n → (∀ m ∈ ms, m < mv.length) → (play mv s ms).2.length = n
  | [], s, hs, _ => hs
  | m :: r, s, hs, hm => by
    unfold play
    split
    · exact hs
    · exact play_len h r _ (after_len h hs (hm m List.mem_cons_self)) fun x hx => hm x (List.mem_cons_of_mem _ hx)
theorem play_iff (h : MvOk n mv) : ∀ (ms : List Nat) (s : List Int), s.length = n → (∀ i, i < n → 0 ≤ cg s i) → (∀ m ∈ ms, m < mv.length) →
    ((play mv s ms).1 = ms.length ↔ ∀ i, i < n → cg (eMs mv n ms).1 i ≤ cg s i) ∧ ((play mv s ms).1 = ms.length → (play mv s ms).2 = vadd s (eMs mv n ms).2)
  | [], s, hs, h0, _ => by
    refine ⟨⟨fun _ i hi => ?_, fun _ => rfl⟩, fun _ => ?_⟩
    · show cg (vzero n) i ≤ _
      rw [cg_zero hi]
      exact h0 i hi
    · refine vext hs (len_zip hs (el_zero n).2) fun i hi => ?_
      rw [cg_zip (by rw [hs]; exact hi) (by show i < (ezero n).2.length; rw [(el_zero n).2]; exact hi)]
      show cg s i = cg s i + cg (vzero n) i
      rw [cg_zero hi]
      omega
  | m :: r, s, hs, h0, hm => by
    have hm0 := hm m List.mem_cons_self
    have hr := fun x hx => hm x (List.mem_cons_of_mem m hx)
    have ta := h.take m hm0
    have hi_ := h.high m hm0
    have em := (gf_mv h hm0).el
    have er := (gf_ms h r hr).el
    have tk : ∀ i, i < n → cg (eMs mv n (m :: r)).1 i = smax (cg (mvAt mv m).take i) (cg (eMs mv n r).1 i - (cg (mvAt mv m).high i - cg (mvAt mv m).take i)) := fun i hi => by
      show cg (eTwo (eMv mv m) (eMs mv n r)).1 i = _
      rw [two1 em er hi]
      show smax _ (_ - cg (vsub (mvAt mv m).high (mvAt mv m).take) i) = _
      rw [cg_zip (by rw [hi_.1]; exact hi) (by rw [ta.1]; exact hi)]
      rfl
    by_cases c : lacks s (mvAt mv m).take = true
    · have e : play mv s (m :: r) = (0, s) := by
        unfold play
        rw [if_pos c]
      rw [e]
      refine ⟨⟨fun z => (by cases z), fun z => ?_⟩, fun z => (by cases z)⟩
      have : lacks s (mvAt mv m).take = false := (lacks_iff hs ta.1).mpr fun i hi => by
        have a := z i hi
        rw [tk i hi] at a
        unfold smax at a
        split at a <;> omega
      rw [this] at c
      cases c
    · have c' : lacks s (mvAt mv m).take = false := by simpa using c
      have cv := (lacks_iff hs ta.1).mp c'
      have e : play mv s (m :: r) = ((play mv (after mv s m) r).1 + 1, (play mv (after mv s m) r).2) := by
        conv => lhs; unfold play
        rw [if_neg c]
      rw [e]
      have la := after_len h hs hm0
      have ih := play_iff h r (after mv s m) la (fun i hi => by
        rw [after_cg h hs hm0 hi]
        have := cv i hi
        have := (small_cg hi_ hi).1
        omega) hr
      have iff2 : (∀ i, i < n → cg (eMs mv n r).1 i ≤ cg (after mv s m) i) ↔ ∀ i, i < n → cg (eMs mv n (m :: r)).1 i ≤ cg s i := by
        constructor
        · intro z i hi
          have a := z i hi
          have b := cv i hi
          rw [after_cg h hs hm0 hi] at a
          rw [tk i hi]
          unfold smax
          split <;> omega
        · intro z i hi
          have a := z i hi
          rw [after_cg h hs hm0 hi]
          rw [tk i hi] at a
          unfold smax at a
          split at a <;> omega
      refine ⟨⟨fun z => iff2.mp (ih.1.mp (Nat.succ.inj z)), fun z => congrArg (· + 1) (ih.1.mpr (iff2.mpr z))⟩, fun z => ?_⟩
      have e2 := ih.2 (Nat.succ.inj z)
      show (play mv (after mv s m) r).2 = _
      rw [e2]
      refine vext (len_zip la er.2) (len_zip hs (el_two em er).2) fun i hi => ?_
      rw [cg_zip (by rw [la]; exact hi) (by rw [er.2]; exact hi), cg_zip (by rw [hs]; exact hi) (by show i < (eTwo (eMv mv m) (eMs mv n r)).2.length; rw [(el_two em er).2]; exact hi), after_cg h hs hm0 hi]
      show _ = cg s i + cg (eTwo (eMv mv m) (eMs mv n r)).2 i
      rw [two2 em er hi]
      show _ = _ + (cg (vsub (mvAt mv m).high (mvAt mv m).take) i + _)
      rw [cg_zip (by rw [hi_.1]; exact hi) (by rw [ta.1]; exact hi)]
      omega
theorem covB_iff {s t : List Int} (hs : s.length = n) (ht : t.length = n) : covB s t = true ↔ ∀ i, i < n → cov1 (cg s i) (cg t i) = true := by
  unfold covB
  rw [List.all_eq_true]
  constructor
  · intro h i hi
    exact h _ (List.mem_of_getElem? (i := i) (by rw [List.getElem?_zipWith, cg_some (by omega), cg_some (by omega)]; rfl))
  · intro h x hx
    obtain ⟨i, hi, rfl⟩ := List.getElem_of_mem hx
    rw [List.length_zipWith] at hi
    have e2 := h i (by omega)
    rw [List.getElem_zipWith]
    rw [cg_of (List.getElem?_eq_getElem (by omega : i < t.length)), cg_of (List.getElem?_eq_getElem (by omega : i < s.length))] at e2
    exact e2
theorem covB_nn {s t : List Int} (hs : s.length = n) (ht : t.length = n) (h0 : ∀ i, i < n → 0 ≤ cg s i) (h1 : ∀ i, i < n → 0 ≤ cg t i) : covB s t = true ↔ ∀ i, i < n → cg t i ≤ cg s i := by
  rw [covB_iff hs ht]
  refine forall_congr' fun i => forall_congr' fun hi => ?_
  have a := h0 i hi
  have b := h1 i hi
  unfold cov1
  rw [decide_eq_false (show ¬ cg s i = -1 by omega), decide_eq_false (show ¬ cg t i = -1 by omega)]
  simp
end
abbrev nV (ms : List Nat) : List V := ms.map fun m => V.int (m : Nat)
theorem nV_app (a b : List Nat) : nV (a ++ b) = nV a ++ nV b := List.map_append
theorem atI_z {α : Type} {xs : List α} {i : Nat} {v : α} (h : xs[i]? = some v) : atI xs (0 + (i : Int)) = some v := by
  rw [Int.zero_add]
  exact atI_nat h
theorem small5 {n : Nat} (h : n ≤ 100000) : n < sizeLine := by
  rw [sizeLine_eq]
  omega
def spPlain (K : PySem.W.Frag) (N : Nat) : Sp := fun vs H Q _ => ∃ (v : V) (nm t d : Nat) (r : List RSt), vs = [v] ∧ Dp K H v (.tuple (rnD r)) ∧ GRn nm t d r ∧ d < N ∧ t < 2 ^ 60 ∧ lnRn r ≤ 100000 ∧
  ∀ (H' : Hp) (p : Addr), ExtP H H' → H p = none → H' p = some (.lst (nV (plRn r))) → Q (.ref p) H'
def spPlay (K : PySem.W.Frag) : Sp := fun vs H Q _ => ∃ (b s : V) (pm : Addr) (kn : List Str) (mv : List Mv) (st : List Int) (ms : List Nat), vs = [b, s, .ref pm] ∧ BkH K H b kn mv ∧ Dp K H s (intsD st) ∧ st.length = kn.length ∧ H pm = some (.lst (nV ms)) ∧ (∀ m ∈ ms, m < mv.length) ∧ ms.length ≤ 100000 ∧
  ∀ (H' : Hp) (p : V), ExtP H H' → Dp K H' p (.tuple [.int ((play mv st ms).1 : Nat), intsD (play mv st ms).2]) → Q p H'
abbrev sPlainL : Stmt := top 29
theorem scPlainL : FnScope ["run", "found", "step"] ["run"] (defScope sPlainL) := ⟨rfl, rfl, rfl, by decide +kernel, rfl, by decide +kernel, by decide +kernel⟩
abbrev sPlayL : Stmt := top 30
theorem scPlayL : FnScope ["book", "stock", "moves", "k", "name", "take", "low", "high", "i"] ["book", "stock", "moves"] (defScope sPlayL) := ⟨rfl, rfl, rfl, by decide +kernel, rfl, by decide +kernel, by decide +kernel⟩
abbrev sCovL : Stmt := top 31
theorem scCovL : FnScope ["stock", "other", "k"] ["stock", "other"] (defScope sCovL) := ⟨rfl, rfl, rfl, by decide +kernel, rfl, by decide +kernel, by decide +kernel⟩
section
variable {P : Program} {w : World} {K : PySem.W.Frag} {mg : Str → Option Value} {base : Heap} {f T : Addr} {fd : FuncData}
theorem ok_PlainL {N : Nat} (F : Fun K "_law_plain" "_law_plain" sPlainL f fd) (DPn : Def P w K mg base "_law_plain" (N + 1) ["run"] (spPlain K N)) : FnOk P w K mg base CX0 (N + 2) f fd ["run"] (spPlain K (N + 1)) := by
  refine F.ok scPlainL (fun vs H Q E h => ?_) (fun cdv A outer s H vs Q E hr h => ?_)
  · obtain ⟨v, nm, t, d, r, rfl, _⟩ := h
    rfl
  obtain ⟨v, nm, t, d, r, rfl, hv, hr2, hd, ht, hl, q⟩ := h
  have nd := scPlainL.nd
  refine ⟨_, ((pss_cons (ps_set (i := 1) nd rfl (Or.inl rfl) (pe_lst pa_nil))
    (pss_cons (ps_for PassesOwn.never rfl (pi_tup (pv 0)) (pg_name (i := 2) nd rfl (Or.inl rfl)) (pss_one (ps_if (pt_cmpR op_eq (pe_ix ix_tup (pv 2) pe_int (fun _ _ => rfl)) pe_str (nomark _)) (pss_one (ps_expr (pe_bm PySem.F.plainAttrs_list PySem.F.slot_list_append PySem.F.type_list_append mt_append (pv 1) (pa_cons (pe_ix ix_tup (pv 2) pe_int (fun _ _ => rfl)) pa_nil)))) (pss_one (ps_set (i := 1) nd rfl (Or.inl rfl) (pe_op op_cat (pv 1) (pe_op op_rep (pe_c DPn (hr.mono (by omega)) (pa_cons (pe_ix ix_tup (pv 2) pe_int (fun _ _ => rfl)) pa_nil)) (pe_ix ix_tup (pv 2) pe_int (fun _ _ => rfl)))))))))
    (pss_one (ps_ret (pv 1)))))), ?_⟩
  obtain ⟨ar, xr, rfl, sr, dr⟩ := dp_tup_inv hv
  have lr : xr.length = r.length := by rw [dpAll_len dr, rnD_len]
  have plen : ∀ i, (plRn (r.take i)).length ≤ 100000 := fun i => by
    rw [pl_lenRn]
    refine Nat.le_trans ?_ hl
    have : ∀ (r : List RSt) (i : Nat), lnRn (r.take i) ≤ lnRn r := by
      intro r
      induction r with
      | nil => intro i; simp
      | cons s r ih =>
        intro i
        cases i with
        | zero => exact Nat.zero_le _
        | succ i => rw [List.take_succ_cons, lnRn, lnRn]; have := ih i; omega
    exact this r i
  have pnext : ∀ i s0, r[i]? = some s0 → plRn (r.take (i + 1)) = plRn (r.take i) ++ plSt s0 := by
    intro i s0 h
    have ap : ∀ a b : List RSt, plRn (a ++ b) = plRn a ++ plRn b := by
      intro a b
      induction a with
      | nil => rfl
      | cons s a ih => rw [List.cons_append, plRn, plRn, ih, List.append_assoc]
    rw [List.take_add_one, h, Option.toList_some, ap]
    show _ ++ (plSt s0 ++ []) = _
    rw [List.append_nil]
  refine ⟨Nat.zero_le _, fun l hl0 => ?_⟩
  have e0 : ExtP H (upd H l (.lst [])) := Ext.new hl0 _
  refine ⟨_, rfl, ar, rfl, ⟨_, e0.sqT sr⟩, ?_⟩
  refine for_tup (xs := xr) (fun i σ H' => ∃ (p : Addr) (o2 : Option V), σ = [some (.ref ar), some (.ref p), o2] ∧ ExtP H H' ∧ H p = none ∧ H' p = some (.lst (nV (plRn (r.take i)))))
    ⟨l, none, rfl, e0, hl0, upd_same⟩ (fun i σ H' _ ⟨_, _, _, e, _⟩ => e.sqT sr) (fun i x σ H' hx ⟨p, o2, eσ, e3, hp0, hp⟩ => ?_) fun σ H' ⟨p, o2, eσ, e3, hp0, hp⟩ => ?_
  · subst eσ
    obtain ⟨D, hD, hxd⟩ := dpAll_get dr hx
    rw [rnD_map, List.getElem?_map, Option.map_eq_some_iff] at hD
    obtain ⟨s0, hs0, rfl⟩ := hD
    have gs : GSt nm t d s0 := hr2.all s0 (List.mem_of_getElem? hs0)
    have hpn := pnext i s0 hs0
    have hpl := plen (i + 1)
    have hpl0 := plen i
    cases d with
    | zero =>
      obtain ⟨m, rfl, hm⟩ := gs
      obtain ⟨as, rfl, sS⟩ := do_inv (e3.dp hxd)
      refine ⟨_, rfl, as, _, 0, .str "do", rfl, rfl, sS, atI_nat (xs := [V.str "do", .int m]) (j := 0) rfl, rfl, _, rfl, ?_⟩
      refine iteT ?_
      refine ⟨_, rfl, .inl ⟨rfl, _, SqL.of hp⟩, _, rfl, as, _, 1, .int m, rfl, rfl, sS, atI_nat (xs := [V.str "do", .int m]) (j := 1) rfl, p, _, _, rfl, rfl, hp, by rw [List.length_map]; exact small5 hpl0, ?_⟩
      refine ⟨p, _, rfl, e3.upd_new hp0, hp0, ?_⟩
      rw [upd_same, hpn, nV_app]
      rfl
    | succ d =>
      rcases gs with ⟨m, rfl, hm⟩ | ⟨k, r2, rfl, hk1, hk, _, h3, hall⟩
      · obtain ⟨as, rfl, sS⟩ := do_inv (e3.dp hxd)
        refine ⟨_, rfl, as, _, 0, .str "do", rfl, rfl, sS, atI_nat (xs := [V.str "do", .int m]) (j := 0) rfl, rfl, _, rfl, ?_⟩
        refine iteT ?_
        refine ⟨_, rfl, .inl ⟨rfl, _, SqL.of hp⟩, _, rfl, as, _, 1, .int m, rfl, rfl, sS, atI_nat (xs := [V.str "do", .int m]) (j := 1) rfl, p, _, _, rfl, rfl, hp, by rw [List.length_map]; exact small5 hpl0, ?_⟩
        refine ⟨p, _, rfl, e3.upd_new hp0, hp0, ?_⟩
        rw [upd_same, hpn, nV_app]
        rfl
      · obtain ⟨as, xq, rfl, sS, hxr⟩ := rep_inv (e3.dp hxd)
        refine ⟨_, rfl, as, _, 0, .str "rep", rfl, rfl, sS, atI_nat (xs := [V.str "rep", .int k, xq]) (j := 0) rfl, rfl, _, rfl, ?_⟩
        refine iteF ?_
        rw [hpn, List.length_append, pl_lenSt, lnSt] at hpl
        have hk2 : lnRn r2 ≤ k * lnRn r2 := Nat.le_mul_of_pos_left _ hk1
        refine ⟨_, rfl, _, rfl, as, _, 2, xq, rfl, rfl, sS, atI_nat (xs := [V.str "rep", .int k, xq]) (j := 2) rfl, xq, nm, t, d, r2, rfl, hxr, ⟨h3, hall⟩, by omega, ht, by omega, fun H1 p1 e1 hp1 hpp1 => ?_⟩
        have lk : (nV (plRn r2)).length = lnRn r2 := by rw [List.length_map, pl_lenRn]
        refine ⟨_, rfl, as, _, 1, .int k, rfl, rfl, e1.sqT sS, atI_nat (xs := [V.str "rep", .int k, xq]) (j := 1) rfl, p1, k, _, rfl, rfl, hpp1, by omega, ?_, ?_, fun p2 hp2 => ?_⟩
        · have : (2 : Nat) ^ 60 < 2 ^ 63 := by decide
          omega
        · rw [lk, Int.toNat_natCast, Nat.mul_comm]
          exact Nat.le_of_lt (small5 (by omega))
        have e2 : ExtP H1 (upd H1 p2 (.lst (List.replicate ((k : Nat) : Int).toNat (nV (plRn r2))).flatten)) := Ext.new hp2 _
        have e12 := e1.trans e2
        have lf : (List.replicate k (nV (plRn r2))).flatten = nV (plSt (.rep k r2)) := by
          rw [plSt]
          show (List.replicate k (nV (plRn r2))).flatten = List.map (fun m => V.int (m : Nat)) (List.replicate k (plRn r2)).flatten
          rw [List.map_flatten, List.map_replicate]
        have l2 : (nV (plSt (.rep k r2))).length = k * lnRn r2 := by rw [List.length_map, pl_lenSt, lnSt]
        rw [Int.toNat_natCast, lf] at e2 e12
        rw [Int.toNat_natCast, lf]
        refine ⟨p, p2, _, _, rfl, rfl, e12.obj _ _ rfl hp, upd_same, ?_, fun p3 hp3 => ?_⟩
        · rw [l2, List.length_map]
          exact Nat.le_of_lt (small5 (by omega))
        refine ⟨p3, _, rfl, e3.trans (e12.trans (Ext.new hp3 _)), (e3.trans e12).non p3 hp3, ?_⟩
        rw [upd_same, hpn, nV_app]
  · subst eσ
    rw [lr, List.take_length] at hp
    exact ⟨_, rfl, q _ p e3 hp0 hp⟩
theorem ok_plains (F : Fun K "_law_plain" "_law_plain" sPlainL f fd) (mF : mg "_law_plain" = some (.ref f)) (bF : Binds K fd ["run"] []) : ∀ N : Nat, Def P w K mg base "_law_plain" (N + 1) ["run"] (spPlain K N)
  | 0 => by
    have no : ∀ vs H Q E, ¬ spPlain K 0 vs H Q E := fun vs H Q E h => by
      obtain ⟨_, _, _, _, _, _, _, _, hn, _⟩ := h
      omega
    exact ⟨f, fd, ⟨fun vs H Q E h => absurd h (no vs H Q E), fun A outer s H args us vs Q E _ _ _ _ h => absurd h (no vs H Q E)⟩, mF, F.kp, bF⟩
  | N + 1 => ⟨f, fd, ok_PlainL F (ok_plains F mF bF N), mF, F.kp, bF⟩
theorem ok_CovL (F : Fun K "_law_covers" "_law_covers" sCovL f fd) (G : Glb mg) : FnOk P w K mg base CX0 (1) f fd ["stock", "other"] (spCovers K) := by
  refine F.ok scCovL (fun vs H Q E h => ?_) (fun cdv A outer s H vs Q E hr h => ?_)
  · obtain ⟨u, v, xs, ys, rfl, _⟩ := h
    rfl
  obtain ⟨u, v, xs, ys, rfl, hu, hv, hl, hl2, q⟩ := h
  have nd := scCovL.nd
  refine ⟨_, ((pss_cons (ps_for PassesOwn.never rfl (pi_range1 rfl G.range (pa_cons (pe_callB call_len rfl G.len PySem.boot_len (pa_cons (pv 0) pa_nil)) pa_nil)) (pg_name (i := 2) nd rfl (Or.inl rfl)) (pss_cons (ps_if (pt_cmpR op_eq (pe_ix ix_tup (pv 0) (pv 2) (fun _ _ => rfl)) (pe_un un_neg pe_int) (nomark _)) (pss_one ps_continue) pss_nil)
    (pss_one (ps_if (PW.pt (pw_or (pt_cmpR op_eq (pe_ix ix_tup (pv 1) (pv 2) (fun _ _ => rfl)) (pe_un un_neg pe_int) (nomark _)) (pw_or1 (pt_cmpR op_lt (pe_ix ix_tup (pv 0) (pv 2) (fun _ _ => rfl)) (pe_ix ix_tup (pv 1) (pv 2) (fun _ _ => rfl)) (nomark _))))) (pss_one (ps_ret pe_bl)) pss_nil))))
    (pss_one (ps_ret pe_bl)))), ?_⟩
  obtain ⟨aa, rfl, sa⟩ := iv_inv hu
  obtain ⟨ab, rfl, sb⟩ := iv_inv hv
  refine ⟨_, rfl, _, _, rfl, .inr ⟨_, sa, rfl⟩, _, rfl, by omega, by rw [List.length_map]; omega, ?_⟩
  refine for_range (lo := 0) (n := (xs.map V.int).length) (fun i σ H' => ∃ o2 : Option V, σ = [some (.ref aa), some (.ref ab), o2] ∧ H' = H ∧ ∀ j, j < i → cov1 (cg xs j) (cg ys j) = true)
    ⟨none, rfl, rfl, fun j hj => by omega⟩ (fun i σ H' hi ⟨o2, eσ, eH, hc⟩ => ?_) fun σ H' ⟨o2, eσ, eH, hc⟩ => ?_
  · subst eσ eH
    rw [List.length_map] at hi
    have hx : (xs.map V.int)[i]? = some (.int (cg xs i)) := by rw [List.getElem?_map, cg_some hi]; rfl
    have hy : (ys.map V.int)[i]? = some (.int (cg ys i)) := by rw [List.getElem?_map, cg_some (by omega)]; rfl
    have bad : cov1 (cg xs i) (cg ys i) = false → covB xs ys = false := fun z => by
      by_cases c : covB xs ys = true
      · rw [(covB_iff rfl hl.symm).mp c i hi] at z
        cases z
      · simpa using c
    have go : cov1 (cg xs i) (cg ys i) = true → ∀ j, j < i + 1 → cov1 (cg xs j) (cg ys j) = true := fun z j hj => by
      by_cases e : j = i
      · rw [e]; exact z
      · exact hc j (by omega)
    refine ⟨_, rfl, _, rfl, aa, _, _, _, rfl, rfl, sa, atI_z hx, 1, rfl, rfl, _, rfl, ?_⟩
    refine ite2 (fun c1 => ?_) (fun c1 => ?_)
    · have c2 : cg xs i = -1 := V.int.inj (of_decide_eq_true c1)
      exact ⟨_, rfl, rfl, go (by unfold cov1; rw [decide_eq_true c2]; rfl)⟩
    · have c2 : ¬ cg xs i = -1 := fun z => c1 (by rw [z]; rfl)
      refine ⟨_, rfl, _, rfl, ab, _, _, _, rfl, rfl, sb, atI_z hy, 1, rfl, rfl, _, rfl, ?_⟩
      refine ite2 (fun c3 => ?_) (fun c3 => ?_)
      · have c4 : cg ys i = -1 := V.int.inj (of_decide_eq_true c3)
        have e : covB xs ys = false := bad (by unfold cov1; rw [decide_eq_false c2, decide_eq_true c4]; rfl)
        rw [e] at q
        exact q H' (Ext.refl true H')
      · have c4 : ¬ cg ys i = -1 := fun z => c3 (by rw [z]; rfl)
        refine ⟨_, rfl, _, rfl, aa, _, _, _, rfl, rfl, sa, atI_z hx, _, rfl, _, rfl, ab, _, _, _, rfl, rfl, sb, atI_z hy, _, _, rfl, rfl, _, rfl, ?_⟩
        refine ite2 (fun c5 => ?_) (fun c5 => ?_)
        · have c6 : cg xs i < cg ys i := of_decide_eq_true c5
          have e : covB xs ys = false := bad (by unfold cov1; rw [decide_eq_false c2, decide_eq_false c4, decide_eq_false (show ¬ cg ys i ≤ cg xs i by omega)]; rfl)
          rw [e] at q
          exact q H' (Ext.refl true H')
        · have c6 : ¬ cg xs i < cg ys i := fun z => c5 (decide_eq_true z)
          exact ⟨_, rfl, rfl, go (by unfold cov1; rw [decide_eq_false c2, decide_eq_false c4, decide_eq_true (show cg ys i ≤ cg xs i by omega)]; rfl)⟩
  · subst eσ eH
    rw [List.length_map] at hc
    have e : covB xs ys = true := (covB_iff rfl hl.symm).mpr hc
    rw [e] at q
    exact q H' (Ext.refl true H')
theorem ok_PlayL (F : Fun K "_law_played" "_law_played" sPlayL f fd) (G : Glb mg) (GK : GlbK mg) : FnOk P w K mg base CX0 (1) f fd ["book", "stock", "moves"] (spPlay K) := by
  refine F.ok scPlayL (fun vs H Q E h => ?_) (fun cdv A outer s H vs Q E hr h => ?_)
  · obtain ⟨b, sv, pm, kn, mv, st, ms, rfl, _⟩ := h
    rfl
  obtain ⟨b, sv, pm, kn, mv, st, ms, rfl, hb, hs, hls, hpm, hms, hml, q⟩ := h
  have nd := scPlayL.nd
  refine ⟨_, ((pss_cons (ps_set (i := 1) nd rfl (Or.inr rfl) (pe_callTy call_list_of rfl G.list (by decide +kernel) (pa_cons (pv 1) pa_nil)))
    (pss_cons (ps_for PassesOwn.never rfl (pi_range1 rfl G.range (pa_cons (pe_callB call_len rfl G.len PySem.boot_len (pa_cons (pv 2) pa_nil)) pa_nil)) (pg_name (i := 3) nd rfl (Or.inl rfl)) (pss_cons (ps_asg (pe_ix ix_tup (pe_ix ix_tup (pv 0) pe_int (fun _ _ => rfl)) (pe_ix ix_list (pv 2) (pv 3) (fun _ _ => rfl)) (fun _ _ => rfl)) (pg_tup (n := 4) (by rfl) (pgs_cons (pg_name (i := 4) nd rfl (Or.inl rfl)) (pgs_cons (pg_name (i := 5) nd rfl (Or.inr rfl)) (pgs_cons (pg_name (i := 6) nd rfl (Or.inl rfl)) (pgs_cons (pg_name (i := 7) nd rfl (Or.inr rfl)) pgs_nil))))))
    (pss_cons (ps_if (pt_val (pe_callB (cr_any rfl) rfl GK.any (by decide +kernel) (pa_cons (pe_lc (own := [("i", 8)]) (g := (gName 8)) (te := (tOp (rI0 fun i j => .bl (decide (i < j))) (tOp (rIxL K) (tVar 1) (tVar 8)) (tOp (rIxT K) (tVar 5) (tVar 8))))  rfl nd (pi_range1 rfl G.range (pa_cons (pe_callB call_len rfl G.len PySem.boot_len (pa_cons (pv 1) pa_nil)) pa_nil)) (blkOk_by (own := [("i", 8)]) (N := ["book", "stock", "moves", "k", "name", "take", "low", "high", "i"]) (sc := defScope sPlayL) (by decide +kernel)) (fun _ _ _ _ _ => (pg_name (i := 8) nd rfl (Or.inl rfl))) (fun _ _ _ _ _ => pts_nil) (fun _ _ _ _ _ => (pe_cmpR op_lt (pe_ix ix_list (pv 1) (pv 8) (fun _ _ => rfl)) (pe_ix ix_tup (pv 5) (pv 8) (fun _ _ => rfl)) (nomark _)))) pa_nil))) (pss_one (ps_ret (pe_tup (pa_cons (pv 3) (pa_cons (pe_callTy call_tuple_of rfl G.tuple (by decide +kernel) (pa_cons (pv 1) pa_nil)) pa_nil))))) pss_nil)
    (pss_one (ps_set (i := 1) nd rfl (Or.inr rfl) (pe_lc (own := [("i", 8)]) (g := (gName 8)) (te := (tOp (rI0 fun i j => .int (i + j)) (tOp (rI0 fun i j => .int (i - j)) (tOp (rIxL K) (tVar 1) (tVar 8)) (tOp (rIxT K) (tVar 5) (tVar 8))) (tOp (rIxT K) (tVar 7) (tVar 8))))  rfl nd (pi_range1 rfl G.range (pa_cons (pe_callB call_len rfl G.len PySem.boot_len (pa_cons (pv 1) pa_nil)) pa_nil)) (blkOk_by (own := [("i", 8)]) (N := ["book", "stock", "moves", "k", "name", "take", "low", "high", "i"]) (sc := defScope sPlayL) (by decide +kernel)) (fun _ _ _ _ _ => (pg_name (i := 8) nd rfl (Or.inl rfl))) (fun _ _ _ _ _ => pts_nil) (fun _ _ _ _ _ => (pe_op op_add (pe_op op_sub (pe_ix ix_list (pv 1) (pv 8) (fun _ _ => rfl)) (pe_ix ix_tup (pv 5) (pv 8) (fun _ _ => rfl))) (pe_ix ix_tup (pv 7) (pv 8) (fun _ _ => rfl))))))))))
    (pss_one (ps_ret (pe_tup (pa_cons (pe_callB call_len rfl G.len PySem.boot_len (pa_cons (pv 2) pa_nil)) (pa_cons (pe_callTy call_tuple_of rfl G.tuple (by decide +kernel) (pa_cons (pv 1) pa_nil)) pa_nil)))))))), ?_⟩
  obtain ⟨ab, a1, a2, x1, x2, rfl, hSb, s1, d1, s2, d2⟩ := book_parts hb.1
  obtain ⟨as, rfl, sS⟩ := iv_inv hs
  have ok := hb.2.mvOk
  have h6 := hb.2.six
  have lm : (nV ms).length = ms.length := List.length_map ..
  refine ⟨_, rfl, as, _, rfl, .inr sS, fun l hl => ?_⟩
  have e0 : ExtP H (upd H l (.lst (st.map V.int))) := Ext.new hl _
  refine ⟨_, rfl, _, _, rfl, .inl ⟨_, SqL.of (e0.obj _ _ rfl hpm), rfl⟩, _, rfl, by omega, by rw [lm]; omega, ?_⟩
  refine for_range (lo := 0) (n := (nV ms).length) (fun i σ H' => ∃ (l' : Addr) (s : List Int) (o3 o4 o5 o6 o7 : Option V), σ = [some (.ref ab), some (.ref l'), some (.ref pm), o3, o4, o5, o6, o7, none] ∧ ExtP H H' ∧ H l' = none ∧ H' l' = some (.lst (s.map V.int)) ∧ s.length = kn.length ∧ play mv st ms = (i + (play mv s (ms.drop i)).1, (play mv s (ms.drop i)).2))
    ⟨l, st, none, none, none, none, none, rfl, e0, hl, upd_same, hls, by rw [List.drop_zero, Nat.zero_add]⟩ (fun i σ H' hi ⟨l', s, o3, o4, o5, o6, o7, eσ, e1, hl0, hl1, hsl, hpl⟩ => ?_) fun σ H' ⟨l', s, o3, o4, o5, o6, o7, eσ, e1, hl0, hl1, hsl, hpl⟩ => ?_
  · subst eσ
    rw [lm] at hi
    obtain ⟨m, hm⟩ : ∃ m, ms[i]? = some m := ⟨ms[i], List.getElem?_eq_getElem hi⟩
    have hmm : m < mv.length := hms m (List.mem_of_getElem? hm)
    have hmi : (nV ms)[i]? = some (.int (m : Nat)) := by rw [List.getElem?_map, hm]; rfl
    have hdrop : ms.drop i = m :: ms.drop (i + 1) := by
      rw [List.drop_eq_getElem_cons hi]
      congr 1
      rw [List.getElem?_eq_getElem hi] at hm
      exact Option.some.inj hm
    obtain ⟨am, v1, v2, v3, v4, hm2, sm, dT, dL, dH⟩ := mv_inv d2 hmm
    obtain ⟨at_, rfl, sT⟩ := iv_inv dT
    obtain ⟨ah, rfl, sH⟩ := iv_inv dH
    have lt := (ok.take m hmm).1
    have lh := (ok.high m hmm).1
    refine ⟨_, rfl, ab, _, 1, .ref a2, rfl, rfl, e1.sqT hSb, atI_nat (xs := [V.ref a1, V.ref a2]) (j := 1) rfl, _, rfl, _, rfl, pm, _, _, _, rfl, rfl, SqL.of (e1.obj _ _ rfl hpm), atI_z hmi, a2, x2, m, .ref am, rfl, rfl, e1.sqT s2, atI_nat hm2, ?_⟩
    refine ⟨am, [v1, .ref at_, v3, .ref ah], rfl, e1.sqT sm, rfl, v1, _, rfl, .ref at_, _, rfl, v3, _, rfl, .ref ah, [], rfl, rfl, ?_⟩
    have ls : (s.map V.int).length = s.length := List.length_map ..
    refine ⟨_, rfl, _, _, rfl, .inl ⟨_, SqL.of hl1, rfl⟩, _, rfl, by omega, by rw [ls]; omega, fun D hD => ?_⟩
    have hlD : l' ≠ D := ne_of_none hl1 hD
    refine lc_range (lo := 0) (n := (s.map V.int).length) (fun j H2 => ExtP H' H2 ∧ H2 D = some (.lst (((List.zipWith (fun a b : Int => decide (a < b)) s (mvAt mv m).take).take j).map V.bl))) ⟨Ext.new hD _, upd_same⟩ (fun j H2 hj ⟨p1, p2⟩ => ?_) fun H2 ⟨p1, p2⟩ => ?_
    · rw [ls] at hj
      have hx : (s.map V.int)[j]? = some (.int (cg s j)) := by rw [List.getElem?_map, cg_some hj]; rfl
      have hy : ((mvAt mv m).take.map V.int)[j]? = some (.int (cg (mvAt mv m).take j)) := by rw [List.getElem?_map, cg_some (by omega)]; rfl
      refine ⟨rfl, _, rfl, _, rfl, l', _, _, _, rfl, rfl, SqL.of (p1.obj _ _ rfl hl1), atI_z hx, _, rfl, _, rfl, at_, _, _, _, rfl, rfl, (e1.trans p1).sqT sT, atI_z hy, _, _, rfl, rfl, _, p2, ?_, p1.upd_new hD, ?_⟩
      · rw [List.length_map, List.length_take]
        exact small1000 (by omega)
      · rw [upd_same, List.take_add_one, List.getElem?_zipWith, cg_some hj, cg_some (by omega)]
        simp
    have lz : (s.map V.int).length = (List.zipWith (fun a b : Int => decide (a < b)) s (mvAt mv m).take).length := by rw [ls, List.length_zipWith]; omega
    rw [lz, List.take_length] at p2
    refine ⟨D, _, rfl, SqL.of p2, _, rfl, ?_⟩
    have hl2 : H2 l' = some (.lst (s.map V.int)) := p1.obj _ _ rfl hl1
    refine ite2 (fun c1 => ?_) (fun c1 => ?_)
    · have c2 : lacks s (mvAt mv m).take = true := c1
      have ep : play mv s (ms.drop i) = (0, s) := by
        rw [hdrop]
        unfold play
        rw [if_pos c2]
      rw [ep] at hpl
      refine ⟨_, rfl, _, rfl, l', _, rfl, .inl ⟨SqL.of hl2, fun q1 hq1 => ⟨(by show 2 ≤ sizeLine; decide), fun q2 hq2 => ?_⟩⟩⟩
      have e5 : ExtP H2 (upd (upd H2 q1 (.tup (s.map V.int))) q2 (.tup [.int (0 + (i : Int)), .ref q1])) := (Ext.new hq1 _).trans (Ext.new hq2 _)
      refine q _ _ ((e1.trans p1).trans e5) (.tup (SqT.of upd_same) (.cons ?_ (.cons ?_ .nil)))
      · rw [hpl, Int.zero_add]
        exact .int _
      · rw [hpl]
        exact (Ext.new (dk := true) hq2 _).dp (iv_mk upd_same)
    · have c2 : lacks s (mvAt mv m).take = false := by
        have : ¬ lacks s (mvAt mv m).take = true := c1
        simpa using this
      refine ⟨_, rfl, _, _, rfl, .inl ⟨_, SqL.of hl2, rfl⟩, _, rfl, by omega, by rw [ls]; omega, fun D2 hD2 => ?_⟩
      have la := after_len ok hsl hmm
      refine lc_range (lo := 0) (n := (s.map V.int).length) (fun j H3 => ExtP H2 H3 ∧ H3 D2 = some (.lst (((after mv s m).take j).map V.int))) ⟨Ext.new hD2 _, upd_same⟩ (fun j H3 hj ⟨p3, p4⟩ => ?_) fun H3 ⟨p3, p4⟩ => ?_
      · rw [ls] at hj
        have hx : (s.map V.int)[j]? = some (.int (cg s j)) := by rw [List.getElem?_map, cg_some hj]; rfl
        have hy : ((mvAt mv m).take.map V.int)[j]? = some (.int (cg (mvAt mv m).take j)) := by rw [List.getElem?_map, cg_some (by omega)]; rfl
        have hz : ((mvAt mv m).high.map V.int)[j]? = some (.int (cg (mvAt mv m).high j)) := by rw [List.getElem?_map, cg_some (by omega)]; rfl
        have e13 := (e1.trans p1).trans p3
        refine ⟨rfl, _, rfl, _, rfl, l', _, _, _, rfl, rfl, SqL.of (p3.obj _ _ rfl hl2), atI_z hx, _, rfl, _, rfl, at_, _, _, _, rfl, rfl, e13.sqT sT, atI_z hy, _, _, rfl, rfl, _, rfl, _, rfl, ah, _, _, _, rfl, rfl, e13.sqT sH, atI_z hz, _, _, rfl, rfl, _, p4, ?_, p3.upd_new hD2, ?_⟩
        · rw [List.length_map, List.length_take]
          exact small1000 (by omega)
        · rw [upd_same, List.take_add_one, cg_some (show j < (after mv s m).length by omega), after_cg ok hsl hmm (by omega)]
          simp
      have lz2 : (s.map V.int).length = (after mv s m).length := by rw [ls, la, hsl]
      rw [lz2, List.take_length] at p4
      have e13 := (e1.trans p1).trans p3
      refine ⟨D2, after mv s m, _, _, _, _, _, rfl, e13, (e1.trans p1).non D2 hD2, p4, la, ?_⟩
      rw [hpl, hdrop]
      conv => lhs; unfold play
      rw [if_neg (by rw [c2]; exact Bool.false_ne_true)]
      exact Prod.ext (by show i + ((play mv (after mv s m) (ms.drop (i + 1))).1 + 1) = i + 1 + _; omega) rfl
  · subst eσ
    rw [lm, List.drop_length] at hpl
    have ep : play mv s [] = (0, s) := rfl
    rw [ep] at hpl
    refine ⟨_, rfl, _, _, rfl, .inl ⟨_, SqL.of (e1.obj _ _ rfl hpm), rfl⟩, _, rfl, l', _, rfl, .inl ⟨SqL.of hl1, fun q1 hq1 => ⟨(by show 2 ≤ sizeLine; decide), fun q2 hq2 => ?_⟩⟩⟩
    have e5 : ExtP H' (upd (upd H' q1 (.tup (s.map V.int))) q2 (.tup [.int ((nV ms).length : Nat), .ref q1])) := (Ext.new hq1 _).trans (Ext.new hq2 _)
    refine q _ _ (e1.trans e5) (.tup (SqT.of upd_same) (.cons ?_ (.cons ?_ .nil)))
    · rw [hpl, lm, Nat.add_zero]
      exact .int _
    · rw [hpl]
      exact (Ext.new (dk := true) hq2 _).dp (iv_mk upd_same)
end
end Mint


namespace Mint
open PySem PySem.Spec PyProof.Rows L2 GxR Gx RZ

/-! ### the law -/
def rCatI (K : PySem.W.Frag) : R2 := fun x y H Q => ∃ (xs ys : List Int), Dp K H x (intsD xs) ∧ Dp K H y (intsD ys) ∧ xs.length + ys.length ≤ 1000 ∧ ∀ H' z, ExtP H H' → Dp K H' z (intsD (xs ++ ys)) → Q z H'
theorem op_catI {X : Cx} : OpR X (binaryOp .Add) (rCatI X.K) := fun pins s σ H x y v u Q I rx ry h => by
  obtain ⟨xs, ys, hx, hy, hl, q⟩ := h
  obtain ⟨a, rfl, sa⟩ := iv_inv hx
  obtain ⟨b, rfl, sb⟩ := iv_inv hy
  refine op_catA pins s σ H _ _ v u Q I rx ry ⟨a, b, _, _, rfl, rfl, sa, sb, by rw [List.length_map, List.length_map, sizeLine_eq]; omega, fun z => ?_, fun _ z => ?_, fun _ _ p hp => ?_⟩
  · have : xs = [] := List.map_eq_nil_iff.mp z
    subst this
    exact q H _ (Ext.refl true H) hy
  · have : ys = [] := List.map_eq_nil_iff.mp z
    subst this
    rw [List.append_nil] at q
    exact q H _ (Ext.refl true H) hx
  · refine q _ _ (Ext.new hp _) (iv_mk ?_)
    rw [upd_same, List.map_append]
def cutI (xs : List Int) (lo hi : Option Int) : List Int := (xs.drop (HT.sIx xs.length 0 lo)).take (HT.sIx xs.length xs.length hi - HT.sIx xs.length 0 lo)
def rSlI (K : PySem.W.Frag) : V → Option Int → Option Int → Hp → VK → Prop := fun x lo hi H Q => ∃ xs : List Int, Dp K H x (intsD xs) ∧ ∀ H' z, ExtP H H' → Dp K H' z (intsD (cutI xs lo hi)) → Q z H'
theorem sl_ints {X : Cx} : SlR X (rSlI X.K) := fun pins s σ H x v vl vu lo hi sl Q I rx hs pl pu h => by
  obtain ⟨xs, hx, q⟩ := h
  obtain ⟨a, rfl, sa⟩ := iv_inv hx
  have lm : (xs.map V.int).length = xs.length := List.length_map ..
  refine sl_tupA pins s σ H _ v vl vu lo hi sl Q I rx hs pl pu ⟨a, _, rfl, sa, fun z => ?_, fun _ p hp => ?_⟩
  · rw [lm] at z
    have : cutI xs lo hi = xs := by
      unfold cutI
      rw [z.1, z.2, List.drop_zero, Nat.sub_zero, List.take_length]
    rw [this] at q
    exact q H _ (Ext.refl true H) hx
  · refine q _ _ (Ext.new hp _) (iv_mk ?_)
    rw [upd_same]
    unfold cutV cutI
    rw [lm, List.map_take, List.map_drop]
theorem cutI_to (xs : List Int) (k : Nat) : cutI xs none (some (0 + (k : Int))) = xs.take k := by
  unfold cutI
  rw [Int.zero_add, HT.sIx_none, HT.sIx_nat, List.drop_zero, Nat.sub_zero]
  rcases Nat.le_total k xs.length with h | h
  · rw [Nat.min_eq_left h]
  · rw [Nat.min_eq_right h, List.take_of_length_le (Nat.le_refl _), List.take_of_length_le h]
theorem cutI_from (xs : List Int) (k : Nat) : cutI xs (some (0 + (k : Int) + 1)) none = xs.drop (k + 1) := by
  unfold cutI
  rw [show (0 + (k : Int) + 1) = ((k + 1 : Nat) : Int) by omega, HT.sIx_none, HT.sIx_nat]
  rcases Nat.le_total (k + 1) xs.length with h | h
  · rw [Nat.min_eq_left h, List.take_of_length_le (by rw [List.length_drop]; omega)]
  · rw [Nat.min_eq_right h, List.drop_of_length_le (Nat.le_refl _), List.drop_of_length_le h, List.take_nil]
theorem shaped_ints (xs : List Int) : SeqAt.shaped (intsD xs) = true := by
  have a : ∀ xs : List Int, PyData.canLayAll0 (xs.map PyData.int) = true := by
    intro xs
    induction xs with
    | nil => simp [PyData.canLayAll0]
    | cons x r ih => simp only [List.map_cons, PyData.canLayAll0, PyData.canLay0]; rw [ih]; rfl
  have b : ∀ xs : List Int, PyData.depthAll (xs.map PyData.int) ≤ 1 := by
    intro xs
    induction xs with
    | nil => simp [PyData.depthAll]
    | cons x r ih => simp only [List.map_cons, PyData.depthAll, PyData.depth]; omega
  unfold SeqAt.shaped
  have l : (intsD xs).canLay0 = true := by simp only [PyData.canLay0]; exact a xs
  have e : (intsD xs).depth ≤ 2 := by simp only [PyData.depth]; have := b xs; omega
  rw [l, decide_eq_true (by omega)]
  rfl
theorem eqv_ints (xs : List Int) : PyData.eqv (intsD xs) (intsD xs) = true := PySem.SeqAt.eqv_refl _ (SeqAt.canLay_of_shaped (shaped_ints xs))
/-- a stock of n kinds -/
def StOk (n : Nat) (st : List Int) : Prop := st.length = n ∧ ∀ x ∈ st, 0 ≤ x
theorem StOk.cg {n : Nat} {st : List Int} (h : StOk n st) : ∀ i, i < n → 0 ≤ cg st i := fun i hi => h.2 _ (cg_mem (by rw [h.1]; exact hi))
theorem noLsts_stocks : ∀ sts : List (List Int), noLsts (sts.map intsD) = true
  | [] => rfl
  | st :: r => by
    show (noLsts (st.map PyData.int) && noLsts (r.map intsD)) = true
    rw [noLsts_ints, noLsts_stocks r]
    rfl
def spLaw (K : PySem.W.Frag) : Sp := fun vs H Q _ => ∃ (a : Addr) (zs : List Int), vs = [.ref a] ∧ SqL K H a (zs.map V.int) ∧ zs.length ≤ 63 ∧ ∀ H', Q (.bl true) H'
abbrev sLaw : Stmt := top 32
theorem scLaw : FnScope ["script", "draws", "book", "n", "run", "moves", "needed", "changed", "stocks", "k", "stock", "count", "end", "played", "m", "name", "take", "low", "high", "answer", "one", "two", "entry"] ["script"] (defScope sLaw) := ⟨rfl, rfl, rfl, by decide +kernel, rfl, by decide +kernel, by decide +kernel⟩
section
variable {P : Program} {w : World} {K : PySem.W.Frag} {mg : Str → Option Value} {base : Heap} {f T : Addr} {fd : FuncData}
theorem ok_law (F : Fun K "law" "law" sLaw f fd) (G : Glb mg) (GK : GlbK mg) (DD : Def P w K mg base "_law_draws" 3 ["script", "count"] (spDraws K)) (DB : Def P w K mg base "_law_book" 3 ["draws", "most"] (spBookL K)) (DR : Def P w K mg base "_law_run" 5 ["draws", "moves", "depth", "times"] (spRunL K 4)) (DPn : Def P w K mg base "_law_plain" 5 ["run"] (spPlain K 4)) (DS : Def P w K mg base "_law_stock" 2 ["draws", "n", "most"] (spStockL)) (DT : Def P w K mg base "_law_take" 1 ["draws", "bound"] (spTake)) (DPy : Def P w K mg base "_law_played" 1 ["book", "stock", "moves"] (spPlay K)) (DCv : Def P w K mg base "_law_covers" 1 ["stock", "other"] (spCovers K)) (DCan : Def P w K mg base "can_do" 2 ["book", "stock", "m"] (spCanDo K)) (DDo : Def P w K mg base "done" 3 ["book", "stock", "m"] (spDone K)) (DNe : Def P w K mg base "need" 45 ["book", "run"] (spNeed K Prod.fst)) (DCh : Def P w K mg base "change" 45 ["book", "run"] (spNeed K Prod.snd)) (DLn : Def P w K mg base "length" 43 ["run"] (spLen K 21)) (DEn : Def P w K mg base "end_of_run" 45 ["book", "stock", "run"] (spEndR K)) (DCo : Def P w K mg base "covers" 1 ["stock", "other"] (spCovers K)) : FnOk P w K mg base CX0 46 f fd ["script"] (spLaw K) := by
  refine F.ok scLaw (fun vs H Q E h => ?_) (fun cdv A outer s H vs Q E hr h => ?_)
  · obtain ⟨a, zs, rfl, _⟩ := h
    rfl
  obtain ⟨a, zs, rfl, hS, h63, q⟩ := h
  have nd := scLaw.nd
  refine ⟨_, ((pss_cons (ps_set (i := 1) nd rfl (Or.inr rfl) (pe_c DD (hr.mono (by omega)) (pa_cons (pv 0) (pa_cons pe_int pa_nil))))
    (pss_cons (ps_set (i := 2) nd rfl (Or.inl rfl) (pe_c DB (hr.mono (by omega)) (pa_cons (pv 1) (pa_cons pe_int pa_nil))))
    (pss_cons (ps_set (i := 3) nd rfl (Or.inl rfl) (pe_callB call_len rfl G.len PySem.boot_len (pa_cons (pe_ix ix_tup (pv 2) pe_int (fun _ _ => rfl)) pa_nil)))
    (pss_cons (ps_set (i := 4) nd rfl (Or.inl rfl) (pe_c DR (hr.mono (by omega)) (pa_cons (pv 1) (pa_cons (pe_callB call_len rfl G.len PySem.boot_len (pa_cons (pe_ix ix_tup (pv 2) pe_int (fun _ _ => rfl)) pa_nil)) (pa_cons pe_int (pa_cons pe_int pa_nil))))))
    (pss_cons (ps_set (i := 5) nd rfl (Or.inl rfl) (pe_c DPn (hr.mono (by omega)) (pa_cons (pv 4) pa_nil)))
    (pss_cons (ps_set (i := 6) nd rfl (Or.inl rfl) (pe_c DNe (hr.mono (by omega)) (pa_cons (pv 2) (pa_cons (pv 4) pa_nil))))
    (pss_cons (ps_set (i := 7) nd rfl (Or.inr rfl) (pe_c DCh (hr.mono (by omega)) (pa_cons (pv 2) (pa_cons (pv 4) pa_nil))))
    (pss_cons (ps_if (PW.pt (pw_or (pt_cmpR op_ne (pe_c DLn (hr.mono (by omega)) (pa_cons (pv 4) pa_nil)) (pe_callB call_len rfl G.len PySem.boot_len (pa_cons (pv 5) pa_nil)) (nomark _)) (pw_or (pt_cmpR op_ne (pe_callB call_len rfl G.len PySem.boot_len (pa_cons (pv 6) pa_nil)) (pv 3) (nomark _)) (pw_or1 (pt_val (pe_callB (cr_any rfl) rfl GK.any (by decide +kernel) (pa_cons (pe_lc (own := [("entry", 22)]) (g := (gName 22)) (te := (tOp (rI0 fun i j => .bl (decide (i < j))) (tVar 22) (tC (.int 0))))  rfl nd (pi_tup (pv 6)) (blkOk_by (own := [("entry", 22)]) (N := ["script", "draws", "book", "n", "run", "moves", "needed", "changed", "stocks", "k", "stock", "count", "end", "played", "m", "name", "take", "low", "high", "answer", "one", "two", "entry"]) (sc := defScope sLaw) (by decide +kernel)) (fun _ _ _ _ _ => (pg_name (i := 22) nd rfl (Or.inl rfl))) (fun _ _ _ _ _ => pts_nil) (fun _ _ _ _ _ => (pe_cmpR op_lt (pv 22) pe_int (nomark _)))) pa_nil))))))) (pss_one (ps_ret pe_bl)) pss_nil)
    (pss_cons (ps_set (i := 8) nd rfl (Or.inl rfl) (pe_lst (pa_cons (pv 6) (pa_cons (pe_callTy call_tuple_of rfl G.tuple (by decide +kernel) (pa_cons (pe_lc (own := [("entry", 22)]) (g := (gName 22)) (te := (tOp (rI0 fun i j => .int (i + j)) (tVar 22) (tCall (spTake) [] E0 (tCons (tVar 1) (tCons (tC (.int 5)) tNil)))))  rfl nd (pi_tup (pv 6)) (blkOk_by (own := [("entry", 22)]) (N := ["script", "draws", "book", "n", "run", "moves", "needed", "changed", "stocks", "k", "stock", "count", "end", "played", "m", "name", "take", "low", "high", "answer", "one", "two", "entry"]) (sc := defScope sLaw) (by decide +kernel)) (fun _ _ _ _ _ => (pg_name (i := 22) nd rfl (Or.inl rfl))) (fun _ _ _ _ _ => pts_nil) (fun _ _ _ _ _ => (pe_op op_add (pv 22) (pe_c DT (hr.mono (by omega)) (pa_cons (pv 1) (pa_cons pe_int pa_nil)))))) pa_nil)) (pa_cons (pe_c DS (hr.mono (by omega)) (pa_cons (pv 1) (pa_cons (pv 3) (pa_cons pe_int pa_nil)))) pa_nil)))))
    (pss_cons (ps_for PassesOwn.never rfl (pi_range1 rfl G.range (pa_cons (pv 3) pa_nil)) (pg_name (i := 9) nd rfl (Or.inl rfl)) (pss_one (ps_if (pt_cmpR op_gt (pe_ix ix_tup (pv 6) (pv 9) (fun _ _ => rfl)) pe_int (nomark _)) (pss_one (ps_expr (pe_bm PySem.F.plainAttrs_list PySem.F.slot_list_append PySem.F.type_list_append mt_append (pv 8) (pa_cons (pe_op op_catI (pe_op op_catI (pe_slice sl_ints (pv 6) po_none (po_some (pv 9))) (pe_tup (pa_cons (pe_op op_sub (pe_ix ix_tup (pv 6) (pv 9) (fun _ _ => rfl)) pe_int) pa_nil))) (pe_slice sl_ints (pv 6) (po_some (pe_op op_add (pv 9) pe_int)) po_none)) pa_nil)))) pss_nil)))
    (pss_cons (ps_for PassesOwn.never rfl (pi_list (pv 8)) (pg_name (i := 10) nd rfl (Or.inr rfl)) (pss_cons (ps_asg (pe_c DPy (hr.mono (by omega)) (pa_cons (pv 2) (pa_cons (pv 10) (pa_cons (pv 5) pa_nil)))) (pg_tup (n := 2) (by rfl) (pgs_cons (pg_name (i := 11) nd rfl (Or.inl rfl)) (pgs_cons (pg_name (i := 12) nd rfl (Or.inl rfl)) pgs_nil))))
    (pss_cons (ps_set (i := 13) nd rfl (Or.inl rfl) (pe_cmpR op_eq (pv 11) (pe_callB call_len rfl G.len PySem.boot_len (pa_cons (pv 5) pa_nil)) (nomark _)))
    (pss_cons (ps_if (pt_cmpR op_ne (pv 13) (pe_c DCv (hr.mono (by omega)) (pa_cons (pv 10) (pa_cons (pv 6) pa_nil))) (nomark _)) (pss_one (ps_ret pe_bl)) pss_nil)
    (pss_cons (ps_if (pt_cmpR (op_neD hr.units) (pe_c DEn (hr.mono (by omega)) (pa_cons (pv 2) (pa_cons (pv 10) (pa_cons (pv 4) pa_nil)))) (pe_ifExp (pt_val (pv 13)) (pv 12) pe_non) (nomark _)) (pss_one (ps_ret pe_bl)) pss_nil)
    (pss_one (ps_if (PW.pt (pw_and (pt_val (pv 13)) (pw_and1 (pt_cmpR (op_neD hr.units) (pv 12) (pe_callTy call_tuple_of rfl G.tuple (by decide +kernel) (pa_cons (pe_lc (own := [("k", 9)]) (g := (gName 9)) (te := (tOp (rI0 fun i j => .int (i + j)) (tOp (rIxT K) (tVar 10) (tVar 9)) (tOp (rIxT K) (tVar 7) (tVar 9))))  rfl nd (pi_range1 rfl G.range (pa_cons (pv 3) pa_nil)) (blkOk_by (own := [("k", 9)]) (N := ["script", "draws", "book", "n", "run", "moves", "needed", "changed", "stocks", "k", "stock", "count", "end", "played", "m", "name", "take", "low", "high", "answer", "one", "two", "entry"]) (sc := defScope sLaw) (by decide +kernel)) (fun _ _ _ _ _ => (pg_name (i := 9) nd rfl (Or.inl rfl))) (fun _ _ _ _ _ => pts_nil) (fun _ _ _ _ _ => (pe_op op_add (pe_ix ix_tup (pv 10) (pv 9) (fun _ _ => rfl)) (pe_ix ix_tup (pv 7) (pv 9) (fun _ _ => rfl))))) pa_nil)) (nomark _))))) (pss_one (ps_ret pe_bl)) pss_nil)))))))
    (pss_cons (ps_for PassesOwn.never rfl (pi_range1 rfl G.range (pa_cons (pe_callB call_len rfl G.len PySem.boot_len (pa_cons (pe_ix ix_tup (pv 2) pe_int (fun _ _ => rfl)) pa_nil)) pa_nil)) (pg_name (i := 14) nd rfl (Or.inl rfl)) (pss_cons (ps_set (i := 10) nd rfl (Or.inr rfl) (pe_c DS (hr.mono (by omega)) (pa_cons (pv 1) (pa_cons (pv 3) (pa_cons pe_int pa_nil)))))
    (pss_cons (ps_asg (pe_ix ix_tup (pe_ix ix_tup (pv 2) pe_int (fun _ _ => rfl)) (pv 14) (fun _ _ => rfl)) (pg_tup (n := 4) (by rfl) (pgs_cons (pg_name (i := 15) nd rfl (Or.inl rfl)) (pgs_cons (pg_name (i := 16) nd rfl (Or.inr rfl)) (pgs_cons (pg_name (i := 17) nd rfl (Or.inl rfl)) (pgs_cons (pg_name (i := 18) nd rfl (Or.inr rfl)) pgs_nil))))))
    (pss_cons (ps_set (i := 19) nd rfl (Or.inl rfl) (pe_c DCan (hr.mono (by omega)) (pa_cons (pv 2) (pa_cons (pv 10) (pa_cons (pv 14) pa_nil)))))
    (pss_cons (ps_if (PW.pt (pw_or (pt_not (pt_val (pe_isaBool G 19))) (pw_or1 (pt_cmpR op_ne (pv 19) (pe_c DCv (hr.mono (by omega)) (pa_cons (pv 10) (pa_cons (pv 16) pa_nil))) (nomark _))))) (pss_one (ps_ret pe_bl)) pss_nil)
    (pss_one (ps_if (pt_cmpR (op_neD hr.units) (pe_c DDo (hr.mono (by omega)) (pa_cons (pv 2) (pa_cons (pv 10) (pa_cons (pv 14) pa_nil)))) (pe_callTy call_tuple_of rfl G.tuple (by decide +kernel) (pa_cons (pe_lc (own := [("k", 9)]) (g := (gName 9)) (te := (tOp (rI0 fun i j => .int (i + j)) (tOp (rI0 fun i j => .int (i - j)) (tOp (rIxT K) (tVar 10) (tVar 9)) (tOp (rIxT K) (tVar 16) (tVar 9))) (tOp (rIxT K) (tVar 18) (tVar 9))))  rfl nd (pi_range1 rfl G.range (pa_cons (pv 3) pa_nil)) (blkOk_by (own := [("k", 9)]) (N := ["script", "draws", "book", "n", "run", "moves", "needed", "changed", "stocks", "k", "stock", "count", "end", "played", "m", "name", "take", "low", "high", "answer", "one", "two", "entry"]) (sc := defScope sLaw) (by decide +kernel)) (fun _ _ _ _ _ => (pg_name (i := 9) nd rfl (Or.inl rfl))) (fun _ _ _ _ _ => pts_nil) (fun _ _ _ _ _ => (pe_op op_add (pe_op op_sub (pe_ix ix_tup (pv 10) (pv 9) (fun _ _ => rfl)) (pe_ix ix_tup (pv 16) (pv 9) (fun _ _ => rfl))) (pe_ix ix_tup (pv 18) (pv 9) (fun _ _ => rfl))))) pa_nil)) (nomark _)) (pss_one (ps_ret pe_bl)) pss_nil)))))))
    (pss_cons (ps_set (i := 20) nd rfl (Or.inl rfl) (pe_callTy call_tuple_of rfl G.tuple (by decide +kernel) (pa_cons (pe_lc (own := [("k", 9)]) (g := (gName 9)) (te := (tOp (rIxL K) (tLst (tCons (tUn (rU fun i => .int (-i)) (tC (.int 1))) (tCons (tC (.int 0)) (tCons (tC (.int 1)) (tCons (tC (.int 5)) tNil))))) (tCall (spTake) [] E0 (tCons (tVar 1) (tCons (tC (.int 4)) tNil)))))  rfl nd (pi_range1 rfl G.range (pa_cons (pv 3) pa_nil)) (blkOk_by (own := [("k", 9)]) (N := ["script", "draws", "book", "n", "run", "moves", "needed", "changed", "stocks", "k", "stock", "count", "end", "played", "m", "name", "take", "low", "high", "answer", "one", "two", "entry"]) (sc := defScope sLaw) (by decide +kernel)) (fun _ _ _ _ _ => (pg_name (i := 9) nd rfl (Or.inl rfl))) (fun _ _ _ _ _ => pts_nil) (fun _ _ _ _ _ => (pe_ix ix_list (pe_lst (pa_cons (pe_un un_neg pe_int) (pa_cons pe_int (pa_cons pe_int (pa_cons pe_int pa_nil))))) (pe_c DT (hr.mono (by omega)) (pa_cons (pv 1) (pa_cons pe_int pa_nil))) (fun _ _ => rfl)))) pa_nil)))
    (pss_cons (ps_set (i := 21) nd rfl (Or.inl rfl) (pe_callTy call_tuple_of rfl G.tuple (by decide +kernel) (pa_cons (pe_lc (own := [("k", 9)]) (g := (gName 9)) (te := (tOp (rIxL K) (tLst (tCons (tUn (rU fun i => .int (-i)) (tC (.int 1))) (tCons (tC (.int 0)) (tCons (tC (.int 1)) (tCons (tC (.int 5)) tNil))))) (tCall (spTake) [] E0 (tCons (tVar 1) (tCons (tC (.int 4)) tNil)))))  rfl nd (pi_range1 rfl G.range (pa_cons (pv 3) pa_nil)) (blkOk_by (own := [("k", 9)]) (N := ["script", "draws", "book", "n", "run", "moves", "needed", "changed", "stocks", "k", "stock", "count", "end", "played", "m", "name", "take", "low", "high", "answer", "one", "two", "entry"]) (sc := defScope sLaw) (by decide +kernel)) (fun _ _ _ _ _ => (pg_name (i := 9) nd rfl (Or.inl rfl))) (fun _ _ _ _ _ => pts_nil) (fun _ _ _ _ _ => (pe_ix ix_list (pe_lst (pa_cons (pe_un un_neg pe_int) (pa_cons pe_int (pa_cons pe_int (pa_cons pe_int pa_nil))))) (pe_c DT (hr.mono (by omega)) (pa_cons (pv 1) (pa_cons pe_int pa_nil))) (fun _ _ => rfl)))) pa_nil)))
    (pss_cons (ps_set (i := 19) nd rfl (Or.inl rfl) (pe_c DCo (hr.mono (by omega)) (pa_cons (pv 20) (pa_cons (pv 21) pa_nil))))
    (pss_one (ps_ret (pe_and (pe_isaBool G 19) (pe_and (pe_cmpR op_eq (pv 19) (pe_c DCv (hr.mono (by omega)) (pa_cons (pv 20) (pa_cons (pv 21) pa_nil))) (nomark _)) (pe_one (pe_cmpR op_is_bl (pe_c DCo (hr.mono (by omega)) (pa_cons (pv 20) (pa_cons (pv 20) pa_nil))) pe_bl (nomark _))))))))))))))))))))))), ?_⟩
  refine ⟨_, rfl, a, zs, 260, rfl, hS, h63, by decide, by decide, fun H1 d p0 e1 _ _ hD1 => ?_⟩
  refine ⟨_, rfl, d, p0, 6, rfl, hD1, by decide, by decide, fun H2 bv kn mv e2 hD2 hb2 gb => ?_⟩
  obtain ⟨ab, a1, a2, x1, x2, rfl, hSb, s1, d1, s2, d2⟩ := book_parts hb2
  have lx1 : x1.length = kn.length := by rw [dpAll_len d1, List.length_map]
  have lx2 : x2.length = mv.length := by rw [dpAll_len d2, List.length_map]
  have ok := gb.mvOk
  have h1 := gb.one
  have h6 := gb.six
  have h8 := gb.eight
  refine ⟨_, rfl, ab, _, 0, .ref a1, rfl, rfl, hSb, atI_nat (xs := [V.ref a1, V.ref a2]) (j := 0) rfl, _, _, rfl, .inr ⟨x1, s1, rfl⟩, ?_⟩
  show gName 3 (V.int (x1.length : Nat)) _ _ _
  rw [lx1]
  obtain ⟨n, hn⟩ : ∃ n, n = kn.length := ⟨_, rfl⟩
  rw [← hn] at ok h1 h6 ⊢
  refine ⟨_, rfl, _, rfl, ab, _, 1, .ref a2, rfl, rfl, hSb, atI_nat (xs := [V.ref a1, V.ref a2]) (j := 1) rfl, _, _, rfl, .inr ⟨x2, s2, rfl⟩, d, p0, mv.length, 2, 5, by rw [lx2]; rfl, by decide, by decide, hD2, by decide, fun H3 rv r e3 hD3 hrv gr => ?_⟩
  have hl5 : lnRn r ≤ 100000 := by
    have := gr.ln
    have e : 3 * (3 * (5 + 1)) ^ 2 ≤ 100000 := by decide
    omega
  have hb3 : BkH K H3 (.ref ab) kn mv := ⟨e3.dp hb2, gb⟩
  refine ⟨_, rfl, rv, mv.length, 5, 2, r, rfl, hrv, gr, by decide, by decide, hl5, fun H4 pm e4 _ hpm => ?_⟩
  refine ⟨_, rfl, _, rfl, .ref ab, rv, kn, mv, 5, 2, r, rfl, ⟨e4.dp hb3.1, gb⟩, e4.dp hrv, gr, by decide, by decide, fun H5 nv e5 hnv => ?_⟩
  have e45 := e4.trans e5
  refine ⟨_, rfl, _, rfl, .ref ab, rv, kn, mv, 5, 2, r, rfl, ⟨e45.dp hb3.1, gb⟩, e45.dp hrv, gr, by decide, by decide, fun H6 cv e6 hcv => ?_⟩
  have e46 := e45.trans e6
  obtain ⟨e, he⟩ : ∃ e, e = eRn mv kn.length r := ⟨_, rfl⟩
  have gf : GF n e := by rw [he, hn]; rw [hn] at ok; exact gr.gf ok
  rw [← he] at hnv hcv
  have le1 : e.1.length = n := gf.ge.l1
  have le2 : e.2.length = n := gf.ge.l2
  obtain ⟨an, rfl, sn5⟩ := iv_inv hnv
  obtain ⟨ac, rfl, sc6⟩ := iv_inv hcv
  have sn6 : SqT K H6 an (e.1.map V.int) := e6.sqT sn5
  have hpm6 : H6 pm = some (.lst (nV (plRn r))) := (e5.trans e6).obj _ _ rfl hpm
  have lnv : (nV (plRn r)).length = lnRn r := by rw [List.length_map, pl_lenRn]
  -- the first test
  refine ⟨_, rfl, rv, mv.length, 5, 2, r, rfl, e46.dp hrv, gr, by decide, by decide, by decide, fun H7 e7 => ?_⟩
  refine ⟨_, rfl, _, _, rfl, .inl ⟨_, SqL.of (e7.obj _ _ rfl hpm6), rfl⟩, rfl, _, rfl, ?_⟩
  refine ite2 (fun c1 => absurd c1 ?_) (fun _ => ?_)
  · rw [lnv]
    simp
  refine ⟨_, rfl, _, _, rfl, .inr ⟨_, e7.sqT sn6, rfl⟩, _, rfl, rfl, _, rfl, ?_⟩
  refine ite2 (fun c1 => absurd c1 ?_) (fun _ => ?_)
  · rw [List.length_map, le1]
    simp
  refine ⟨_, rfl, an, rfl, ⟨_, e7.sqT sn6⟩, fun D hD => ?_⟩
  refine lc_tup (xs := e.1.map V.int) (fun i H' => ExtP H7 H' ∧ H' D = some (.lst (((e.1.map fun y => decide (y < 0)).take i).map V.bl))) ⟨Ext.new hD _, upd_same⟩ (fun i H' _ p => p.1.sqT (e7.sqT sn6)) (fun i x H' hx ⟨p1, p2⟩ => ?_) fun H8 ⟨p1, p2⟩ => ?_
  · rw [List.getElem?_map, Option.map_eq_some_iff] at hx
    obtain ⟨y, hy, rfl⟩ := hx
    refine ⟨rfl, _, rfl, _, _, rfl, rfl, _, p2, ?_, p1.upd_new hD, ?_⟩
    · rw [List.length_map, List.length_take, List.length_map]
      exact small1000 (by omega)
    · rw [upd_same, List.take_add_one, List.getElem?_map, hy]
      simp
  rw [List.length_map, ← List.length_map (as := e.1) (f := fun y => decide (y < 0)), List.take_length] at p2
  refine ⟨D, _, rfl, SqL.of p2, _, rfl, ?_⟩
  refine ite2 (fun c1 => absurd c1 ?_) (fun _ => ?_)
  · intro z
    obtain ⟨y, hy, hz⟩ := List.any_eq_true.mp z
    obtain ⟨u, hu, rfl⟩ := List.mem_map.mp hy
    obtain ⟨i, hi, rfl⟩ := List.getElem_of_mem hu
    have a := gf.ge.pos i (by omega)
    rw [cg_of (List.getElem?_eq_getElem hi)] at a
    have b : e.1[i] < 0 := of_decide_eq_true hz
    omega
  -- the stocks
  have e18 : ExtP H6 H8 := e7.trans p1
  have hD8 : Draw H8 d p0 := (hD3.ext e46).ext e18
  have sn8 : SqT K H8 an (e.1.map V.int) := e18.sqT sn6
  refine ⟨_, rfl, _, rfl, an, rfl, ⟨_, sn8⟩, fun D2 hD2 => ?_⟩
  refine lc_tup (xs := e.1.map V.int) (fun j H' => ExtL H8 H' ∧ Draw H' d p0 ∧ ∃ ys : List Int, H' D2 = some (.lst (ys.map V.int)) ∧ ys.length = j ∧ ∀ y ∈ ys, 0 ≤ y) ⟨Ext.new hD2 _, hD8.new hD2, [], upd_same, rfl, fun y hy => by cases hy⟩ (fun i H' _ p => p.1.sqT sn8) (fun j x H' hx ⟨p3, hDj, ys, hys, hyl, hy0⟩ => ?_) fun H9 ⟨p3, hD9, ys, hys, hyl, hy0⟩ => ?_
  · rw [List.getElem?_map, Option.map_eq_some_iff] at hx
    obtain ⟨y, hy, rfl⟩ := hx
    have hj : j < e.1.length := (List.getElem?_eq_some_iff.mp hy).1
    have y0 : 0 ≤ y := by
      have := gf.ge.pos j (by omega)
      rw [cg_of hy] at this
      exact this
    refine ⟨rfl, _, rfl, _, rfl, d, p0, 5, rfl, hDj, by decide, fun H10 v e10 hD10 hv0 _ => ?_⟩
    refine ⟨_, _, rfl, rfl, _, e10.obj _ _ rfl hys, ?_, (p3.trans e10).upd_new hD2, hD10.upd hD8 hD2, ys ++ [y + v], ?_, by rw [List.length_append, hyl]; rfl, fun u hu => ?_⟩
    · rw [List.length_map]
      exact small1000 (by omega)
    · rw [upd_same, List.map_append]
      rfl
    · rcases List.mem_append.mp hu with z | z
      · exact hy0 u z
      · rw [List.mem_singleton.mp z]; omega
  rw [List.length_map, le1] at hyl
  refine ⟨D2, _, rfl, .inl ⟨SqL.of hys, fun q2 hq2 => ?_⟩⟩
  have eA : ExtL H8 (upd H9 q2 (.tup (ys.map V.int))) := p3.trans (Ext.new hq2 _)
  refine ⟨_, rfl, _, rfl, d, p0, n, 60, rfl, hD9.new hq2, by omega, by decide, fun HA p3' es eB hDA _ hes hel hep => ?_⟩
  refine ⟨(by show 3 ≤ sizeLine; decide), fun ls hls => ?_⟩
  have e8A : ExtL H8 HA := eA.trans eB
  have hq2A : HA q2 = some (.tup (ys.map V.int)) := eB.obj _ _ rfl upd_same
  have iB : ∀ (o : HO) (x : V) (xs : List Int), Dp K HA x (intsD xs) → Dp K (upd HA ls o) x (intsD xs) := fun o x xs h => (Ext.new (dk := false) hls o).dp h
  have dn8 : Dp K H8 (.ref an) (intsD e.1) := .tup sn8 (dp_ints _)
  -- what stands while the stocks are gathered
  have hlsH : ∀ H', ExtL HA H' → True := fun _ _ => trivial
  refine ⟨_, rfl, n, rfl, by omega, by omega, ?_⟩
  refine for_range (lo := 0) (n := n) (fun i σ H' => ∃ (o9 : Option V) (vs : List V) (sts : List (List Int)), σ = [some (.ref a), some (.ref d), some (.ref ab), some (.int (n : Nat)), some rv, some (.ref pm), some (.ref an), some (.ref ac), some (.ref ls), o9, none, none, none, none, none, none, none, none, none, none, none, none, none] ∧ ExtL HA H' ∧ Draw H' d p0 ∧ H' ls = some (.lst vs) ∧ DpAll K H' vs (sts.map intsD) ∧ vs.length ≤ 3 + i ∧ ∀ st ∈ sts, StOk n st)
    ⟨none, _, [e.1, ys, es], rfl, Ext.new hls _, hDA.new hls, upd_same, .cons (iB _ _ _ (e8A.dp dn8)) (.cons (iB _ _ _ (iv_mk hq2A)) (.cons (iB _ _ _ (iv_mk hes)) .nil)), Nat.le_refl 3, fun st hst => ?_⟩ (fun i σ H' hi ⟨o9, vs, sts, eσ, eC, hDC, hlC, hdC, hvl, hst⟩ => ?_) fun σ HC ⟨o9, vs, sts, eσ, eC, hDC, hlC, hdC, hvl, hst⟩ => ?_
  · simp only [List.mem_cons, List.not_mem_nil, or_false] at hst
    rcases hst with rfl | rfl | rfl
    · refine ⟨le1, fun x hx => ?_⟩
      obtain ⟨i, hi, rfl⟩ := List.getElem_of_mem hx
      have := gf.ge.pos i (by omega)
      rw [cg_of (List.getElem?_eq_getElem hi)] at this
      exact this
    · exact ⟨hyl, hy0⟩
    · exact ⟨hel, fun x hx => (hep x hx).1⟩
  · subst eσ
    have hix : (e.1.map V.int)[i]? = some (.int (cg e.1 i)) := by rw [List.getElem?_map, cg_some (by omega)]; rfl
    have snC : SqT K H' an (e.1.map V.int) := (e8A.trans eC).sqT sn8
    refine ⟨_, rfl, _, rfl, an, _, _, _, rfl, rfl, snC, atI_z hix, _, _, rfl, rfl, _, rfl, ?_⟩
    refine ite2 (fun c1 => ?_) (fun c1 => ?_)
    · have c2 : cg e.1 i > 0 := of_decide_eq_true c1
      have dnC : Dp K H' (.ref an) (intsD e.1) := .tup snC (dp_ints _)
      refine ⟨_, rfl, .inl ⟨rfl, _, SqL.of hlC⟩, _, rfl, _, rfl, _, rfl, e.1, dnC, fun HE z1 eE hz1 => ?_⟩
      refine ⟨_, rfl, _, rfl, an, _, _, _, rfl, rfl, eE.sqT snC, atI_z hix, _, _, rfl, rfl, (by show 1 ≤ sizeLine; decide), fun t ht => ?_⟩
      have eF : ExtP HE (upd HE t (.tup [.int (cg e.1 i - 1)])) := Ext.new ht _
      have lt1 : (cutI e.1 none (some (0 + (i : Int)))).length ≤ 6 := by rw [cutI_to, List.length_take]; omega
      refine ⟨_, [cg e.1 i - 1], eF.dp hz1, iv_mk upd_same, by show _ + 1 ≤ 1000; omega, fun HG z2 eG hz2 => ?_⟩
      have eEG := (eE.trans eF).trans eG
      refine ⟨_, rfl, _, rfl, _, _, rfl, rfl, _, rfl, e.1, eEG.dp dnC, fun HI z3 eI hz3 => ?_⟩
      have lt3 : (cutI e.1 (some (0 + (i : Int) + 1)) none).length ≤ 6 := by rw [cutI_from, List.length_drop]; omega
      refine ⟨_, _, eI.dp hz2, hz3, by rw [List.length_append]; show _ + 1 + _ ≤ 1000; omega, fun HJ z4 eJ hz4 => ?_⟩
      have eAll : ExtP H' HJ := (eEG.trans eI).trans eJ
      rw [cutI_to, cutI_from] at hz4
      have hlJ : HJ ls = some (.lst vs) := eAll.obj _ _ rfl hlC
      have hlsA : HA ls = none := hls
      have new : StOk n (e.1.take i ++ [cg e.1 i - 1] ++ e.1.drop (i + 1)) := by
        refine ⟨by rw [List.length_append, List.length_append, List.length_take, List.length_drop, le1]; show min i n + 1 + _ = n; omega, fun x hx => ?_⟩
        have pos : ∀ x ∈ e.1, 0 ≤ x := fun x hx => by
          obtain ⟨i, hi, rfl⟩ := List.getElem_of_mem hx
          have := gf.ge.pos i (by omega)
          rw [cg_of (List.getElem?_eq_getElem hi)] at this
          exact this
        rcases List.mem_append.mp hx with z | z
        · rcases List.mem_append.mp z with z | z
          · exact pos x (List.mem_of_mem_take z)
          · rw [List.mem_singleton.mp z]; omega
        · exact pos x (List.mem_of_mem_drop z)
      refine ⟨ls, _, _, rfl, rfl, hlJ, small1000 (by omega), ?_⟩
      refine ⟨_, vs ++ [z4], sts ++ [e.1.take i ++ [cg e.1 i - 1] ++ e.1.drop (i + 1)], rfl, ?_, ?_, upd_same, ?_, by rw [List.length_append]; show vs.length + 1 ≤ _; omega, fun st hs => ?_⟩
      · exact (eC.trans eAll.weak).upd_new hlsA
      · exact (hDC.ext eAll).upd hDA hlsA
      · rw [List.map_append]
        exact dps_upd hlJ (by
          have := noLsts_stocks (sts ++ [e.1.take i ++ [cg e.1 i - 1] ++ e.1.drop (i + 1)])
          rw [List.map_append] at this
          exact this) (dp_app (eAll.dps hdC) (.cons hz4 .nil))
      · rcases List.mem_append.mp hs with z | z
        · exact hst st z
        · rw [List.mem_singleton.mp z]; exact new
    · exact ⟨_, vs, sts, rfl, eC, hDC, hlC, hdC, by omega, hst⟩
  subst eσ
  -- each stock
  have eAC : ExtL H8 HC := e8A.trans eC
  refine ⟨_, rfl, ls, rfl, ⟨_, SqL.of hlC⟩, ?_⟩
  refine for_list (xs := vs) (fun i σ H' => ∃ (o9 o10 o11 o12 o13 : Option V), σ = [some (.ref a), some (.ref d), some (.ref ab), some (.int (n : Nat)), some rv, some (.ref pm), some (.ref an), some (.ref ac), some (.ref ls), o9, o10, o11, o12, o13, none, none, none, none, none, none, none, none, none] ∧ ExtP HC H')
    ⟨o9, none, none, none, none, rfl, Ext.refl true HC⟩ (fun i σ H' _ ⟨_, _, _, _, _, _, z⟩ => SqL.of (z.obj _ _ rfl hlC)) (fun i x σ H' hx ⟨o9', o10, o11, o12, o13, eσ, eK⟩ => ?_) fun σ HL ⟨o9', o10, o11, o12, o13, eσ, eK⟩ => ?_
  · subst eσ
    obtain ⟨D3, hD3', hxd⟩ := dpAll_get hdC hx
    rw [List.getElem?_map, Option.map_eq_some_iff] at hD3'
    obtain ⟨st, hsi, rfl⟩ := hD3'
    have so := hst st (List.mem_of_getElem? hsi)
    have e8K : ExtL H8 H' := eAC.trans eK.weak
    have e3K : ExtL H3 H' := (e46.trans e18).weak.trans e8K
    have hbK : BkH K H' (.ref ab) kn mv := ⟨e3K.dp hb3.1, gb⟩
    have pi := play_iff ok (plRn r) st so.1 so.cg gr.pl
    have e_eq : e = eMs mv n (plRn r) := by rw [he, ← hn, gr.eq ok]
    have hcov : covB st e.1 = true ↔ (play mv st (plRn r)).1 = (plRn r).length := by
      rw [covB_nn so.1 le1 so.cg gf.ge.pos, e_eq]
      exact pi.1.symm
    have lpl := play_len ok (plRn r) st so.1 gr.pl
    refine ⟨_, rfl, _, rfl, _, rfl, .ref ab, x, pm, kn, mv, st, plRn r, rfl, hbK, eK.dp hxd, by rw [← hn]; exact so.1, e8K.obj _ _ rfl (e18.obj _ _ rfl hpm6), gr.pl, by rw [pl_lenRn]; exact hl5, fun HM pv eM hpv => ?_⟩
    obtain ⟨pa, xs2, rfl, sP, dP⟩ := dp_tup_inv hpv
    obtain ⟨y1, y2, dd1, dd2, rfl, ed, hy1, hy2⟩ := dp_two dP (dpAll_len dP)
    cases ed
    cases dp_int_inv hy1
    refine ⟨pa, [_, y2], rfl, sP, rfl, _, [y2], rfl, y2, [], rfl, rfl, ?_⟩
    have e8M : ExtL H8 HM := e8K.trans eM.weak
    have hpmM : HM pm = some (.lst (nV (plRn r))) := e8M.obj _ _ rfl (e18.obj _ _ rfl hpm6)
    refine ⟨_, rfl, _, rfl, _, _, rfl, .inl ⟨_, SqL.of hpmM, rfl⟩, rfl, ?_⟩
    have epl : decide (V.int ((play mv st (plRn r)).1 : Nat) = V.int ((nV (plRn r)).length : Nat)) = covB st e.1 := by
      rw [List.length_map]
      cases hc : covB st e.1 with
      | true => rw [hcov.mp hc]; exact decide_eq_true rfl
      | false =>
        refine decide_eq_false fun z => ?_
        have z2 : (play mv st (plRn r)).1 = (plRn r).length := by
          have := V.int.inj z
          omega
        rw [hcov.mpr z2] at hc
        cases hc
    show gName 13 (V.bl (decide (V.int ((play mv st (plRn r)).1 : Nat) = V.int ((nV (plRn r)).length : Nat)))) _ _ _
    rw [epl]
    refine ⟨_, rfl, _, rfl, _, rfl, x, .ref an, st, e.1, rfl, eM.dp (eK.dp hxd), e8M.dp dn8, by rw [so.1, le1], by rw [so.1]; omega, fun HN eN => ?_⟩
    refine ⟨rfl, _, rfl, ?_⟩
    refine ite2 (fun c1 => absurd c1 (by simp)) (fun _ => ?_)
    have eMN := eM.trans eN
    have e3N : ExtL H3 HN := (e3K.trans eMN.weak)
    have hbN : BkH K HN (.ref ab) kn mv := ⟨e3N.dp hb3.1, gb⟩
    have dxN : Dp K HN x (intsD st) := eMN.dp (eK.dp hxd)
    refine ⟨_, rfl, _, rfl, _, rfl, .ref ab, x, rv, kn, mv, st, 5, 2, r, rfl, hbN, dxN, by rw [← hn]; exact so.1, e3N.dp hrv, gr, by decide, by decide, ?_⟩
    rw [← he]
    cases hc : covB st e.1 with
    | true =>
      refine ⟨fun _ HO p4 eO hp4 => ?_, fun z => by cases z⟩
      have pend := pi.2 (hcov.mp hc)
      rw [← e_eq] at pend
      refine ⟨_, rfl, _, rfl, ?_⟩
      refine iteT ⟨_, rfl, ?_⟩
      have dyO : Dp K HO y2 (intsD (vadd st e.2)) := by rw [← pend]; exact (eN.trans eO).dp hy2
      refine ⟨_, _, hp4, dyO, shaped_ints _, shaped_ints _, _, rfl, ?_⟩
      refine ite2 (fun c1 => absurd c1 (by rw [eqv_ints]; decide)) (fun _ => ?_)
      refine ⟨_, rfl, _, rfl, ?_⟩
      refine iteT ⟨_, rfl, ?_⟩
      refine ⟨_, rfl, n, rfl, by omega, by omega, fun D5 hD5 => ?_⟩
      have e8O : ExtL H8 HO := (e8M.trans eN.weak).trans eO.weak
      obtain ⟨ax, rfl, sx⟩ := iv_inv dxN
      have sxO := eO.sqT sx
      have scO : SqT K HO ac (e.2.map V.int) := e8O.sqT (e18.sqT sc6)
      have lv : (vadd st e.2).length = n := len_zip so.1 le2
      refine lc_range (lo := 0) (n := n) (fun j H' => ExtP HO H' ∧ H' D5 = some (.lst (((vadd st e.2).take j).map V.int))) ⟨Ext.new hD5 _, upd_same⟩ (fun j H' hj ⟨u1, u2⟩ => ?_) fun HP ⟨u1, u2⟩ => ?_
      · have i1 : (st.map V.int)[j]? = some (.int (cg st j)) := by rw [List.getElem?_map, cg_some (by rw [so.1]; exact hj)]; rfl
        have i2 : (e.2.map V.int)[j]? = some (.int (cg e.2 j)) := by rw [List.getElem?_map, cg_some (by omega)]; rfl
        refine ⟨rfl, _, rfl, _, rfl, ax, _, _, _, rfl, rfl, u1.sqT sxO, atI_z i1, _, rfl, _, rfl, ac, _, _, _, rfl, rfl, u1.sqT scO, atI_z i2, _, _, rfl, rfl, _, u2, ?_, u1.upd_new hD5, ?_⟩
        · rw [List.length_map, List.length_take]
          exact small1000 (by omega)
        · rw [upd_same, List.take_add_one, List.getElem?_zipWith, cg_some (by rw [so.1]; exact hj), cg_some (by omega)]
          simp
      rw [← lv, List.take_length] at u2
      refine ⟨D5, _, rfl, .inl ⟨SqL.of u2, fun p5 hp5 => ?_⟩⟩
      refine ⟨_, _, (u1.trans (Ext.new hp5 _)).dp dyO, iv_mk upd_same, shaped_ints _, shaped_ints _, _, rfl, ?_⟩
      refine ite2 (fun c1 => absurd c1 (by rw [eqv_ints]; decide)) (fun _ => ?_)
      exact ⟨_, _, _, _, _, rfl, (((eK.trans eMN).trans eO).trans u1).trans (Ext.new hp5 _)⟩
    | false =>
      refine ⟨fun z => (by cases z), fun _ HO eO => ?_⟩
      refine ⟨_, rfl, _, rfl, ?_⟩
      refine iteF ?_
      refine ⟨.none, .none, .non, .non, by decide +kernel, by decide +kernel, _, rfl, ?_⟩
      refine ite2 (fun c1 => absurd c1 (by decide +kernel)) (fun _ => ?_)
      refine ⟨_, rfl, _, rfl, ?_⟩
      refine iteF ?_
      exact ⟨_, _, _, _, _, rfl, (eK.trans eMN).trans eO⟩
  subst eσ
  -- each move
  have e8L : ExtL H8 HL := eAC.trans eK.weak
  have e3L : ExtL H3 HL := (e46.trans e18).weak.trans e8L
  have hDL : Draw HL d p0 := hDC.ext eK
  have hSbL := (e3.trans e3L).sqT hSb
  have s2L := (e3.trans e3L).sqT s2
  refine ⟨_, rfl, ab, _, 1, .ref a2, rfl, rfl, hSbL, atI_nat (xs := [V.ref a1, V.ref a2]) (j := 1) rfl, _, _, rfl, .inr ⟨x2, s2L, rfl⟩, _, rfl, by omega, by omega, ?_⟩
  refine for_range (lo := 0) (n := x2.length) (fun i σ H' => ∃ (o9 o10 o11 o12 o13 o14 o15 o16 o17 o18 o19 : Option V), σ = [some (.ref a), some (.ref d), some (.ref ab), some (.int (n : Nat)), some rv, some (.ref pm), some (.ref an), some (.ref ac), some (.ref ls), o9, o10, o11, o12, o13, o14, o15, o16, o17, o18, o19, none, none, none] ∧ ExtL HL H' ∧ Draw H' d p0)
    ⟨_, _, _, _, _, none, none, none, none, none, none, rfl, Ext.refl false HL, hDL⟩ (fun m σ H' hm ⟨o9, o10, o11, o12, o13, o14, o15, o16, o17, o18, o19, eσ, eP, hDP⟩ => ?_) fun σ HP ⟨o9, o10, o11, o12, o13, o14, o15, o16, o17, o18, o19, eσ, eP, hDHP⟩ => ?_
  · subst eσ
    rw [lx2] at hm
    refine ⟨_, rfl, _, rfl, d, p0, n, 7, rfl, hDP, by omega, by decide, fun HQ ps es' eQ hDQ _ hps hpl hpp => ?_⟩
    have eLQ : ExtL HL HQ := eP.trans eQ
    have d2Q : DpAll K HQ x2 (mv.map moveD) := ((e3.trans e3L).trans eLQ).dps d2
    obtain ⟨am, v1, v2, v3, v4, hm2, sm, dT, dL, dH⟩ := mv_inv d2Q hm
    have lt := (ok.take m hm).1
    have lh := (ok.high m hm).1
    refine ⟨_, rfl, ab, _, 1, .ref a2, rfl, rfl, eLQ.sqT hSbL, atI_nat (xs := [V.ref a1, V.ref a2]) (j := 1) rfl, _, rfl, a2, x2, _, .ref am, rfl, rfl, eLQ.sqT s2L, atI_z hm2, ?_⟩
    obtain ⟨at_, rfl, sT⟩ := iv_inv dT
    obtain ⟨ah, rfl, sH⟩ := iv_inv dH
    refine ⟨am, [v1, .ref at_, v3, .ref ah], rfl, sm, rfl, v1, _, rfl, .ref at_, _, rfl, v3, _, rfl, .ref ah, [], rfl, rfl, ?_⟩
    have hbQ : BkH K HQ (.ref ab) kn mv := ⟨(e3L.trans eLQ).dp hb3.1, gb⟩
    have dsQ : Dp K HQ (.ref ps) (intsD es') := iv_mk hps
    refine ⟨_, rfl, _, rfl, _, rfl, .ref ab, .ref ps, kn, mv, es', m, by rw [Int.zero_add]; rfl, hbQ, hm, dsQ, by omega, fun HR eR => ?_⟩
    refine ⟨_, rfl, .bool _, .bl _, _, rfl, ?_⟩
    refine ite2 (fun c1 => absurd c1 Bool.false_ne_true) (fun _ => ?_)
    refine ⟨_, rfl, _, rfl, _, rfl, .ref ps, .ref at_, es', (mvAt mv m).take, rfl, eR.dp dsQ, eR.dp dT, by omega, by omega, fun HS eS => ?_⟩
    refine ⟨rfl, _, rfl, ?_⟩
    refine ite2 (fun c1 => absurd c1 (by simp)) (fun _ => ?_)
    have eRS := eR.trans eS
    refine ⟨_, rfl, _, rfl, _, rfl, .ref ab, .ref ps, kn, mv, es', m, by rw [Int.zero_add]; rfl, ⟨eRS.dp hbQ.1, gb⟩, hm, eRS.dp dsQ, by omega, fun HT pt eT hpt => ?_⟩
    refine ⟨_, rfl, n, rfl, by omega, by omega, fun D6 hD6 => ?_⟩
    have eRT := eRS.trans eT
    have sps : SqT K HQ ps (es'.map V.int) := SqT.of hps
    have la := after_len ok hpl hm
    refine lc_range (lo := 0) (n := n) (fun j H' => ExtP HT H' ∧ H' D6 = some (.lst (((after mv es' m).take j).map V.int))) ⟨Ext.new hD6 _, upd_same⟩ (fun j H' hj ⟨u1, u2⟩ => ?_) fun HU ⟨u1, u2⟩ => ?_
    · have i1 : (es'.map V.int)[j]? = some (.int (cg es' j)) := by rw [List.getElem?_map, cg_some (by omega)]; rfl
      have i2 : ((mvAt mv m).take.map V.int)[j]? = some (.int (cg (mvAt mv m).take j)) := by rw [List.getElem?_map, cg_some (by omega)]; rfl
      have i3 : ((mvAt mv m).high.map V.int)[j]? = some (.int (cg (mvAt mv m).high j)) := by rw [List.getElem?_map, cg_some (by omega)]; rfl
      have eRU := eRT.trans u1
      refine ⟨rfl, _, rfl, _, rfl, ps, _, _, _, rfl, rfl, eRU.sqT sps, atI_z i1, _, rfl, _, rfl, at_, _, _, _, rfl, rfl, eRU.sqT sT, atI_z i2, _, _, rfl, rfl, _, rfl, _, rfl, ah, _, _, _, rfl, rfl, eRU.sqT sH, atI_z i3, _, _, rfl, rfl, _, u2, ?_, u1.upd_new hD6, ?_⟩
      · rw [List.length_map, List.length_take]
        exact small1000 (by omega)
      · rw [upd_same, List.take_add_one, cg_some (show j < (after mv es' m).length by omega), after_cg ok hpl hm hj]
        simp
    rw [← la, List.take_length] at u2
    refine ⟨D6, _, rfl, .inl ⟨SqL.of u2, fun p5 hp5 => ?_⟩⟩
    have eaf : after mv es' m = vadd es' (eMv mv m).2 := by
      have lc : (eMv mv m).2.length = n := len_zip lh lt
      refine vext la (len_zip hpl lc) fun i hi => ?_
      rw [after_cg ok hpl hm hi, cg_zip (by omega) (by omega)]
      show _ = _ + cg (vsub (mvAt mv m).high (mvAt mv m).take) i
      rw [cg_zip (by omega) (by omega)]
      omega
    refine ⟨_, _, (u1.trans (Ext.new hp5 _)).dp hpt, iv_mk upd_same, shaped_ints _, shaped_ints _, _, rfl, ?_⟩
    refine ite2 (fun c1 => absurd c1 (by rw [eaf, eqv_ints]; decide)) (fun _ => ?_)
    exact ⟨_, _, _, _, _, _, _, _, _, _, _, rfl, eLQ.trans ((eRT.trans u1).trans (Ext.new hp5 _)).weak, hDQ.ext ((eRT.trans u1).trans (Ext.new hp5 _))⟩
  subst eσ
  -- the last lines
  refine ⟨_, rfl, n, rfl, by omega, by omega, fun D7 hDD7 => ?_⟩
  refine lc_range (lo := 0) (n := n) (fun j H' => ExtL HP H' ∧ Draw H' d p0 ∧ ∃ ys : List Int, H' D7 = some (.lst (ys.map V.int)) ∧ ys.length = j) ⟨Ext.new hDD7 _, hDHP.new hDD7, [], upd_same, rfl⟩ (fun j H' hj ⟨u1, hDj, ys, hys, hyl⟩ => ?_) fun HV ⟨w1, hDHV', ys1, hys1, lys1⟩ => ?_
  · refine ⟨rfl, 1, rfl, (by show 4 ≤ sizeLine; decide), fun t ht => ?_⟩
    refine ⟨_, rfl, d, p0, 4, rfl, hDj.new ht, by decide, fun HW v eW hDW hv0 hv1 => ?_⟩
    obtain ⟨x, hx, hmem⟩ := atI_mem (xs := [V.int (-1), .int 0, .int 1, .int 5]) hv0 (by simpa using hv1)
    have hxi : ∃ i : Int, x = .int i := by
      simp at hmem
      rcases hmem with z | z | z | z <;> exact ⟨_, z⟩
    obtain ⟨x, rfl⟩ := hxi
    have eX : ExtL H' HW := (Ext.new ht _).trans eW
    refine ⟨t, _, v, .int x, rfl, rfl, SqL.of (eW.obj _ _ rfl upd_same), hx, _, eX.obj _ _ rfl hys, ?_, (u1.trans eX).upd_new hDD7, hDW.upd hDHP hDD7, ys ++ [x], ?_, by rw [List.length_append, hyl]; rfl⟩
    · rw [List.length_map]
      exact small1000 (by omega)
    · rw [upd_same, List.map_append]
      rfl
  refine ⟨D7, _, rfl, .inl ⟨SqL.of hys1, fun q7 hq7 => ?_⟩⟩
  have hDHV : Draw (upd HV q7 (.tup (ys1.map V.int))) d p0 := hDHV'.new hq7
  have dys1 : Dp K (upd HV q7 (.tup (ys1.map V.int))) (.ref q7) (intsD ys1) := iv_mk upd_same
  obtain ⟨HVV, eHVV⟩ : ∃ h, h = upd HV q7 (.tup (ys1.map V.int)) := ⟨_, rfl⟩
  rw [← eHVV] at hDHV dys1
  rw [← eHVV]
  refine ⟨_, rfl, n, rfl, by omega, by omega, fun D8 hDD8 => ?_⟩
  refine lc_range (lo := 0) (n := n) (fun j H' => ExtL HVV H' ∧ Draw H' d p0 ∧ ∃ ys : List Int, H' D8 = some (.lst (ys.map V.int)) ∧ ys.length = j) ⟨Ext.new hDD8 _, hDHV.new hDD8, [], upd_same, rfl⟩ (fun j H' hj ⟨u1, hDj, ys, hys, hyl⟩ => ?_) fun HW2 ⟨w2, hDHW2', ys2, hys2, lys2⟩ => ?_
  · refine ⟨rfl, 1, rfl, (by show 4 ≤ sizeLine; decide), fun t ht => ?_⟩
    refine ⟨_, rfl, d, p0, 4, rfl, hDj.new ht, by decide, fun HW v eW hDW hv0 hv1 => ?_⟩
    obtain ⟨x, hx, hmem⟩ := atI_mem (xs := [V.int (-1), .int 0, .int 1, .int 5]) hv0 (by simpa using hv1)
    have hxi : ∃ i : Int, x = .int i := by
      simp at hmem
      rcases hmem with z | z | z | z <;> exact ⟨_, z⟩
    obtain ⟨x, rfl⟩ := hxi
    have eX : ExtL H' HW := (Ext.new ht _).trans eW
    refine ⟨t, _, v, .int x, rfl, rfl, SqL.of (eW.obj _ _ rfl upd_same), hx, _, eX.obj _ _ rfl hys, ?_, (u1.trans eX).upd_new hDD8, hDW.upd hDHV hDD8, ys ++ [x], ?_, by rw [List.length_append, hyl]; rfl⟩
    · rw [List.length_map]
      exact small1000 (by omega)
    · rw [upd_same, List.map_append]
      rfl
  refine ⟨D8, _, rfl, .inl ⟨SqL.of hys2, fun q8 hq8 => ?_⟩⟩
  have hDHW2 : Draw (upd HW2 q8 (.tup (ys2.map V.int))) d p0 := hDHW2'.new hq8
  have dys2 : Dp K (upd HW2 q8 (.tup (ys2.map V.int))) (.ref q8) (intsD ys2) := iv_mk upd_same
  have eZ : ExtL HVV (upd HW2 q8 (.tup (ys2.map V.int))) := w2.trans (Ext.new hq8 _)
  have dz1 := eZ.dp dys1
  refine ⟨_, rfl, _, rfl, .ref q7, .ref q8, ys1, ys2, rfl, dz1, dys2, by omega, by omega, fun H20 e20 => ?_⟩
  refine ⟨_, rfl, .bool _, .bl _, _, rfl, ?_⟩
  refine iteT ?_
  refine ⟨_, rfl, _, rfl, _, rfl, .ref q7, .ref q8, ys1, ys2, rfl, e20.dp dz1, e20.dp dys2, by omega, by omega, fun H21 e21 => ?_⟩
  refine ⟨rfl, _, rfl, ?_⟩
  refine ite2 (fun _ => ?_) (fun c1 => absurd (decide_eq_true rfl) c1)
  refine ⟨_, rfl, _, rfl, .ref q7, .ref q7, ys1, ys1, rfl, (e20.trans e21).dp dz1, (e20.trans e21).dp dz1, rfl, by omega, fun H22 e22 => ?_⟩
  have self : covB ys1 ys1 = true := (covB_iff (n := n) lys1 lys1).mpr fun i _ => by
    unfold cov1
    by_cases z : cg ys1 i = -1
    · rw [decide_eq_true z]; rfl
    · rw [decide_eq_false z, decide_eq_true (Int.le_refl _)]; rfl
  rw [self]
  exact ⟨true, true, rfl, rfl, q H22⟩
end
end Mint


namespace Mint
open PySem PySem.Spec PyProof.Rows L2 GxR Gx RZ

/-! ### all of it together -/
/-- the def's code object and its table, as the program's top has left them -/
def TabOf (K : PySem.W.Frag) (fa : Addr) (h : Heap) : Prop :=
  ∀ (o : Obj) (fd : FuncData) (c P : Addr) (e : Value) (dd : Option Addr) (vs : Array Value) (sl : Array (Option Value)), K.lookup fa = some o ∧ o.data = .func fd ∧ fd.code = .ref c ∧ K.lookup c = some ⟨e, dd, .fields vs, sl⟩ ∧ vs[11]? = some (.ref P) →
    h.get? P = some { cls := .none, data := .fields #[] } ∧ PySem.W.CodeHd h c P
theorem tabOf_of {K : PySem.W.Frag} {fa a' c' P' : Addr} {o' : Obj} {fd' : FuncData} {h : Heap} {mg : Str → Option Value} {x : Str} (KX : K.In h) (hmg : mg x = some (.ref fa)) (g1 : mg x = some (.ref a')) (g2 : h.get? a' = some o') (g3 : o'.data = .func fd') (g4 : fd'.code = .ref c') (g5 : h.IsCode c' P' #[]) (g6 : h.TableAt c' P' #[]) : TabOf K fa h := by
  intro o fd c P e dd vs sl q
  obtain ⟨q1, q2, q3, q4, q5⟩ := q
  have e1 := KX _ _ q1
  have e2 := KX _ _ q4
  cases g1.symm.trans hmg
  cases g2.symm.trans e1
  cases g3.symm.trans q2
  cases g4.symm.trans q3
  have hd := PySem.W.CodeHd.of g5 g6
  obtain ⟨⟨oc, vc, u1, _, u3, u4⟩, hP⟩ := g6
  cases u1.symm.trans e2
  cases u3
  cases u4.symm.trans q5
  exact ⟨hP, hd⟩
theorem walkM {l : PySem.W.OpenLaw} {n k : Nat} {q : Program} {loose : List Str} {XP : (Str → Option Value) → Heap → Prop} {YP : World → Heap → Prop} {d : DefRec} {K : Params → PySem.W.Frag} (names : List Str)
    (hn : l.most = some n) (hs : n ≤ sizeLine) (hdf : d.params.defaults = []) (hr : Room k callerA) (hnames : ∀ x ∈ names, ((recsOf q).any fun e => e.name == x) = true) (hY : ∀ (w : World) (h : Heap), YP w h → (K w.params).In h)
    (F : ∀ (w : World) (mg : Str → Option Value) (fa : Addr) (h : Heap), (K w.params).In h → h.Ns mainGlobals mg → mg d.name = some (.ref fa) → (∀ x ∈ names, ∀ fb, mg x = some (.ref fb) → TabOf (K w.params) fb h) → LamX.LawAtS l w (K w.params) CX0 k n "script" mg fa h) :
    PySem.W.WalkO q loose XP YP l.row.toRowW d [] (fun f vs => PySem.call f vs) := by
  refine Att.attach_callB hn hdf ?_
  intro w s0 s1 mg mb fa o pm cd doc a vs ns G Y _ _ _ hmg hobj hints hlen hbits hg
  have KX := hY w _ Y
  have own : ∀ x ∈ names, ∀ fb, mg x = some (.ref fb) → TabOf (K w.params) fb s1.heap := fun x hx fb hfb => by
    obtain ⟨dL, hm, hd⟩ := List.any_eq_true.mp (hnames x hx)
    obtain ⟨a', o', fd', c', P', g1, g2, g3, g4, g5, g6⟩ := G.T.tab dL hm
    rw [beq_iff_eq.mp hd] at g1
    exact tabOf_of KX hfb g1 g2 g3 g4 g5 g6
  obtain ⟨fd, cs, sp, c1, c2, c3, c4, c5, c6⟩ := F w mg fa _ KX G.T.g hmg own
  exact LamX.law_callTs (CX := CX0) KX G.T.g G.T.b G.T.builtins G.T.nolimit hg c1 c2 c3 G.T.bmain hobj hints (Nat.le_trans hlen hs) hr c6 c4 (fun H h1 h2 => c5 H a ns hlen hbits h1 h2) fun _ _ _ z => z
structure At (K : PySem.W.Frag) (mg : Str → Option Value) (x : Str) (st : Stmt) : Prop where
  ex : ∃ (f : Addr) (fd : FuncData), mg x = some (.ref f) ∧ Fun K x x st f fd
theorem at_mk {K : PySem.W.Frag} {h : Heap} {mg : Str → Option Value} {x : Str} {st : Stmt} {f : Addr} {oc : Value} {od an : Option Addr} {osl : Array (Option Value)} {kV doc pm cdv ct : Value} (X : K.In h) (G : h.Ns mainGlobals mg) (a : PySem.W.nsIn K mainGlobals x = some (some (.ref f)))
    (l : K.lookup f = some ⟨oc, od, .func (PySem.W.fnOf x x (defArgs st) (defBody st) (defScope st) .none kV doc pm an cdv ct), osl⟩) (c : PySem.W.codeIn K cdv x = true) (k : PySem.W.keepIn K (.ref f) = true) : At K mg x st := ⟨f, _, PySem.W.mg_of X G a, fun_mk l c k⟩
theorem mkDef {P : Program} {w : World} {K : PySem.W.Frag} {mg : Str → Option Value} {base : Heap} {x : Str} {k : Nat} {ps : List Str} {sp : Sp} {f : Addr} {fd : FuncData} (F : FnOk P w K mg base CX0 k f fd ps sp) (m : mg x = some (.ref f)) (kp : PySem.W.keepIn K (.ref f) = true) (b : Binds K fd ps []) : Def P w K mg base x k ps sp := ⟨f, fd, F, m, kp, b⟩
theorem law_at {l : PySem.W.OpenLaw} {w : World} {K : PySem.W.Frag} {h : Heap} {mg : Str → Option Value} {fa : Addr} (G : Glb mg) (GK : GlbK mg) {tE : Tok} (cE : mg "ENDLESS" = some (.int (-1) tE)) (hfa : mg "law" = some (.ref fa)) (AL : At K mg "law" sLaw)
    (A0 : At K mg "plus" sPlus)
    (A1 : At K mg "less" sLess)
    (A2 : At K mg "scaled" sScaled)
    (A3 : At K mg "covers" sCovers)
    (A4 : At K mg "greater" sGreater)
    (A5 : At K mg "move_change" sMvCh)
    (A6 : At K mg "can_do" sCanDo)
    (A7 : At K mg "done" sDone)
    (A8 : At K mg "effect_of_two" sTwo)
    (A9 : At K mg "effect_of_many" sMany)
    (A10 : At K mg "effect" sEff)
    (A11 : At K mg "step_effect" sStEff)
    (A12 : At K mg "length" sLen)
    (A13 : At K mg "step_length" sStLen)
    (A14 : At K mg "need" sNeed)
    (A15 : At K mg "change" sChange)
    (A16 : At K mg "end_of_run" sEndR)
    (A17 : At K mg "_law_mix" sMix)
    (A18 : At K mg "_law_numbers" sNumbers)
    (A19 : At K mg "_law_draws" sDraws)
    (A20 : At K mg "_law_take" sTake)
    (A21 : At K mg "_law_named" sNamed)
    (A22 : At K mg "_law_stock" sStockL)
    (A23 : At K mg "_law_book" sBookL)
    (A24 : At K mg "_law_run" sRunL)
    (A25 : At K mg "_law_plain" sPlainL)
    (A26 : At K mg "_law_played" sPlayL)
    (A27 : At K mg "_law_covers" sCovL) : LamX.LawAtS l w K CX0 46 63 "script" mg fa h := by
  obtain ⟨f0, fd0, m0, F0⟩ := A0.ex
  have b0 := F0.binds (ps := ["first", "second"]) fun _ _ _ _ _ _ us hl => match us, hl with | [_, _], _ => rfl
  obtain ⟨f1, fd1, m1, F1⟩ := A1.ex
  have b1 := F1.binds (ps := ["first", "second"]) fun _ _ _ _ _ _ us hl => match us, hl with | [_, _], _ => rfl
  obtain ⟨f2, fd2, m2, F2⟩ := A2.ex
  have b2 := F2.binds (ps := ["entries", "times"]) fun _ _ _ _ _ _ us hl => match us, hl with | [_, _], _ => rfl
  obtain ⟨f3, fd3, m3, F3⟩ := A3.ex
  have b3 := F3.binds (ps := ["stock", "other"]) fun _ _ _ _ _ _ us hl => match us, hl with | [_, _], _ => rfl
  obtain ⟨f4, fd4, m4, F4⟩ := A4.ex
  have b4 := F4.binds (ps := ["first", "second"]) fun _ _ _ _ _ _ us hl => match us, hl with | [_, _], _ => rfl
  obtain ⟨f5, fd5, m5, F5⟩ := A5.ex
  have b5 := F5.binds (ps := ["book", "m"]) fun _ _ _ _ _ _ us hl => match us, hl with | [_, _], _ => rfl
  obtain ⟨f6, fd6, m6, F6⟩ := A6.ex
  have b6 := F6.binds (ps := ["book", "stock", "m"]) fun _ _ _ _ _ _ us hl => match us, hl with | [_, _, _], _ => rfl
  obtain ⟨f7, fd7, m7, F7⟩ := A7.ex
  have b7 := F7.binds (ps := ["book", "stock", "m"]) fun _ _ _ _ _ _ us hl => match us, hl with | [_, _, _], _ => rfl
  obtain ⟨f8, fd8, m8, F8⟩ := A8.ex
  have b8 := F8.binds (ps := ["first", "second"]) fun _ _ _ _ _ _ us hl => match us, hl with | [_, _], _ => rfl
  obtain ⟨f9, fd9, m9, F9⟩ := A9.ex
  have b9 := F9.binds (ps := ["once", "times"]) fun _ _ _ _ _ _ us hl => match us, hl with | [_, _], _ => rfl
  obtain ⟨f10, fd10, m10, F10⟩ := A10.ex
  have b10 := F10.binds (ps := ["book", "run"]) fun _ _ _ _ _ _ us hl => match us, hl with | [_, _], _ => rfl
  obtain ⟨f11, fd11, m11, F11⟩ := A11.ex
  have b11 := F11.binds (ps := ["book", "step"]) fun _ _ _ _ _ _ us hl => match us, hl with | [_, _], _ => rfl
  obtain ⟨f12, fd12, m12, F12⟩ := A12.ex
  have b12 := F12.binds (ps := ["run"]) fun _ _ _ _ _ _ us hl => match us, hl with | [_], _ => rfl
  obtain ⟨f13, fd13, m13, F13⟩ := A13.ex
  have b13 := F13.binds (ps := ["step"]) fun _ _ _ _ _ _ us hl => match us, hl with | [_], _ => rfl
  obtain ⟨f14, fd14, m14, F14⟩ := A14.ex
  have b14 := F14.binds (ps := ["book", "run"]) fun _ _ _ _ _ _ us hl => match us, hl with | [_, _], _ => rfl
  obtain ⟨f15, fd15, m15, F15⟩ := A15.ex
  have b15 := F15.binds (ps := ["book", "run"]) fun _ _ _ _ _ _ us hl => match us, hl with | [_, _], _ => rfl
  obtain ⟨f16, fd16, m16, F16⟩ := A16.ex
  have b16 := F16.binds (ps := ["book", "stock", "run"]) fun _ _ _ _ _ _ us hl => match us, hl with | [_, _, _], _ => rfl
  obtain ⟨f17, fd17, m17, F17⟩ := A17.ex
  have b17 := F17.binds (ps := ["first", "second"]) fun _ _ _ _ _ _ us hl => match us, hl with | [_, _], _ => rfl
  obtain ⟨f18, fd18, m18, F18⟩ := A18.ex
  have b18 := F18.binds (ps := ["script", "count"]) fun _ _ _ _ _ _ us hl => match us, hl with | [_, _], _ => rfl
  obtain ⟨f19, fd19, m19, F19⟩ := A19.ex
  have b19 := F19.binds (ps := ["script", "count"]) fun _ _ _ _ _ _ us hl => match us, hl with | [_, _], _ => rfl
  obtain ⟨f20, fd20, m20, F20⟩ := A20.ex
  have b20 := F20.binds (ps := ["draws", "bound"]) fun _ _ _ _ _ _ us hl => match us, hl with | [_, _], _ => rfl
  obtain ⟨f21, fd21, m21, F21⟩ := A21.ex
  have b21 := F21.binds (ps := ["draws"]) fun _ _ _ _ _ _ us hl => match us, hl with | [_], _ => rfl
  obtain ⟨f22, fd22, m22, F22⟩ := A22.ex
  have b22 := F22.binds (ps := ["draws", "n", "most"]) fun _ _ _ _ _ _ us hl => match us, hl with | [_, _, _], _ => rfl
  obtain ⟨f23, fd23, m23, F23⟩ := A23.ex
  have b23 := F23.binds (ps := ["draws", "most"]) fun _ _ _ _ _ _ us hl => match us, hl with | [_, _], _ => rfl
  obtain ⟨f24, fd24, m24, F24⟩ := A24.ex
  have b24 := F24.binds (ps := ["draws", "moves", "depth", "times"]) fun _ _ _ _ _ _ us hl => match us, hl with | [_, _, _, _], _ => rfl
  obtain ⟨f25, fd25, m25, F25⟩ := A25.ex
  have b25 := F25.binds (ps := ["run"]) fun _ _ _ _ _ _ us hl => match us, hl with | [_], _ => rfl
  obtain ⟨f26, fd26, m26, F26⟩ := A26.ex
  have b26 := F26.binds (ps := ["book", "stock", "moves"]) fun _ _ _ _ _ _ us hl => match us, hl with | [_, _, _], _ => rfl
  obtain ⟨f27, fd27, m27, F27⟩ := A27.ex
  have b27 := F27.binds (ps := ["stock", "other"]) fun _ _ _ _ _ _ us hl => match us, hl with | [_, _], _ => rfl
  obtain ⟨f', fd', m', F'⟩ := AL.ex
  cases m'.symm.trans hfa
  have bnd : ∀ (s : Shared) (u : Value), BindsTo s fd' ⟨[u], []⟩ [("script", u)] := by
    obtain ⟨_, _, _, _, _, _, _, _, _, e, _⟩ := F'.ex
    subst e
    exact fun s u => .of_eq rfl
  refine ⟨fd', [], spLaw K, ?_, ?_, ?_, bnd, ?_, ?_⟩
  · intro p hp
    cases hp
  · intro p hp
    cases hp
  · intro p hp
    cases hp
  · intro H a ns hl _ hT hS
    exact ⟨a, ns, rfl, hS, hl, fun _ => rfl⟩
  intro base _ _ hb
  have DPl := mkDef (ok_Plus (P := l.prog) (w := w) (base := base) F0 G) m0 F0.kp b0
  have DLe := mkDef (ok_Less (P := l.prog) (w := w) (base := base) F1 G) m1 F1.kp b1
  have DGr := mkDef (ok_Greater (P := l.prog) (w := w) (base := base) F4 G) m4 F4.kp b4
  have DSc := mkDef (ok_Scaled (P := l.prog) (w := w) (base := base) F2 G) m2 F2.kp b2
  have DCo := mkDef (ok_Covers (P := l.prog) (w := w) (base := base) F3 G cE) m3 F3.kp b3
  have DMC := mkDef (ok_MvCh (P := l.prog) (w := w) (base := base) F5 DLe) m5 F5.kp b5
  have DCan := mkDef (ok_CanDo (P := l.prog) (w := w) (base := base) F6 DCo) m6 F6.kp b6
  have DDo := mkDef (ok_Done (P := l.prog) (w := w) (base := base) F7 DPl DMC) m7 F7.kp b7
  have DTw := mkDef (ok_Two (P := l.prog) (w := w) (base := base) F8 DPl DLe DGr) m8 F8.kp b8
  have DMa := mkDef (ok_Many (P := l.prog) (w := w) (base := base) F9 DPl DLe DGr DSc) m9 F9.kp b9
  have DEf := ok_effs (P := l.prog) (w := w) (base := base) F10 m10 b10 F11 m11 b11 G DMC DMa DTw 21
  have DLn := ok_lens (P := l.prog) (w := w) (base := base) F12 m12 b12 F13 m13 b13 G GK 21
  have DNe := mkDef (ok_Need (P := l.prog) (w := w) (base := base) F14 DEf) m14 F14.kp b14
  have DCh := mkDef (ok_Change (P := l.prog) (w := w) (base := base) F15 DEf) m15 F15.kp b15
  have DEn := mkDef (ok_EndR (P := l.prog) (w := w) (base := base) F16 DEf DCo DPl) m16 F16.kp b16
  have DMi := mkDef (ok_mix (P := l.prog) (w := w) (base := base) F17 G) m17 F17.kp b17
  have DNu := mkDef (ok_numbers (P := l.prog) (w := w) (base := base) F18 G DMi) m18 F18.kp b18
  have DD := mkDef (ok_draws (P := l.prog) (w := w) (base := base) F19 G DNu) m19 F19.kp b19
  have DT := mkDef (ok_take (P := l.prog) (w := w) (base := base) F20 G) m20 F20.kp b20
  have DNa := mkDef (ok_named (P := l.prog) (w := w) (base := base) F21 G DT) m21 F21.kp b21
  have DS := mkDef (ok_stockL (P := l.prog) (w := w) (base := base) F22 G DT) m22 F22.kp b22
  have DB := mkDef (ok_bookL (P := l.prog) (w := w) (base := base) F23 G DT DNa DS) m23 F23.kp b23
  have DR := ok_runsL (P := l.prog) (w := w) (base := base) F24 m24 b24 G DT 4
  have DPn := ok_plains (P := l.prog) (w := w) (base := base) F25 m25 b25 4
  have DPy := mkDef (ok_PlayL (P := l.prog) (w := w) (base := base) F26 G GK) m26 F26.kp b26
  have DCv := mkDef (ok_CovL (P := l.prog) (w := w) (base := base) F27 G) m27 F27.kp b27
  exact ok_law F' G GK DD DB DR DPn DS DT DPy DCv DCan DDo DNe DCh DLn DEn DCo
end Mint


namespace Mint
open PySem PySem.Spec PyProof.Rows L2 GxR Gx RZ
theorem none_mk {K : PySem.W.Frag} {h : Heap} {mg : Str → Option Value} {x : Str} (X : K.In h) (G : h.Ns mainGlobals mg) (z : PySem.W.nsIn K mainGlobals x = some none) : mg x = none := PySem.W.mg_none_of X G z
theorem int_mk {K : PySem.W.Frag} {h : Heap} {mg : Str → Option Value} {x : Str} {i : Int} {u : Tok} (X : K.In h) (G : h.Ns mainGlobals mg) (a : PySem.W.nsIn K mainGlobals x = some (some (.int i u))) : ∃ t, mg x = some (.int i t) := ⟨_, PySem.W.mg_of X G a⟩
end Mint
open PySem PySem.W PyProof.Rows
set_option maxRecDepth 100000 in
set_option maxHeartbeats 0 in
theorem PySem.Challenge.cw_mintlaw_k10_need_and_change_holds : PySem.Challenge.rw_mintlaw_k10_need_and_change.Holds := by
  w_on; o_law; k_head; (case hw => w_witness2)
  k_fill
  refine Mint.walkM (k := 46) (n := 63) (l := PySem.Challenge.rw_mintlaw_k10_need_and_change) [] rfl (by decide) rfl ⟨rfl, by decide, by decide⟩ ?hnm (fun w h Y => PySem.W.kIn_of Y) ?hfx
  case hnm =>
    intro x hx
    cases hx
  case hfx =>
    intro w mg fa h KX G hmg own
    have B : Mint.Glb mg := ⟨Mint.none_mk KX G (by k_is), Mint.none_mk KX G (by k_is), Mint.none_mk KX G (by k_is), Mint.none_mk KX G (by k_is), Mint.none_mk KX G (by k_is), Mint.none_mk KX G (by k_is), Mint.none_mk KX G (by k_is), Mint.none_mk KX G (by k_is), Mint.none_mk KX G (by k_is), Mint.none_mk KX G (by k_is), Mint.none_mk KX G (by k_is), Mint.none_mk KX G (by k_is), Mint.none_mk KX G (by k_is), Mint.none_mk KX G (by k_is), Mint.none_mk KX G (by k_is)⟩
    have BK : Mint.GlbK mg := ⟨Mint.none_mk KX G (by k_is), Mint.none_mk KX G (by k_is)⟩
    obtain ⟨tE, cE⟩ : ∃ t, mg "ENDLESS" = some (.int (-1) t) := by
      refine' Mint.int_mk KX G ?za
      (case za => k_is)
    have AL : Mint.At (cw_mintlaw_k10_need_and_change_holds.heap_39 w.params) mg "law" Mint.sLaw := by
      (refine' Mint.at_mk KX G ?za ?zl ?zc ?zk; (case za => k_is); (case zl => k_is); (case zc => k_is); (case zk => k_is))
    have A0 : Mint.At (cw_mintlaw_k10_need_and_change_holds.heap_39 w.params) mg "plus" Mint.sPlus := by
      (refine' Mint.at_mk KX G ?za ?zl ?zc ?zk; (case za => k_is); (case zl => k_is); (case zc => k_is); (case zk => k_is))
    have A1 : Mint.At (cw_mintlaw_k10_need_and_change_holds.heap_39 w.params) mg "less" Mint.sLess := by
      (refine' Mint.at_mk KX G ?za ?zl ?zc ?zk; (case za => k_is); (case zl => k_is); (case zc => k_is); (case zk => k_is))
    have A2 : Mint.At (cw_mintlaw_k10_need_and_change_holds.heap_39 w.params) mg "scaled" Mint.sScaled := by
      (refine' Mint.at_mk KX G ?za ?zl ?zc ?zk; (case za => k_is); (case zl => k_is); (case zc => k_is); (case zk => k_is))
    have A3 : Mint.At (cw_mintlaw_k10_need_and_change_holds.heap_39 w.params) mg "covers" Mint.sCovers := by
      (refine' Mint.at_mk KX G ?za ?zl ?zc ?zk; (case za => k_is); (case zl => k_is); (case zc => k_is); (case zk => k_is))
    have A4 : Mint.At (cw_mintlaw_k10_need_and_change_holds.heap_39 w.params) mg "greater" Mint.sGreater := by
      (refine' Mint.at_mk KX G ?za ?zl ?zc ?zk; (case za => k_is); (case zl => k_is); (case zc => k_is); (case zk => k_is))
    have A5 : Mint.At (cw_mintlaw_k10_need_and_change_holds.heap_39 w.params) mg "move_change" Mint.sMvCh := by
      (refine' Mint.at_mk KX G ?za ?zl ?zc ?zk; (case za => k_is); (case zl => k_is); (case zc => k_is); (case zk => k_is))
    have A6 : Mint.At (cw_mintlaw_k10_need_and_change_holds.heap_39 w.params) mg "can_do" Mint.sCanDo := by
      (refine' Mint.at_mk KX G ?za ?zl ?zc ?zk; (case za => k_is); (case zl => k_is); (case zc => k_is); (case zk => k_is))
    have A7 : Mint.At (cw_mintlaw_k10_need_and_change_holds.heap_39 w.params) mg "done" Mint.sDone := by
      (refine' Mint.at_mk KX G ?za ?zl ?zc ?zk; (case za => k_is); (case zl => k_is); (case zc => k_is); (case zk => k_is))
    have A8 : Mint.At (cw_mintlaw_k10_need_and_change_holds.heap_39 w.params) mg "effect_of_two" Mint.sTwo := by
      (refine' Mint.at_mk KX G ?za ?zl ?zc ?zk; (case za => k_is); (case zl => k_is); (case zc => k_is); (case zk => k_is))
    have A9 : Mint.At (cw_mintlaw_k10_need_and_change_holds.heap_39 w.params) mg "effect_of_many" Mint.sMany := by
      (refine' Mint.at_mk KX G ?za ?zl ?zc ?zk; (case za => k_is); (case zl => k_is); (case zc => k_is); (case zk => k_is))
    have A10 : Mint.At (cw_mintlaw_k10_need_and_change_holds.heap_39 w.params) mg "effect" Mint.sEff := by
      (refine' Mint.at_mk KX G ?za ?zl ?zc ?zk; (case za => k_is); (case zl => k_is); (case zc => k_is); (case zk => k_is))
    have A11 : Mint.At (cw_mintlaw_k10_need_and_change_holds.heap_39 w.params) mg "step_effect" Mint.sStEff := by
      (refine' Mint.at_mk KX G ?za ?zl ?zc ?zk; (case za => k_is); (case zl => k_is); (case zc => k_is); (case zk => k_is))
    have A12 : Mint.At (cw_mintlaw_k10_need_and_change_holds.heap_39 w.params) mg "length" Mint.sLen := by
      (refine' Mint.at_mk KX G ?za ?zl ?zc ?zk; (case za => k_is); (case zl => k_is); (case zc => k_is); (case zk => k_is))
    have A13 : Mint.At (cw_mintlaw_k10_need_and_change_holds.heap_39 w.params) mg "step_length" Mint.sStLen := by
      (refine' Mint.at_mk KX G ?za ?zl ?zc ?zk; (case za => k_is); (case zl => k_is); (case zc => k_is); (case zk => k_is))
    have A14 : Mint.At (cw_mintlaw_k10_need_and_change_holds.heap_39 w.params) mg "need" Mint.sNeed := by
      (refine' Mint.at_mk KX G ?za ?zl ?zc ?zk; (case za => k_is); (case zl => k_is); (case zc => k_is); (case zk => k_is))
    have A15 : Mint.At (cw_mintlaw_k10_need_and_change_holds.heap_39 w.params) mg "change" Mint.sChange := by
      (refine' Mint.at_mk KX G ?za ?zl ?zc ?zk; (case za => k_is); (case zl => k_is); (case zc => k_is); (case zk => k_is))
    have A16 : Mint.At (cw_mintlaw_k10_need_and_change_holds.heap_39 w.params) mg "end_of_run" Mint.sEndR := by
      (refine' Mint.at_mk KX G ?za ?zl ?zc ?zk; (case za => k_is); (case zl => k_is); (case zc => k_is); (case zk => k_is))
    have A17 : Mint.At (cw_mintlaw_k10_need_and_change_holds.heap_39 w.params) mg "_law_mix" Mint.sMix := by
      (refine' Mint.at_mk KX G ?za ?zl ?zc ?zk; (case za => k_is); (case zl => k_is); (case zc => k_is); (case zk => k_is))
    have A18 : Mint.At (cw_mintlaw_k10_need_and_change_holds.heap_39 w.params) mg "_law_numbers" Mint.sNumbers := by
      (refine' Mint.at_mk KX G ?za ?zl ?zc ?zk; (case za => k_is); (case zl => k_is); (case zc => k_is); (case zk => k_is))
    have A19 : Mint.At (cw_mintlaw_k10_need_and_change_holds.heap_39 w.params) mg "_law_draws" Mint.sDraws := by
      (refine' Mint.at_mk KX G ?za ?zl ?zc ?zk; (case za => k_is); (case zl => k_is); (case zc => k_is); (case zk => k_is))
    have A20 : Mint.At (cw_mintlaw_k10_need_and_change_holds.heap_39 w.params) mg "_law_take" Mint.sTake := by
      (refine' Mint.at_mk KX G ?za ?zl ?zc ?zk; (case za => k_is); (case zl => k_is); (case zc => k_is); (case zk => k_is))
    have A21 : Mint.At (cw_mintlaw_k10_need_and_change_holds.heap_39 w.params) mg "_law_named" Mint.sNamed := by
      (refine' Mint.at_mk KX G ?za ?zl ?zc ?zk; (case za => k_is); (case zl => k_is); (case zc => k_is); (case zk => k_is))
    have A22 : Mint.At (cw_mintlaw_k10_need_and_change_holds.heap_39 w.params) mg "_law_stock" Mint.sStockL := by
      (refine' Mint.at_mk KX G ?za ?zl ?zc ?zk; (case za => k_is); (case zl => k_is); (case zc => k_is); (case zk => k_is))
    have A23 : Mint.At (cw_mintlaw_k10_need_and_change_holds.heap_39 w.params) mg "_law_book" Mint.sBookL := by
      (refine' Mint.at_mk KX G ?za ?zl ?zc ?zk; (case za => k_is); (case zl => k_is); (case zc => k_is); (case zk => k_is))
    have A24 : Mint.At (cw_mintlaw_k10_need_and_change_holds.heap_39 w.params) mg "_law_run" Mint.sRunL := by
      (refine' Mint.at_mk KX G ?za ?zl ?zc ?zk; (case za => k_is); (case zl => k_is); (case zc => k_is); (case zk => k_is))
    have A25 : Mint.At (cw_mintlaw_k10_need_and_change_holds.heap_39 w.params) mg "_law_plain" Mint.sPlainL := by
      (refine' Mint.at_mk KX G ?za ?zl ?zc ?zk; (case za => k_is); (case zl => k_is); (case zc => k_is); (case zk => k_is))
    have A26 : Mint.At (cw_mintlaw_k10_need_and_change_holds.heap_39 w.params) mg "_law_played" Mint.sPlayL := by
      (refine' Mint.at_mk KX G ?za ?zl ?zc ?zk; (case za => k_is); (case zl => k_is); (case zc => k_is); (case zk => k_is))
    have A27 : Mint.At (cw_mintlaw_k10_need_and_change_holds.heap_39 w.params) mg "_law_covers" Mint.sCovL := by
      (refine' Mint.at_mk KX G ?za ?zl ?zc ?zk; (case za => k_is); (case zl => k_is); (case zc => k_is); (case zk => k_is))
    exact Mint.law_at B BK cE hmg AL A0 A1 A2 A3 A4 A5 A6 A7 A8 A9 A10 A11 A12 A13 A14 A15 A16 A17 A18 A19 A20 A21 A22 A23 A24 A25 A26 A27

