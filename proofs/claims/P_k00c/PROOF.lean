import PyProof.Rows.All
import Wide.All
import OpenK.AllK
import Wide.FinOn
import HandS.ForMost
import HandS.AnyAll
import HandS.GenList
import HandS.IsInst
import HandS.Deep
import HandS.Strs
import HandS.Zip
import KE.GoesEnum
import PySem.Challenge.RW_mintlaw_k00_forms
import HandS.WideMore
import HandS.TupMul
import HandS.TupAny
import HandS.TupLe
import HandS.EndOwn
set_option Elab.async false
set_option linter.all false
set_option maxRecDepth 100000
set_option maxHeartbeats 4000000
namespace Gx
open PySem PySem.Spec PyProof.Rows L2 GenW GxR

/-- the consumer has it awake again: nothing of the heap has changed -/
structure Woke (s s2 : Shared) : Prop where
  os : s2.os = s.os
  heap : s2.heap = s.heap
  bare : AllBare s2.gens
theorem Inv.woke {X : Cx} {pins : List (Addr × Obj)} {σ : L2.St} {H : Hp} {s s2 : Shared} (I : Inv X pins σ H s) (w : Woke s s2) : Inv X pins σ H s2 :=
  I.call' (ch := []) w.os (Un.kept fun b u e => by rw [w.heap]; exact e) (by rw [w.heap]; exact I.hok) w.bare fun b z => by simp at z

abbrev GxR' (Xg : Cx) (fp : List Addr) (Qt : Hp → Prop) : GenEnd := fun n s₀ r s1 =>
  ((r = .ok (.ret .none) ∨ r = .ok .next) ∧ (∃ σ' H', Inv Xg [] σ' H' s1 ∧ (∀ b ∈ fp, H' b = none) ∧ Qt H')) ∨ ∃ e, r = .error e ∧ (False : Prop)
abbrev GxY (Xg : Cx) (fp : List Addr) (Qf : Hp → Prop) : Protocol := fun n s₀ v s1 kap =>
  ∃ c σ' H', v = .bool c ∧ Inv Xg [] σ' H' s1 ∧ (∀ b ∈ fp, H' b = none) ∧ if c = true then ∀ s2, Woke s1 s2 → kap (.send .none) s2 else Qf H'

theorem gx_seg {Xg : Cx} {A : Around} {tg iter elt : Expr} {scope : Scope} {pos : Pos} {it : Addr} {fp : List Addr} {tn : Nat → Heap → Prop} {J : It} {g : TG} {te : TE}
    (T : Turn Xg.prog Xg.w Xg.K tg J fp it tn) (hg : PG Xg tg g) (he : PE Xg elt te) (hxe : ∀ e s, Xg.xe e s → False) (hcalm : Xg.calm = true) (hco : Xg.env.scope.isCoroutine = false)
    (hA : A.over (.compLoop (.GeneratorExp elt [⟨tg, iter, [], 0⟩] scope pos) 0 (.ref it) .none Xg.env) [] = Xg.A)
    (stat : ∀ H', (∀ b ∈ fp, H' b = none) → ∀ b ∈ fp, FpOk Xg [] H' b)
    (W : Nat → Nat → L2.St → Hp → Prop) (Qt Qf : Hp → Prop)
    (turn : ∀ i m σ H, W i m σ H → (J.stop i H ∧ Qt H) ∨ (J.go i H ∧ 0 < m ∧ ∀ x H', J.yld i H x H' → g x σ H' fun σ2 H2 => te σ2 H2 fun v H3 => ∃ c, v = .bl c ∧ if c = true then ∃ m', m' < m ∧ W (i + 1) m' σ2 H3 else Qf H3)) :
    ∀ (n i m : Nat) (σ : L2.St) (H : Hp) (s s₀ : Shared), m ≤ n → Inv Xg [] σ H s → tn i s.heap → (∀ b ∈ fp, H b = none) → W i m σ H →
      Seg (model Xg.prog Xg.w) A (GxR' Xg fp Qt) (GxY Xg fp Qf) n s₀ (.compLoop (.GeneratorExp elt [⟨tg, iter, [], 0⟩] scope pos) 0 (.ref it) .none Xg.env)
        ((model Xg.prog Xg.w).den (.compLoop (.GeneratorExp elt [⟨tg, iter, [], 0⟩] scope pos) 0 (.ref it) .none Xg.env)) [] s := by
  intro n
  induction n with
  | zero =>
    intro i m σ H s s₀ hm I st fr w
    show Seg _ A _ _ _ s₀ _ ((compTurn (.GeneratorExp elt [⟨tg, iter, [], 0⟩] scope pos) 0 (.ref it) .none Xg.env).onRaise (leaving Xg.env)) [] s
    rw [compTurn_gen, Sem.onRaise_eq_wrap]
    refine seg_bind_wrap (wpAny_standAt ?_)
    rcases turn i m σ H w with ⟨stop, qt⟩ | ⟨_, hm0, _⟩
    · refine seg_bind_wrap ?_
      rw [hA]
      refine thn (T.done Xg rfl rfl rfl hcalm i [] s σ H _ I (stat H fr) st stop) fun r s4 ⟨hr, I4⟩ => ?_
      subst hr
      exact seg_end (.ok .next) (.inl ⟨.inr rfl, σ, H, I4, fr, qt⟩)
    · omega
  | succ n ih =>
    intro i m σ H s s₀ hm I st fr w
    show Seg _ A _ _ _ s₀ _ ((compTurn (.GeneratorExp elt [⟨tg, iter, [], 0⟩] scope pos) 0 (.ref it) .none Xg.env).onRaise (leaving Xg.env)) [] s
    rw [compTurn_gen, Sem.onRaise_eq_wrap]
    refine seg_bind_wrap (wpAny_standAt ?_)
    rcases turn i m σ H w with ⟨stop, qt⟩ | ⟨go, hm0, step⟩
    · refine seg_bind_wrap ?_
      rw [hA]
      refine thn (T.done Xg rfl rfl rfl hcalm i [] s σ H _ I (stat H fr) st stop) fun r s4 ⟨hr, I4⟩ => ?_
      subst hr
      exact seg_end (.ok .next) (.inl ⟨.inr rfl, σ, H, I4, fr, qt⟩)
    · refine seg_bind_wrap ?_
      rw [hA]
      refine thn (T.item Xg rfl rfl rfl hcalm i [] s σ H _ I (stat H fr) st go) fun r s4 ⟨u, hr, h4⟩ => ?_
      subst hr
      refine seg_bind_wrap ?_
      rw [hA]
      refine wpAny_mono h4 (fun _ s5 ⟨x, H5, I5, r5, y5, st5, fr5⟩ => ?_) fun e s5 h => h
      have I5' := I5.pinned (stat H5 fr5) (T.obj _ _ st5)
      refine seg_bind_wrap ?_
      rw [hA]
      refine wpAny_mono (hg.run _ s5 σ H5 x u _ I5' r5 (step x H5 y5)) (fun _ s6 ⟨σ6, H6, I6, q6⟩ => ?_) fun e s5 h => (hxe e s5 h).elim
      simp only [List.forIn_nil]
      refine seg_bind_wrap (wpAny_pure ?_)
      simp only [if_true]
      have hy : ∀ v, yieldOut Xg.env v = yieldValue v := fun v => by simp only [yieldOut, hco, Bool.false_eq_true, if_false]
      simp only [hy]
      rw [Sem.bind_eq_wrap', Sem.bind_eq_wrap', Sem.wrap_wrap, Sem.wrap_wrap]
      refine seg_wrap ?_
      rw [hA]
      refine wpAny_mono (he.run _ s6 σ6 H6 _ I6 q6) (fun y s7 ⟨v, H7, I7, r7, c, ec, q7⟩ => ?_) fun e s5 h => (hxe e s5 h).elim
      subst ec
      obtain rfl : y = Value.bool c := r7
      have fr7 : ∀ b ∈ fp, H7 b = none := fun b hb => by
        obtain ⟨o, e, d⟩ := T.obj _ _ st5 b hb
        exact (I7.pin (b, o) (List.mem_append_right _ (List.mem_append_right _ (mem_pinsAt hb e)))).2.1
      have st7 : tn (i + 1) s7.heap := T.keep _ _ _ st5 fun b hb o e => (I7.pin (b, o) (List.mem_append_right _ (List.mem_append_right _ (mem_pinsAt hb e)))).1
      have I7' := I7.unpinned
      refine seg_at (seg_yield rfl rfl rfl ⟨c, σ6, H7, rfl, I7', fr7, ?_⟩)
      cases c with
      | false =>
        rw [if_neg Bool.false_ne_true] at q7 ⊢
        exact q7
      | true =>
        rw [if_pos rfl] at q7 ⊢
        obtain ⟨m', hm', w7⟩ := q7
        intro s2 hw
        exact seg_again rfl (ih (i + 1) m' σ6 H7 s2 s2 (by omega) (Inv.woke I7' hw) (by rw [hw.heap]; exact st7) fr7 w7)
end Gx


namespace Gx
open PySem PySem.Spec PyProof.Rows L2 GenW GxR

theorem gx_start {Xg : Cx} {A : Around} {tg iter elt : Expr} {scope : Scope} {pos : Pos} {it : Addr} {fp : List Addr} {tn : Nat → Heap → Prop} {J : It} {Qt Qf : Hp → Prop} {n : Nat} {s s₀ : Shared}
    (T : Turn Xg.prog Xg.w Xg.K tg J fp it tn) (st : tn 0 s.heap)
    (loop : Seg (model Xg.prog Xg.w) A (GxR' Xg fp Qt) (GxY Xg fp Qf) n s₀ (.compLoop (.GeneratorExp elt [⟨tg, iter, [], 0⟩] scope pos) 0 (.ref it) .none Xg.env)
        ((model Xg.prog Xg.w).den (.compLoop (.GeneratorExp elt [⟨tg, iter, [], 0⟩] scope pos) 0 (.ref it) .none Xg.env)) [] s) :
    Seg (model Xg.prog Xg.w) A (GxR' Xg fp Qt) (GxY Xg fp Qf) n s₀ (.compStart (.GeneratorExp elt [⟨tg, iter, [], 0⟩] scope pos) 0 (.ref it) .none Xg.env)
        ((model Xg.prog Xg.w).den (.compStart (.GeneratorExp elt [⟨tg, iter, [], 0⟩] scope pos) 0 (.ref it) .none Xg.env)) [] s := by
  show Seg _ A _ _ _ s₀ _ ((compStart (.GeneratorExp elt [⟨tg, iter, [], 0⟩] scope pos) 0 (.ref it) .none Xg.env).onRaise (leaving Xg.env)) [] s
  unfold compStart
  rw [Sem.onRaise_eq_wrap]
  show Seg _ A _ _ _ s₀ _ ((ask >>= _).wrap _ _ _ _) [] s
  refine seg_bind_wrap (wpAny_askSetting ?_)
  split
  · exact seg_again rfl loop
  · first
      | exact seg_bind_wrap (wpAny_rule (seg_bind_wrap (wpAny_standAt (seg_bind_wrap (T.self _ 0 s _ _ st (seg_again rfl loop))))))
      | (refine seg_bind_wrap (wpAny_rule ?_); show Seg _ A _ _ _ s₀ _ ((standAt iter.pos >>= _).wrap _ _ _ _) [] s; exact seg_bind_wrap (wpAny_standAt (seg_bind_wrap (T.self _ 0 s _ _ st (seg_again rfl loop)))))

theorem gx_all {Xg : Cx} {A : Around} {fp : List Addr} {Qt Qf : Hp → Prop} {R : Result → Shared → Prop} {a : Addr} {g : Nat}
    (hh : A.handled = none) (hd : A.depth < recursionLimit) (gen : ∀ σ H s, Inv Xg [] σ H s → s.heap.IsGen a g)
    (ht : ∀ σ' H' s1 h', Inv Xg [] σ' H' s1 → (∀ b ∈ fp, H' b = none) → Qt H' → (∀ b o, s1.heap.get? b = some o → h'.get? b = some o) → R (.ok (.ret (.bool true))) { s1.setGen g .finished with heap := h' })
    (hf : ∀ σ' H' s1 gs', gs'.bare = true → Inv Xg [] σ' H' s1 → (∀ b ∈ fp, H' b = none) → Qf H' → R (.ok (.ret (.bool false))) (s1.setGen g gs')) :
    ∀ (n : Nat) (s : Shared), s.heap.IsGen a g → s.heap.NoLimit →
      (∃ gs, s.gens[g]? = some gs ∧ gs.Goes (model Xg.prog Xg.w) A.in1.in1 (GxR' Xg fp Qt) (GxY Xg fp Qf) n (.send .none) (s.setGen g .running)) →
      codeAny (model Xg.prog Xg.w) A (.builtin "all.loop" ⟨[.ref a], []⟩) R s := by
  intro n
  induction n with
  | zero =>
    intro s hg hl ⟨gs, hgs, hgo⟩
    refine codeAny_builtin F.entry_all_loop ?_
    rw [Around.under_plainId F.plain_all_loop _]
    show wpAny _ A.in1 (pyNext (.ref a) >>= _) _ _ s
    refine wpAny_bind (next_genG (A := A.in1) (Er := fun _ _ => False) hh hl hd hg hgs hgo (fun v s₁ gs' hbare hv => ?_) (fun s₁ hp h' hk => ?_) fun e s₁ he => he.elim)
    · obtain ⟨c, σ', H', rfl, I, fr, q⟩ := hv
      refine wpAny_bind (wpAny_holding (wpAny_truthy_bool ?_))
      refine wpAny_bind (wpAny_letGo ?_)
      cases c with
      | true =>
        rw [if_pos rfl] at q
        exact (q s₁ ⟨rfl, rfl, I.bare⟩).elim
      | false =>
        rw [if_neg Bool.false_ne_true] at q
        simp only [Bool.false_eq_true, if_false]
        refine wpAny_bind (wpAny_rule (wpAny_pure ?_))
        exact hf σ' H' s₁ gs' hbare I fr q
    · obtain ⟨σ', H', I, fr, q⟩ := hp
      refine wpAny_bind (wpAny_rule (wpAny_pure ?_))
      exact ht σ' H' s₁ h' I fr q hk
  | succ n ih =>
    intro s hg hl ⟨gs, hgs, hgo⟩
    have hgl : g < s.gens.size := (Array.getElem?_eq_some_iff.mp hgs).1
    refine codeAny_builtin F.entry_all_loop ?_
    rw [Around.under_plainId F.plain_all_loop _]
    show wpAny _ A.in1 (pyNext (.ref a) >>= _) _ _ s
    refine wpAny_bind (wpAny_gsz (n := g + 1) hgl (next_genG (A := A.in1) (Er := fun _ _ => False) hh hl hd hg hgs hgo (fun v s₁ gs' hbare hv => ?_) (fun s₁ hp h' hk => ?_) fun e s₁ he => he.elim))
    · intro hsz
      obtain ⟨c, σ', H', rfl, I, fr, q⟩ := hv
      refine wpAny_bind (wpAny_holding (wpAny_truthy_bool ?_))
      refine wpAny_bind (wpAny_letGo ?_)
      cases c with
      | true =>
        rw [if_pos rfl] at q
        simp only [if_true]
        have hsz1 : g < s₁.gens.size := by
          have q : (s₁.setGen g gs').gens.size = s₁.gens.size := setGen_size _ _ _
          have hsz' : g + 1 ≤ (s₁.setGen g gs').gens.size := hsz
          omega
        refine wpAny_pure ⟨plainId_quiet F.plain_all_loop _, ih (s₁.setGen g gs') (gen σ' H' s₁ I) I.nolimit ⟨gs', setGen_at hsz1, ?_⟩⟩
        exact q _ ⟨rfl, rfl, allBare_setGen (s := s₁.setGen g gs') (allBare_setGen I.bare hbare) rfl⟩
      | false =>
        rw [if_neg Bool.false_ne_true] at q
        simp only [Bool.false_eq_true, if_false]
        refine wpAny_bind (wpAny_rule (wpAny_pure ?_))
        exact hf σ' H' s₁ gs' hbare I fr q
    · intro hsz
      obtain ⟨σ', H', I, fr, q⟩ := hp
      refine wpAny_bind (wpAny_rule (wpAny_pure ?_))
      exact ht σ' H' s₁ h' I fr q hk
end Gx


namespace Gx
open PySem PySem.Spec PyProof.Rows L2 GenW GxR

theorem Inv.after {X : Cx} {pins : List (Addr × Obj)} {σ : L2.St} {H : Hp} {s s2 : Shared} (I : Inv X pins σ H s) (os : s2.os = s.os) (k : ∀ b o, s.heap.get? b = some o → s2.heap.get? b = some o) (hb : AllBare s2.gens) : Inv X pins σ H s2 :=
  I.call' (ch := []) os (Un.kept k) (I.hok.kept k) hb fun b z => by simp at z

/-- the slots of a generator expression's frame: js tells for each whether it is captured, and from which slot of the def -/
def capt (js : List (Option Nat)) (σ : L2.St) : L2.St := js.map fun o => match o with
  | some j => (σ[j]?).getD none
  | none => none

def capOk (XN N : List Str) (js : List (Option Nat)) (names : List (Str × NameKind)) : Bool :=
  (N.zip js).all fun p => match p.2 with
    | some j => (XN[j]? == some p.1) && (names.lookup p.1 == some .free)
    | none => true
def freeOk (sc : List (Str × NameKind)) (names : List (Str × NameKind)) : Bool :=
  names.all fun y => match y.2 with
    | .cell => false
    | .free => sc.lookup y.1 == some .cell || sc.lookup y.1 == some .free
    | _ => true
structure GxS (sc : Scope) (XN : List Str) (scope : Scope) (N : List Str) (js : List (Option Nat)) : Prop where
  kind : scope.kind = .function
  co : scope.isCoroutine = false
  dot : scope.names.lookup (".0" : Str) = some NameKind.local
  free : freeOk sc.names scope.names = true
  len : js.length = N.length
  cap : capOk XN N js scope.names = true
theorem GxS.nocell {sc : Scope} {XN : List Str} {scope : Scope} {N : List Str} {js : List (Option Nat)} (S : GxS sc XN scope N js) : ∀ y ∈ scope.names, y.2 ≠ .cell := fun y hy z => by
  have q := List.all_eq_true.mp S.free y hy
  rw [z] at q
  cases q
theorem GxS.frees {sc : Scope} {XN : List Str} {scope : Scope} {N : List Str} {js : List (Option Nat)} (S : GxS sc XN scope N js) : ∀ y ∈ scope.names, y.2 = .free → sc.names.lookup y.1 = some .cell ∨ sc.names.lookup y.1 = some .free := fun y hy z => by
  have q := List.all_eq_true.mp S.free y hy
  rw [z] at q
  simpa using q
theorem GxS.caps {sc : Scope} {XN : List Str} {scope : Scope} {N : List Str} {js : List (Option Nat)} (S : GxS sc XN scope N js) {i j : Nat} {x : Str} (h : js[i]? = some (some j)) (hx : N[i]? = some x) : XN[j]? = some x ∧ scope.names.lookup x = some .free := by
  have hm : (x, some j) ∈ N.zip js := by
    rw [List.mem_iff_getElem?]
    exact ⟨i, by rw [List.getElem?_zip_eq_some]; exact ⟨hx, h⟩⟩
  have q := List.all_eq_true.mp S.cap _ hm
  simpa using q

abbrev gxEnv (X : Cx) (scope : Scope) (C : Addr) (code : Value) : Env := genEnv scope (cloFrom X.env.cells scope.names []) C code builtinsNs X.env
def gxCx (X : Cx) (scope : Scope) (N : List Str) (C : Addr) (code : Value) (s : Shared) (H : Hp) (fp : List Addr) (pn : List (Addr × Obj)) : Cx :=
  { X with A := X.A.in1.in1.deeper (gxEnv X scope C code), N := N, s_0 := s, H_0 := H, env := gxEnv X scope C code, outer := X.stack, stack := gxEnv X scope C code :: X.stack, ex := fp, fn := fun _ => false, calm := true, pn := pn, xe := fun _ _ => False }
theorem gxRoom {X : Cx} {k : Nat} (hr : Room (k + 1) X.A) (env : Env) : Room k (X.A.in1.in1.deeper env) :=
  ⟨hr.hd, by have := hr.dp; show X.A.depth + 1 + 3 * k + 5 < _; omega, by have := hr.un; show X.A.units + 1 + 1 + 3 + 16 * k + 200 < _; omega⟩

theorem over_comp {A : Around} {elt tg iter : Expr} {scope : Scope} {pos : Pos} {it acc : Value} {env : Env} :
    A.over (.compLoop (.GeneratorExp elt [⟨tg, iter, [], 0⟩] scope pos) 0 it acc env) [] = A.deeper env := by
  first
    | rfl
    | (obtain ⟨hd, d, fr, gs, u⟩ := A; simp [Around.over, Around.deeper, marksOver, frameCount, unitsOf, envsOf, guardsOf, pushEnvs, pushGuards, Code.envs, Code.env?, Code.isFrame, Code.guards, Code.isGuard, Code.weight, Code.frames, Code.isCreation, Code.isCaller, Code.cUnits])

/-- a captured name's cell is the def's -/
theorem clo_cell {X : Cx} {scope : Scope} {N : List Str} {js : List (Option Nat)} {pins : List (Addr × Obj)} {σ : L2.St} {H : Hp} {s : Shared} (S : GxS X.env.scope X.N scope N js) (I : Inv X pins σ H s) {x : Str} {c : Addr} (h : (cloFrom X.env.cells scope.names []).lookup x = some c) :
    X.env.cells.lookup x = some c := by
  rcases cloFrom_mem (PySem.mem_of_lookup h) with z | ⟨h1, h2⟩
  · cases z
  · obtain ⟨c', hc⟩ := I.ok.has x (S.frees _ h1 rfl)
    rw [hc] at h2
    rw [hc, h2]
    rfl
theorem clo_has {X : Cx} {scope : Scope} {N : List Str} {js : List (Option Nat)} {pins : List (Addr × Obj)} {σ : L2.St} {H : Hp} {s : Shared} (S : GxS X.env.scope X.N scope N js) (I : Inv X pins σ H s) {x : Str} (h : (x, NameKind.free) ∈ scope.names) :
    ∃ c, (cloFrom X.env.cells scope.names []).lookup x = some c := mem_lookup (cloFrom_has h)

theorem inv_gx {X : Cx} {scope : Scope} {N : List Str} {js : List (Option Nat)} {pins : List (Addr × Obj)} {σ : L2.St} {H H3 : Hp} {s s5 : Shared} {C : Addr} {code : Value} {fp : List Addr} {a : Addr} {go : Obj} {itv : Value}
    (hd : X.A.handled = none) (S : GxS X.env.scope X.N scope N js) (I : Inv X pins σ H s) (f2 : ∀ b ∈ fp, FpOk X pins H b) (ofp : ∀ b ∈ fp, ∃ o, s.heap.get? b = some o)
    (hC : s.heap.objs.size ≤ C) (os : s5.os = s.os) (hb : AllBare s5.gens) (un : Un (frs X.stack) [] H H3 s.heap s5.heap) (hn : s5.heap.Ns C (fun y => if y = ".0" then some itv else none)) (hok : HOk X.prog X.w H3 s5.heap)
    (ha : s5.heap.get? a = some go) (haC : a ≠ C) (haS : s.heap.objs.size ≤ a) (hgo : ∀ v, go.data ≠ .cell v) (hyoung : ∀ b, s.heap.objs.size ≤ b → H3 b = none) :
    Inv (gxCx X scope N C code s H fp [(a, go)]) [] (capt js σ) H3 s5 := by
  have nst : ∀ b, s.heap.objs.size ≤ b → b ∉ frs X.stack := fun b hb hm => by
    rcases List.mem_cons.mp (I.stkSub b hm) with z | z
    · rw [z] at hb
      exact absurd (Nat.lt_of_lt_of_le I.lt hb) (Nat.lt_irrefl _)
    · exact I.nofs hb z
  have fpn : ∀ b ∈ fp, b ∉ frs X.stack := fun b hb hm => by
    obtain ⟨_, f1, f2', _⟩ := f2 b hb
    rcases List.mem_cons.mp (I.stkSub b hm) with z | z
    · exact f1 z
    · exact f2' z
  have cellK : ∀ c v, s.heap.IsCell c v → H c = none → s5.heap.IsCell c v := fun c v ⟨o, ho, hd⟩ hc => by
    obtain ⟨sl, e⟩ := un.any ho hc (by simp)
    exact ⟨_, e, hd⟩
  refine ⟨⟨I.ok.mod, S.kind, I.ok.glob, rfl, hC, fun x y c h1 h2 => I.ok.inj x y c (clo_cell S I h1) (clo_cell S I h2), fun x hx => ?_, fun _ _ h _ => (by cases h), fun _ => hd, Around.frames_deeper (A := X.A.in1.in1) I.ok.frames, .inr ⟨rfl, rfl⟩, fun b hb => ⟨?_, fun x c h => ?_⟩, I.bs, Nat.le_trans I.ok.bsz I.sz, fun b o e hb => ?_, fpn, I.stack, fun b hb => I.stkFree b hb⟩,
    os, hb, ⟨fun b o e n h1 h2 => un.keep b o e n h1 (by simp), fun b o e n h1 h2 => un.slot b o e n h1 (by simp), fun b o e n h => un.free b o e n (by simp), fun b o e h => un.there b o e (by simp), un.tups, un.frzs, un.tbls⟩,
    ⟨_, hn, fun i x v e1 e2 e3 => ?_⟩, fun x c h => ?_, hyoung C hC, fun x c h => ?_, fun p hp => ?_, hok, ?_⟩
  · have hx' : scope.names.lookup x = some .cell ∨ scope.names.lookup x = some .free := hx
    rcases hx' with hx' | hx'
    · exact absurd rfl (S.nocell _ (PySem.mem_of_lookup hx'))
    · exact clo_has S I (PySem.mem_of_lookup hx')
  · obtain ⟨o, ho⟩ := ofp b hb
    exact Nat.ne_of_lt (Nat.lt_of_lt_of_le (Heap.lt_size ho) hC)
  · obtain ⟨_, _, _, _, f4, _⟩ := f2 b hb
    exact f4 x c (clo_cell S I h)
  · obtain ⟨_, _, _, f3, _, _⟩ := f2 b hb
    rcases f3 with z | z
    · exact I.ok.noex b o e z
    · exact absurd (Nat.lt_of_lt_of_le (Heap.lt_size (I.ok.bs b o e).1) z) (Nat.lt_irrefl _)
  · -- a slot
    have e2' : (js.map fun o => match o with | some j => (σ[j]?).getD none | none => none)[i]? = some (some v) := e2
    rw [List.getElem?_map] at e2'
    cases hj : js[i]? with
    | none => rw [hj] at e2'; cases e2'
    | some o =>
      rw [hj] at e2'
      cases o with
      | none => cases e2'
      | some j =>
        have e4 : (σ[j]?).getD none = some v := Option.some.inj e2'
        have e5 : σ[j]? = some (some v) := by
          cases q : σ[j]? with
          | none => rw [q] at e4; cases e4
          | some z => rw [q] at e4; exact congrArg some e4
        obtain ⟨h1, h2⟩ := S.caps hj e1
        obtain ⟨m, hm, hl⟩ := I.loc
        have hfr := S.frees _ (PySem.mem_of_lookup h2) rfl
        obtain ⟨u, r, l⟩ := hl j x v h1 e5 (.inr hfr)
        refine ⟨u, r, .inr ⟨.inr h2, ?_⟩⟩
        rcases l with ⟨hk, _⟩ | ⟨_, c, hc, hcell⟩
        · have hk' : X.env.scope.names.lookup x = some .local := hk
          rcases hfr with z | z <;> (rw [hk'] at z; cases z)
        · obtain ⟨c', hc'⟩ := clo_has S I (PySem.mem_of_lookup h2)
          have e6 := clo_cell S I hc'
          rw [hc] at e6
          cases e6
          exact ⟨c, hc', cellK c _ hcell (I.freeC x c hc)⟩
  · obtain ⟨v, hv⟩ := I.cell x c (clo_cell S I h)
    exact ⟨v, cellK c v hv (I.freeC x c (clo_cell S I h))⟩
  · obtain ⟨v, o, ho, _⟩ := I.cell x c (clo_cell S I h)
    exact un.free c o ho (I.freeC x c (clo_cell S I h)) (by simp)
  · have e : p = (a, go) := by simpa [gxCx] using hp
    subst e
    exact ⟨ha, hyoung a haS, haC, nst a haS, hgo⟩
  · show (js.map _).length = N.length
    rw [List.length_map]
    exact S.len
end Gx


namespace Gx
open PySem PySem.Spec PyProof.Rows L2 GenW GxR

/-- what all(elt for tg in iter) asks -/
def tAllG (P : Addr) (js : List (Option Nat)) (wi : TI) (g : TG) (te : TE) : TE := fun σ H Q => wi σ H fun J H1 => TabG H1 P ∧ ∀ H2, Tabbed P H1 H2 →
  ∃ W : Nat → Nat → L2.St → Hp → Prop, (∃ m, W 0 m (capt js σ) H2) ∧ ∀ i m σ' H', W i m σ' H' →
    (J.stop i H' ∧ Q (.bl true) H') ∨ (J.go i H' ∧ 0 < m ∧ ∀ x H'', J.yld i H' x H'' → g x σ' H'' fun σ2 H3 => te σ2 H3 fun v H4 => ∃ c, v = .bl c ∧ if c = true then ∃ m', m' < m ∧ W (i + 1) m' σ2 H4 else Q (.bl false) H4)

theorem pe_allG {X : Cx} {c P : Addr} {k : Nat} {elt iter tg : Expr} {p pos gpos : Pos} {scope : Scope} {N : List Str} {js : List (Option Nat)} {wi : TI} {g : TG} {te : TE}
    (hr : Room (k + 1) X.A) (hg : Gl X "all") (hm : X.mg "all" = none) (TB : TabB X.base X.mg c P) (hcode : X.env.code = .ref c) (S : GxS X.env.scope X.N scope N js) (hi : PI X tg iter wi)
    (hgt : ∀ C code s H fp pn, PG (gxCx X scope N C code s H fp pn) tg g)
    (hel : ∀ C code s H fp pn, Room k (gxCx X scope N C code s H fp pn).A → PE (gxCx X scope N C code s H fp pn) elt te)
    (hs : ∀ v, genFold iter X.env v = pure v := by intro _; rfl) (hb : bootBuiltins "all" = some (.builtin "all") := by decide +kernel)
    (he : starEach [.GeneratorExp elt [⟨tg, iter, [], 0⟩] scope gpos] X.env = (false, eval (.GeneratorExp elt [⟨tg, iter, [], 0⟩] scope gpos) X.env) :: starEach [] X.env := by rfl) :
    PE X (.Call (.Name "all" p) [.GeneratorExp elt [⟨tg, iter, [], 0⟩] scope gpos] [] pos) (tAllG P js wi g te) := by
  refine ⟨fun pins s σ H Q I h => ?_⟩
  refine wpAny_Call_Name_kw (ld_blt I hg hm hb ?_)
  refine PyProof.Rows.callWith_builtin1 ?_ he (by rfl)
  rw [he]
  show wpAny _ _ (spliced ((false, eval (.GeneratorExp elt [⟨tg, iter, [], 0⟩] scope gpos) X.env) :: backTo pos (starEach [] X.env))) _ _ s
  have hh : X.A.handled = none := hr.hd
  have hroom : X.A.depth < recursionLimit := by have := hr.dp; omega
  refine Calls.spliced_cons (wpAny_GeneratorExp_make S.co (closure_ok fun y hy hf => ?_) S.nocell S.dot S.kind hroom ?_ hs)
  · exact I.ok.has y.1 (S.frees y hy hf)
  refine thn (hi.run pins s σ H _ I h) fun v s1 h1 => thn h1 fun itv s2 ⟨it, fp, tn, J, H2, eit, I2, T, st2, f2, ⟨ps, hP, ht⟩, q⟩ => ?_
  subst eit
  refine ⟨I2.nolimit, ?_⟩
  have hPs : s2.heap.get? P = some { cls := .none, data := .fields ps } := I2.hok P _ hP
  have hPlt : P < s2.heap.objs.size := Heap.lt_size hPs
  have cd : PySem.W.CodeHd s2.heap c P := TB.code.keeps fun b u e => I2.bk b u e
  have cont : ∀ (code : Value) (h3 : Heap) (tk : Nat) (ps' : Array Value), Heap.ExtBut P s2.heap h3 → s2.heap.objs.size ≤ h3.objs.size → h3.get? P = some { cls := .none, data := .fields ps' } → (∃ more, ps' = ps ++ more) → TriplesOk ps'.toList →
      wpAny (model X.prog X.w) X.A (builtinsFor X.env.globals X.env.builtins) (fun bi s₄ =>
        ∀ h', h'.Ns s₄.heap.objs.size (fun y => if y = ".0" then some (.ref it) else none) → Heap.SameBut s₄.heap.objs.size (s₄.heap.push { cls := .type "frame", data := .dict #[] }) h' →
          wpAny (model X.prog X.w) X.A (spliced (backTo pos (starEach [] X.env))) (fun vs s₅ => wpAny (model X.prog X.w) X.A (call (.builtin "all") (.ref h'.objs.size :: vs)) (EP X pins σ Q) X.xe s₅) X.xe { s₄ with
            gens := s₄.gens.push (.fresh (.compStart (.GeneratorExp elt [⟨tg, iter, [], 0⟩] scope gpos) 0 (.ref it) .none (genEnv scope (cloFrom X.env.cells scope.names []) s₄.heap.objs.size code bi X.env))),
            toks := s₄.toks + 1 + 1 + 1,
            heap := h'.push { cls := .type "generator", data := .fields #[.int s₄.gens.size 0, .str "<genexpr>" (s₄.toks + 1), .str (X.env.qual ++ "<genexpr>") (s₄.toks + 1 + 1)] } }) X.xe { s2 with heap := h3, toks := tk } := by
    intro code h3 tk ps' hx hsz hP3 hmore ht3
    obtain ⟨more, em⟩ := hmore
    obtain ⟨bm, ob, e1, e2, e3, e4, e5, e6, e7, e8⟩ := TB.bm
    have keep3 : ∀ b u, b ≠ P → s2.heap.get? b = some u → h3.get? b = some u := fun b u hb e => hx b u hb e
    refine wpAny_builtinsFor (m := X.mg) (by rw [I2.ok.glob]; exact (I2.mod.glob.keeps I2.bk).extBut hx TB.gP) e1 e2 (keep3 _ _ e4 (I2.bk _ _ e5)) e6 e7 e8 ?_
    intro h' hn' hs'
    have hsz' : h'.objs.size = h3.objs.size + 1 := by rw [hs'.1, Heap.size_push]
    have keep' : ∀ b o, h3.get? b = some o → h'.get? b = some o := fun b o e => hs'.extBut b o (Nat.ne_of_lt (Heap.lt_size e)) (Heap.get?_push_of_some _ e)
    refine Calls.spliced_nil ?_
    -- the state behind the making
    have core : ∀ (go : Obj) (nm qn : Value) (tk5 : Nat) (gs : GenState), go.cls = .type "generator" → go.data = .fields #[.int s2.gens.size 0, nm, qn] → go.slots = #[] → (∀ h : Heap, (h.push go).get? h.objs.size = some go) →
        gs = .fresh (.compStart (.GeneratorExp elt [⟨tg, iter, [], 0⟩] scope gpos) 0 (.ref it) .none (gxEnv X scope h3.objs.size code)) →
        wpAny (model X.prog X.w) X.A (call (.builtin "all") [.ref h'.objs.size]) (EP X pins σ Q) X.xe { s2 with gens := s2.gens.push gs, toks := tk5, heap := h'.push go } := by
      intro go nm qn tk5 gs hgc hgd hgs hgp egs
      have hgen : ∀ h : Heap, h.get? h'.objs.size = some go → h.IsGen h'.objs.size s2.gens.size := fun h e => ⟨go, nm, qn, e, hgc, hgd, hgs⟩
      have hat : (h'.push go).get? h'.objs.size = some go := hgp _
      have bareN : AllBare (s2.gens.push gs) := AllBare.push I2.bare (by rw [egs]; rfl)
      have keep5 : ∀ b u, b ≠ P → s2.heap.get? b = some u → (h'.push go).get? b = some u := fun b u hb e => Heap.get?_push_of_some _ (keep' b u (keep3 b u hb e))
      have hP5 : (h'.push go).get? P = some { cls := .none, data := .fields (ps ++ more) } := by
        rw [← em]
        exact Heap.get?_push_of_some _ (keep' P _ hP3)
      have J5 := inv_tab (more := more) (h' := h'.push go) (g' := s2.gens.push gs) (d' := s2.drawn) (t' := tk5) I2 hP keep5 hP5 bareN
      have hT : Tabbed P H2 (upd H2 P (.tbl (ps ++ more))) := ⟨⟨ps ++ more, upd_same, by rw [← em]; exact ht3⟩, fun b hb => upd_ne hb⟩
      obtain ⟨W, ⟨m0, w0⟩, turn⟩ := q _ hT
      have nP : ∀ b u, H2 b = some u → (∀ q, u ≠ .tbl q) → b ≠ P := fun b u e q z => by
        rw [z, hP] at e
        exact q ps (Option.some.inj e).symm
      have nN : ∀ b, H2 b = none → b ≠ P := fun b e z => by
        rw [z, hP] at e
        cases e
      have un : Un (frs X.stack) [] H2 (upd H2 P (.tbl (ps ++ more))) s2.heap (h'.push go) := by
        refine ⟨fun b o e n _ _ => keep5 b o (nN b n) e, fun b o e n _ _ => ⟨o.slots, keep5 b o (nN b n) e⟩, fun b o _ n _ => by rw [upd_ne (nN b n)]; exact n, fun b o e _ => ?_, fun b xs e => by rw [upd_ne (nP b _ e fun q z => by cases z)]; exact e, fun b o u e => by rw [upd_ne (nP b _ e fun q z => by cases z)]; exact e, fun b qs e => ?_⟩
        · by_cases hb : b = P
          · rw [hb]
            exact ⟨_, hP5⟩
          · exact ⟨o, keep5 b o hb e⟩
        · by_cases hb : b = P
          · rw [hb, hP] at e
            cases e
            rw [hb, upd_same]
            exact ⟨more, rfl⟩
          · rw [upd_ne hb, e]
            exact ⟨#[], by simp⟩
      have ofp : ∀ b ∈ fp, ∃ o, s2.heap.get? b = some o := fun b hb => by
        obtain ⟨o, e, _⟩ := T.obj _ _ st2 b hb
        exact ⟨o, e⟩
      have fpP : ∀ b ∈ fp, b ≠ P := fun b hb => nN b (f2 b hb).1
      have hCa : h'.objs.size ≠ h3.objs.size := by rw [hsz']; exact Nat.succ_ne_self _
      have hSa : s2.heap.objs.size ≤ h'.objs.size := by rw [hsz']; exact Nat.le_succ_of_le hsz
      have Ig : L2.Inv (gxCx X scope N h3.objs.size code s2 H2 fp [(h'.objs.size, go)]) [] (capt js σ) (upd H2 P (.tbl (ps ++ more))) { s2 with gens := s2.gens.push gs, toks := tk5, heap := h'.push go } :=
        inv_gx hh S I2 f2 ofp hsz rfl bareN un (hn'.push _) J5.hok hat hCa hSa (fun v z => by rw [hgd] at z; cases z) fun b hb => by
          rw [upd_ne fun z => absurd (Nat.lt_of_lt_of_le hPlt (by rw [← z]; exact hb)) (Nat.lt_irrefl _)]
          exact I2.hok.fresh hb
      have stat : ∀ H', (∀ b ∈ fp, H' b = none) → ∀ b ∈ fp, FpOk (gxCx X scope N h3.objs.size code s2 H2 fp [(h'.objs.size, go)]) [] H' b := fun H' hn b hb => by
        obtain ⟨h1, h2⟩ := Ig.ok.exf b hb
        refine ⟨hn b hb, h1, Ig.ok.exfs b hb, .inl hb, h2, fun p hp => ?_⟩
        have e : p = (h'.objs.size, go) := by simpa [gxCx] using hp
        rw [e]
        obtain ⟨o, ho⟩ := ofp b hb
        exact Nat.ne_of_gt (Nat.lt_of_lt_of_le (Heap.lt_size ho) hSa)
      have genI : ∀ σ H s, L2.Inv (gxCx X scope N h3.objs.size code s2 H2 fp [(h'.objs.size, go)]) [] σ H s → s.heap.IsGen h'.objs.size s2.gens.size := fun σ H s J => hgen _ (J.pin (h'.objs.size, go) (List.mem_append_left _ (List.mem_singleton.mpr rfl))).1
      -- back in the def
      have back : ∀ {σ' : L2.St} {H' : Hp} {s' : Shared}, L2.Inv (gxCx X scope N h3.objs.size code s2 H2 fp [(h'.objs.size, go)]) [] σ' H' s' → L2.Inv X pins σ H' s' := fun {σ' H' s'} J =>
        I2.call' (ch := fp) J.os J.base J.hok J.bare fun b hb => by
          obtain ⟨_, f1, _, f3, f4, f5⟩ := f2 b hb
          exact ⟨f3, f1, f4, f5⟩
      have hel' := hel h3.objs.size code s2 H2 fp [(h'.objs.size, go)] (gxRoom hr _)
      have hgt' := hgt h3.objs.size code s2 H2 fp [(h'.objs.size, go)]
      have loop := gx_seg (Xg := gxCx X scope N h3.objs.size code s2 H2 fp [(h'.objs.size, go)]) (A := X.A.in1.in1) (scope := scope) (pos := gpos) (iter := iter) T hgt' hel' (fun _ _ h => h) rfl S.co over_comp stat W (fun H' => Q (.bl true) H') (fun H' => Q (.bl false) H') turn
      refine call_function_tree F.kind_all F.plain_all F.entry_all (F.args_all1 _) ?_
      unfold Builtin.«all»
      refine wpAny_bind (m := oneArg "all" _) (wpAny_pure ?_)
      have hgen5 : (h'.push go).IsGen h'.objs.size s2.gens.size := hgen _ hat
      refine wpAny_bind (wpAny_pyIter_gen (s := { s2 with gens := s2.gens.push gs, toks := tk5, heap := h'.push go }) hgen5 ?_)
      refine wpAny_pure ⟨plainId_quiet F.plain_all_loop _, ?_⟩
      refine gx_all (Xg := gxCx X scope N h3.objs.size code s2 H2 fp [(h'.objs.size, go)]) (fp := fp) (Qt := fun H' => Q (.bl true) H') (Qf := fun H' => Q (.bl false) H') (g := s2.gens.size) hh hroom genI (fun σ' H' s1 h' J fr qt hk => ?_) (fun σ' H' s1 gs' hbg J fr qf => ?_) m0 _ hgen5 Ig.nolimit ⟨gs, ?_, ?_⟩
      · exact ⟨.bl true, H', Inv.after (back J) rfl hk (allBare_setGen (s := s1) J.bare rfl), rfl, qt⟩
      · exact ⟨.bl false, H', Inv.after (back J) rfl (fun _ _ e => e) (allBare_setGen (s := s1) J.bare hbg), rfl, qf⟩
      · exact Array.getElem?_push_size ..
      · rw [egs]
        refine ⟨rfl, ?_⟩
        have wk : Woke { s2 with gens := s2.gens.push gs, toks := tk5, heap := h'.push go } (({ s2 with gens := s2.gens.push gs, toks := tk5, heap := h'.push go } : Shared).setGen s2.gens.size .running) :=
          ⟨rfl, rfl, allBare_setGen (s := { s2 with gens := s2.gens.push gs, toks := tk5, heap := h'.push go }) bareN rfl⟩
        have st5 : tn 0 (h'.push go) := T.keep _ _ _ st2 fun b hb o e => keep5 b o (fpP b hb) e
        rw [egs] at wk Ig
        refine gx_start (Xg := gxCx X scope N h3.objs.size code s2 H2 fp [(h'.objs.size, go)]) T st5 (loop m0 0 m0 _ _ _ _ (Nat.le_refl _) (Inv.woke Ig wk) st5 (fun b hb => ?_) w0)
        rw [upd_ne (fpP b hb)]
        exact (f2 b hb).1
    exact core _ _ _ _ _ rfl rfl rfl (fun h => Heap.get?_push_size _ rfl) rfl
  cases hf : codeAmong gpos ps.toList with
  | none =>
    refine wpAny_genexprCodeX hcode (cd.code hPs ht) (cd.tab hPs) hf fun c' h' tk hx hge hlt hco' _ htab' _ => ?_
    obtain ⟨o1, vs, f1, tf, fl, tg, inF, tx, tt, op, _, _, _, _, _, _, _, _, _, htr, _⟩ := hco'
    exact cont _ h' tk _ hx (Nat.le_trans hge (Nat.le_of_lt hlt)) htab'.2 ⟨_, rfl⟩ htr
  | some cv =>
    refine wpAny_genexprCode_hit hcode (cd.code hPs ht) hf ?_
    exact cont cv s2.heap s2.toks ps (Heap.ExtBut.refl _ _) (Nat.le_refl _) hPs ⟨#[], by simp⟩ ht
end Gx


namespace Mint
open PySem PySem.Spec PyProof.Rows L2 GxR Gx

/-! ### what a call keeps -/
def kp (dk : Bool) : HO → Bool
  | .tbl _ => false
  | .dK _ => dk
  | _ => true
structure Ext (dk : Bool) (H H' : Hp) : Prop where
  obj : ∀ b o, kp dk o = true → H b = some o → H' b = some o
  tab : ∀ P, TabG H P → TabG H' P
  non : ∀ b, H' b = none → H b = none
abbrev ExtP := Ext true
abbrev ExtL := Ext false
section
variable {dk : Bool} {H H1 H2 : Hp} {K : PySem.W.Frag}
theorem Ext.refl (dk : Bool) (H : Hp) : Ext dk H H := ⟨fun _ _ _ h => h, fun _ h => h, fun _ h => h⟩
theorem Ext.trans (a : Ext dk H H1) (b : Ext dk H1 H2) : Ext dk H H2 := ⟨fun c o k h => b.obj c o k (a.obj c o k h), fun P h => b.tab P (a.tab P h), fun p h => a.non p (b.non p h)⟩
theorem Ext.weak (a : ExtP H H1) : Ext dk H H1 := ⟨fun c o k h => a.obj c o (by cases o <;> first | rfl | exact k) h, a.tab, a.non⟩
theorem Ext.upd_new {p : Addr} {o : HO} (a : Ext dk H H1) (h : H p = none) : Ext dk H (upd H1 p o) := by
  refine ⟨fun c u k e => ?_, fun P ⟨ps, e, t⟩ => ?_, fun c e => ?_⟩
  · rw [upd_ne (ne_of_none e h)]
    exact a.obj c u k e
  · obtain ⟨ps', e', t'⟩ := a.tab P ⟨ps, e, t⟩
    exact ⟨ps', by rw [upd_ne (ne_of_none e h)]; exact e', t'⟩
  · by_cases z : c = p
    · rw [z, upd_same] at e
      cases e
    · rw [upd_ne z] at e
      exact a.non c e
theorem Ext.new {p : Addr} (h : H p = none) (o : HO) : Ext dk H (upd H p o) := (Ext.refl dk H).upd_new h
/-- a dict is written -/
theorem Ext.upd_dK {d : Addr} {kvs kvs' : List (Key × V)} (a : ExtL H H1) (h : H d = some (.dK kvs)) : ExtL H (upd H1 d (.dK kvs')) := by
  refine ⟨fun c u k e => ?_, fun P ⟨ps, e, t⟩ => ?_, fun c e => ?_⟩
  · have hc : c ≠ d := fun z => by
      rw [z, h] at e
      cases e
      cases k
    rw [upd_ne hc]
    exact a.obj c u k e
  · obtain ⟨ps', e', t'⟩ := a.tab P ⟨ps, e, t⟩
    exact ⟨ps', by rw [upd_ne (ne_of e h fun z => by cases z)]; exact e', t'⟩
  · by_cases z : c = d
    · rw [z, upd_same] at e
      cases e
    · rw [upd_ne z] at e
      exact a.non c e
theorem Ext.of_tabbed {P : Addr} (h : TabG H P) (t : Tabbed P H H1) : Ext dk H H1 := by
  obtain ⟨ps, e, _⟩ := h
  have ne : ∀ b o, kp dk o = true → H b = some o → b ≠ P := fun b o k q z => by
    rw [z, e] at q
    cases q
    cases k
  refine ⟨fun b o k q => (t.2 b (ne b o k q)).trans q, fun Q hq => ?_, fun b q => ?_⟩
  · by_cases z : Q = P
    · rw [z]
      exact t.1
    · obtain ⟨qs, e', t'⟩ := hq
      exact ⟨qs, (t.2 Q z).trans e', t'⟩
  · by_cases z : b = P
    · obtain ⟨ps', e', _⟩ := t.1
      rw [z, e'] at q
      cases q
    · exact (t.2 b z).symm.trans q
theorem Ext.rd {a : Addr} {u : HO} (e : Ext dk H H1) (k : kp dk u = true) (h : Rd H a u) : Rd H1 a u := by
  rcases h with h | ⟨o, h⟩
  · exact .inl (e.obj _ _ k h)
  · exact .inr ⟨o, e.obj _ _ rfl h⟩
theorem Ext.sqL {a : Addr} {xs : List V} (e : Ext dk H H1) (h : SqL K H a xs) : SqL K H1 a xs := by
  rcases h with h | h
  · exact .inl (e.rd rfl h)
  · exact .inr h
theorem Ext.sqT {a : Addr} {xs : List V} (e : Ext dk H H1) (h : SqT K H a xs) : SqT K H1 a xs := by
  rcases h with h | h
  · exact .inl (e.rd rfl h)
  · exact .inr h
mutual
theorem Ext.dp (e : Ext dk H H1) : ∀ {d : PyData} {v : V}, Dp K H v d → Dp K H1 v d
  | _, _, .non => .non
  | _, _, .bl b => .bl b
  | _, _, .int i => .int i
  | _, _, .str x => .str x
  | _, _, .lst h t => .lst (e.sqL h) (Ext.dps e t)
  | _, _, .tup h t => .tup (e.sqT h) (Ext.dps e t)
theorem Ext.dps (e : Ext dk H H1) : ∀ {ds : List PyData} {vs : List V}, DpAll K H vs ds → DpAll K H1 vs ds
  | _, _, .nil => .nil
  | _, _, .cons h t => .cons (Ext.dp e h) (Ext.dps e t)
end
end
theorem dpAll_len {K : PySem.W.Frag} {H : Hp} : ∀ {vs : List V} {ds : List PyData}, DpAll K H vs ds → vs.length = ds.length
  | _, _, .nil => rfl
  | _, _, .cons _ t => congrArg (· + 1) (dpAll_len t)
theorem dpAll_get {K : PySem.W.Frag} {H : Hp} : ∀ {vs : List V} {ds : List PyData} {i : Nat} {v : V}, DpAll K H vs ds → vs[i]? = some v → ∃ d, ds[i]? = some d ∧ Dp K H v d
  | _, _, _, _, .nil, e => by simp at e
  | _, _, 0, _, .cons h _, e => by simp at e; subst e; exact ⟨_, rfl, h⟩
  | _, _, i + 1, v, .cons _ t, e => by
    obtain ⟨d, h1, h2⟩ := dpAll_get (i := i) (v := v) t (by simpa using e)
    exact ⟨d, by simpa using h1, h2⟩
theorem dpAll_at {K : PySem.W.Frag} {H : Hp} : ∀ {vs : List V} {ds : List PyData} {i : Nat} {d : PyData}, DpAll K H vs ds → ds[i]? = some d → ∃ v, vs[i]? = some v ∧ Dp K H v d
  | _, _, _, _, .nil, e => by simp at e
  | _, _, 0, _, .cons h _, e => by simp at e; subst e; exact ⟨_, rfl, h⟩
  | _, _, i + 1, d, .cons _ t, e => by
    obtain ⟨v, h1, h2⟩ := dpAll_at (i := i) (d := d) t (by simpa using e)
    exact ⟨v, by simpa using h1, h2⟩

/-! ### types -/
def tyName : PyData → String
  | .none => "NoneType" | .bool _ => "bool" | .int _ => "int" | .str _ => "str" | .list _ => "list" | .tuple _ => "tuple" | .dict _ => "dict"
theorem Dp.ty {K : PySem.W.Frag} {H : Hp} {v : V} {d : PyData} (h : Dp K H v d) : TyX K H v (.type (tyName d)) := by
  cases h with
  | non => exact .base .non
  | bl b => exact .base (.bl b)
  | int i => exact .base (.int i)
  | str x => exact .base (.str x)
  | lst h _ =>
    rcases h with (h | ⟨o, h⟩) | ⟨o, its, n, h, c, _⟩
    · exact .base (.lst h)
    · exact .base (.frz h)
    · exact .kList h c
  | tup h _ =>
    rcases h with (h | ⟨o, h⟩) | ⟨o, its, n, h, c, _⟩
    · exact .base (.tup h)
    · exact .fTuple h
    · exact .kTuple h c
def gInt : PyData → Bool
  | .int _ => true | .bool _ => true | _ => false
def gBool : PyData → Bool
  | .bool _ => true | _ => false
def gStr : PyData → Bool
  | .str _ => true | _ => false
def gTup : PyData → Bool
  | .tuple _ => true | _ => false
theorem isa_int (K : PySem.W.Frag) (d : PyData) (h : ∀ kvs, d ≠ .dict kvs) : PySem.W.kitOne K (.type (tyName d)) (.type "int") = some (gInt d) := by
  cases d with
  | none => exact kit_ty (show kitB "NoneType" "int" = some false by decide +kernel)
  | bool b => exact kit_ty (show kitB "bool" "int" = some true by decide +kernel)
  | int i => exact kit_ty (show kitB "int" "int" = some true by decide +kernel)
  | str x => exact kit_ty (show kitB "str" "int" = some false by decide +kernel)
  | list x => exact kit_ty (show kitB "list" "int" = some false by decide +kernel)
  | tuple x => exact kit_ty (show kitB "tuple" "int" = some false by decide +kernel)
  | dict x => exact absurd rfl (h x)
theorem isa_bool (K : PySem.W.Frag) (d : PyData) (h : ∀ kvs, d ≠ .dict kvs) : PySem.W.kitOne K (.type (tyName d)) (.type "bool") = some (gBool d) := by
  cases d with
  | none => exact kit_ty (show kitB "NoneType" "bool" = some false by decide +kernel)
  | bool b => exact kit_ty (show kitB "bool" "bool" = some true by decide +kernel)
  | int i => exact kit_ty (show kitB "int" "bool" = some false by decide +kernel)
  | str x => exact kit_ty (show kitB "str" "bool" = some false by decide +kernel)
  | list x => exact kit_ty (show kitB "list" "bool" = some false by decide +kernel)
  | tuple x => exact kit_ty (show kitB "tuple" "bool" = some false by decide +kernel)
  | dict x => exact absurd rfl (h x)
theorem isa_str (K : PySem.W.Frag) (d : PyData) (h : ∀ kvs, d ≠ .dict kvs) : PySem.W.kitOne K (.type (tyName d)) (.type "str") = some (gStr d) := by
  cases d with
  | none => exact kit_ty (show kitB "NoneType" "str" = some false by decide +kernel)
  | bool b => exact kit_ty (show kitB "bool" "str" = some false by decide +kernel)
  | int i => exact kit_ty (show kitB "int" "str" = some false by decide +kernel)
  | str x => exact kit_ty (show kitB "str" "str" = some true by decide +kernel)
  | list x => exact kit_ty (show kitB "list" "str" = some false by decide +kernel)
  | tuple x => exact kit_ty (show kitB "tuple" "str" = some false by decide +kernel)
  | dict x => exact absurd rfl (h x)
theorem isa_tuple (K : PySem.W.Frag) (d : PyData) (h : ∀ kvs, d ≠ .dict kvs) : PySem.W.kitOne K (.type (tyName d)) (.type "tuple") = some (gTup d) := by
  cases d with
  | none => exact kit_ty (show kitB "NoneType" "tuple" = some false by decide +kernel)
  | bool b => exact kit_ty (show kitB "bool" "tuple" = some false by decide +kernel)
  | int i => exact kit_ty (show kitB "int" "tuple" = some false by decide +kernel)
  | str x => exact kit_ty (show kitB "str" "tuple" = some false by decide +kernel)
  | list x => exact kit_ty (show kitB "list" "tuple" = some false by decide +kernel)
  | tuple x => exact kit_ty (show kitB "tuple" "tuple" = some true by decide +kernel)
  | dict x => exact absurd rfl (h x)
theorem Dp.nodict {K : PySem.W.Frag} {H : Hp} {v : V} {d : PyData} (h : Dp K H v d) : ∀ kvs, d ≠ .dict kvs := fun kvs z => by
  subst z
  cases h

/-! ### a def whose code object is known -/
structure FunC (K : PySem.W.Frag) (x qual : Str) (st : Stmt) (f : Addr) (fd : FuncData) (c : Addr) : Prop where
  ex : ∃ (oc : Value) (od : Option Addr) (kV doc pm : Value) (an : Option Addr) (ct : Value) (osl : Array (Option Value)),
    fd = PySem.W.fnOf x qual (defArgs st) (defBody st) (defScope st) .none kV doc pm an (.ref c) ct ∧ K.lookup f = some ⟨oc, od, .func fd, osl⟩ ∧ PySem.W.codeIn K (.ref c) qual = true
  kp : PySem.W.keepIn K (.ref f) = true
section
variable {P : Program} {w : World} {K : PySem.W.Frag} {mg : Str → Option Value} {base : Heap}
theorem FunC.fun {x qual : Str} {st : Stmt} {f c : Addr} {fd : FuncData} (F : FunC K x qual st f fd c) : Fun K x qual st f fd := by
  obtain ⟨oc, od, kV, doc, pm, an, ct, osl, h⟩ := F.ex
  exact ⟨⟨oc, od, kV, doc, pm, an, _, ct, osl, h⟩, F.kp⟩
theorem FunC.ok {x qual : Str} {st : Stmt} {f c : Addr} {fd : FuncData} {N ps : List Str} {k : Nat} {sp : Sp} (F : FunC K x qual st f fd c) (S : FnScope N ps (defScope st)) (len : ∀ vs H Q E, sp vs H Q E → vs.length = ps.length)
    (hbody : ∀ (A : Around) (outer : List Env) (s : Shared) (H : Hp) (vs : List V) (Q : VK) (E : XK), Room k (A.deeper (envOfC qual (defScope st) s.heap.objs.size f (.ref c))) → sp vs H Q E →
      ∃ t, PSs (cxOf CX0 P w K mg base N qual (defScope st) f (.ref c) A outer s H E).nox (defBody st) t ∧ t { nx := fun _ H' => Q .non H', rt := Q } (start N vs) H) : FnOk P w K mg base CX0 (k + 1) f fd ps sp := by
  obtain ⟨oc, od, kV, doc, pm, an, ct, osl, rfl, lk, hcd⟩ := F.ex
  refine fn_of lk hcd S len fun A outer s H vs Q E hr hsp => ?_
  obtain ⟨t, h, q⟩ := hbody A outer s H vs Q E hr hsp
  exact ⟨t, h.nox, q⟩
theorem funC_mk {x qual : Str} {st : Stmt} {f c : Addr} {oc : Value} {od an : Option Addr} {osl : Array (Option Value)} {kV doc pm ct : Value} (l : K.lookup f = some ⟨oc, od, .func (PySem.W.fnOf x qual (defArgs st) (defBody st) (defScope st) .none kV doc pm an (.ref c) ct), osl⟩)
    (h : PySem.W.codeIn K (.ref c) qual = true) (k : PySem.W.keepIn K (.ref f) = true) : FunC K x qual st f (PySem.W.fnOf x qual (defArgs st) (defBody st) (defScope st) .none kV doc pm an (.ref c) ct) c := ⟨⟨oc, od, kV, doc, pm, an, ct, osl, rfl, l, h⟩, k⟩
end

/-! ### promises -/
abbrev Tabs (Ps : List Addr) (H : Hp) : Prop := ∀ P ∈ Ps, TabG H P
/-- a def that looks at data and answers with True or False, and changes nothing but tables -/
def spB (K : PySem.W.Frag) (Ps : List Addr) (n : Nat) (ok : List PyData → Prop) (f : List PyData → Bool) : Sp := fun vs H Q _ =>
  ∃ ds : List PyData, DpAll K H vs ds ∧ ds.length = n ∧ ok ds ∧ Tabs Ps H ∧ ∀ H', ExtP H H' → Q (.bl (f ds)) H'
theorem spB_len {K : PySem.W.Frag} {Ps : List Addr} {n : Nat} {ok : List PyData → Prop} {f : List PyData → Bool} {vs : List V} {H : Hp} {Q : VK} {E : XK} (h : spB K Ps n ok f vs H Q E) : vs.length = n := by
  obtain ⟨ds, h1, h2, _⟩ := h
  rw [dpAll_len h1, h2]
theorem Ext.tabs {dk : Bool} {H H1 : Hp} {Ps : List Addr} (e : Ext dk H H1) (h : Tabs Ps H) : Tabs Ps H1 := fun P hp => e.tab P (h P hp)
/-- the built-in names stand as they are -/
structure Glb (mg : Str → Option Value) : Prop where
  isinstance : mg "isinstance" = none
  int : mg "int" = none
  bool : mg "bool" = none
  str : mg "str" = none
  tuple : mg "tuple" = none
  len : mg "len" = none
  all : mg "all" = none
  max : mg "max" = none
  min : mg "min" = none
  list : mg "list" = none
  zip : mg "zip" = none
  set : mg "set" = none
  enumerate : mg "enumerate" = none
  abs : mg "abs" = none
  range : mg "range" = none

theorem tVar_mono (i : Nat) : ∀ σ H (Q Q' : VK), (∀ v H1, Q v H1 → Q' v H1) → tVar i σ H Q → tVar i σ H Q' := fun σ H Q Q' m ⟨v, e, q⟩ => ⟨v, e, m _ _ q⟩
/-! isinstance(x, T): the answer is known by the data -/
section
variable {X : Cx} {e : Expr} {te : TE} {p p2 pos : Pos}
def tIsa (K : PySem.W.Frag) (g : PyData → Bool) (te : TE) : TE := fun σ H Q => te σ H fun v H1 => ∃ d, Dp K H1 v d ∧ Q (.bl (g d)) H1
theorem pe_isa {T : Str} {n : String} {g : PyData → Bool} (hg : Gl X "isinstance") (hm : X.mg "isinstance" = none) (hg2 : Gl X T) (hm2 : X.mg T = none) (hv : bootBuiltins T = some (.type n))
    (k : ∀ d : PyData, (∀ kvs, d ≠ .dict kvs) → PySem.W.kitOne X.K (.type (tyName d)) (.type n) = some (g d)) (he : PE X e te) (hmono : ∀ σ H Q Q', (∀ v H1, Q v H1 → Q' v H1) → te σ H Q → te σ H Q') (hn : T ≠ "__name__" := by decide) (hd : (T == ("__debug__" : Str)) = false := by decide)
    (h1 : starEach [e, .Name T p2] X.env = (false, eval e X.env) :: starEach [.Name T p2] X.env := by rfl) :
    PE X (.Call (.Name "isinstance" p) [e, .Name T p2] [] pos) (tIsa X.K g te) := by
  have hc := pe_callB (X := X) (call_isi (X := X)) (p := p) (pos := pos) hg hm (by decide +kernel) (pa_cons he (pa_cons (pe_bltn (v := .ty n) (pos := p2) hg2 hm2 hv rfl hn hd) pa_nil) h1) (he := h1)
  refine ⟨fun pins s σ H Q I h => hc.run pins s σ H Q I ?_⟩
  refine hmono σ H _ _ (fun v H1 ⟨d, hd, q⟩ => ?_) h
  exact ⟨v, .ty n, _, _, _, rfl, .ty n, Dp.ty hd, k d (Dp.nodict hd), q⟩
end
section
variable {X : Cx} {p p2 p3 pos : Pos} {x : Str}
theorem pe_isaInt (G : Glb X.mg) (i : Nat) (hg : Gl X "isinstance" := by rfl) (hg2 : Gl X "int" := by rfl) (he : PE X (.Name x p3) (tVar i) := by exact pv _) (h1 : starEach [.Name x p3, .Name "int" p2] X.env = (false, eval (.Name x p3) X.env) :: starEach [.Name "int" p2] X.env := by rfl) :
    PE X (.Call (.Name "isinstance" p) [.Name x p3, .Name "int" p2] [] pos) (tIsa X.K gInt (tVar i)) := pe_isa hg G.isinstance hg2 G.int boot_int (isa_int X.K) he (tVar_mono i) (by decide) (by decide) h1
theorem pe_isaBool (G : Glb X.mg) (i : Nat) (hg : Gl X "isinstance" := by rfl) (hg2 : Gl X "bool" := by rfl) (he : PE X (.Name x p3) (tVar i) := by exact pv _) (h1 : starEach [.Name x p3, .Name "bool" p2] X.env = (false, eval (.Name x p3) X.env) :: starEach [.Name "bool" p2] X.env := by rfl) :
    PE X (.Call (.Name "isinstance" p) [.Name x p3, .Name "bool" p2] [] pos) (tIsa X.K gBool (tVar i)) := pe_isa hg G.isinstance hg2 G.bool (by decide +kernel) (isa_bool X.K) he (tVar_mono i) (by decide) (by decide) h1
theorem pe_isaStr (G : Glb X.mg) (i : Nat) (hg : Gl X "isinstance" := by rfl) (hg2 : Gl X "str" := by rfl) (he : PE X (.Name x p3) (tVar i) := by exact pv _) (h1 : starEach [.Name x p3, .Name "str" p2] X.env = (false, eval (.Name x p3) X.env) :: starEach [.Name "str" p2] X.env := by rfl) :
    PE X (.Call (.Name "isinstance" p) [.Name x p3, .Name "str" p2] [] pos) (tIsa X.K gStr (tVar i)) := pe_isa hg G.isinstance hg2 G.str (by decide +kernel) (isa_str X.K) he (tVar_mono i) (by decide) (by decide) h1
theorem pe_isaTup (G : Glb X.mg) (i : Nat) (hg : Gl X "isinstance" := by rfl) (hg2 : Gl X "tuple" := by rfl) (he : PE X (.Name x p3) (tVar i) := by exact pv _) (h1 : starEach [.Name x p3, .Name "tuple" p2] X.env = (false, eval (.Name x p3) X.env) :: starEach [.Name "tuple" p2] X.env := by rfl) :
    PE X (.Call (.Name "isinstance" p) [.Name x p3, .Name "tuple" p2] [] pos) (tIsa X.K gTup (tVar i)) := pe_isa hg G.isinstance hg2 G.tuple (by decide +kernel) (isa_tuple X.K) he (tVar_mono i) (by decide) (by decide) h1
end
end Mint


namespace Mint
open PySem PySem.Spec PyProof.Rows L2 GxR Gx

/-! ### all(elt for x in iter), the element a look: x in the first slot, the captured names behind it -/
theorem range_all_false {p : Nat → Bool} {n i : Nat} (hi : i < n) (h : p i = false) : (List.range n).all p = false := by
  rw [Bool.eq_false_iff]
  intro z
  have := List.all_eq_true.mp z i (List.mem_range.mpr hi)
  rw [h] at this
  cases this
theorem all_pure {P : Addr} {js : List (Option Nat)} {te : TE} {σ : L2.St} {H1 : Hp} {Q : VK} {J : It} (n : Nat) (p : Nat → Bool) (rest : L2.St) (hσ : capt js σ = none :: rest) (hT : TabG H1 P)
    (hgo : ∀ i H', i < n → ExtP H1 H' → J.go i H') (hstop : ∀ H', ExtP H1 H' → J.stop n H')
    (hel : ∀ i H', i < n → ExtP H1 H' → ∀ x H'', J.yld i H' x H'' → H'' = H' ∧ ∀ Qe : VK, (∀ H3, ExtP H' H3 → Qe (.bl (p i)) H3) → te (some x :: rest) H' Qe)
    (hQ : ∀ H', ExtP H1 H' → Q (.bl ((List.range n).all p)) H') :
    TabG H1 P ∧ ∀ H2, Tabbed P H1 H2 → ∃ W : Nat → Nat → L2.St → Hp → Prop, (∃ m, W 0 m (capt js σ) H2) ∧ ∀ i m σ' H', W i m σ' H' →
      (J.stop i H' ∧ Q (.bl true) H') ∨ (J.go i H' ∧ 0 < m ∧ ∀ x H'', J.yld i H' x H'' → gName 0 x σ' H'' fun σ2 H3 => te σ2 H3 fun v H4 => ∃ c, v = .bl c ∧ if c = true then ∃ m', m' < m ∧ W (i + 1) m' σ2 H4 else Q (.bl false) H4) := by
  refine ⟨hT, fun H2 ht => ⟨fun i m σ' H' => m = n - i ∧ i ≤ n ∧ ExtP H1 H' ∧ (∃ o, σ' = o :: rest) ∧ ∀ j, j < i → p j = true, ⟨n, rfl, Nat.zero_le _, .of_tabbed hT ht, ⟨none, hσ⟩, fun j hj => by omega⟩, ?_⟩⟩
  rintro i m σ' H' ⟨rfl, hi, e, ⟨o, rfl⟩, hp⟩
  by_cases hlt : i < n
  · refine .inr ⟨hgo i H' hlt e, by omega, fun x H'' hy => ?_⟩
    obtain ⟨rfl, q⟩ := hel i H' hlt e x H'' hy
    show te ((o :: rest).set 0 (some x)) H'' _
    refine q _ fun H3 e3 => ⟨p i, rfl, ?_⟩
    cases hpi : p i with
    | true => exact iteT ⟨n - (i + 1), by omega, rfl, hlt, e.trans e3, ⟨some x, rfl⟩, fun j hj => by
        by_cases z : j = i
        · rw [z]; exact hpi
        · exact hp j (by omega)⟩
    | false =>
      refine iteF ?_
      rw [← range_all_false hlt hpi]
      exact hQ _ (e.trans e3)
  · have e2 : i = n := by omega
    subst e2
    refine .inl ⟨hstop H' e, ?_⟩
    have z : (List.range i).all p = true := List.all_eq_true.mpr fun j hj => hp j (List.mem_range.mp hj)
    rw [← z]
    exact hQ _ e
theorem all_range_map {α : Type} (f : α → Bool) (l : List α) (p : Nat → Bool) (h : ∀ i x, l[i]? = some x → p i = f x) : (List.range l.length).all p = l.all f := by
  rw [Bool.eq_iff_iff, List.all_eq_true, List.all_eq_true]
  constructor
  · intro q x hx
    obtain ⟨i, hi, e⟩ := List.getElem_of_mem hx
    rw [← h i x (by rw [List.getElem?_eq_getElem hi, e])]
    exact q i (List.mem_range.mpr hi)
  · intro q i hi
    have hi' := List.mem_range.mp hi
    rw [h i l[i] (List.getElem?_eq_getElem hi')]
    exact q _ (List.getElem_mem hi')
/-- over the signs of a text -/
theorem all_str {P : Addr} {js : List (Option Nat)} {te : TE} {σ : L2.St} {H1 : Hp} {Q : VK} (x : Str) (f : Nat → Bool) (rest : L2.St) (hσ : capt js σ = none :: rest) (hT : TabG H1 P)
    (hel : ∀ c H', ExtP H1 H' → ∀ Qe : VK, (∀ H3, ExtP H' H3 → Qe (.bl (f c)) H3) → te (some (.str ⟨#[c]⟩) :: rest) H' Qe)
    (hQ : ∀ H', ExtP H1 H' → Q (.bl (x.cps.toList.all f)) H') :
    TabG H1 P ∧ ∀ H2, Tabbed P H1 H2 → ∃ W : Nat → Nat → L2.St → Hp → Prop, (∃ m, W 0 m (capt js σ) H2) ∧ ∀ i m σ' H', W i m σ' H' →
      ((Its x).stop i H' ∧ Q (.bl true) H') ∨ ((Its x).go i H' ∧ 0 < m ∧ ∀ v H'', (Its x).yld i H' v H'' → gName 0 v σ' H'' fun σ2 H3 => te σ2 H3 fun v H4 => ∃ c, v = .bl c ∧ if c = true then ∃ m', m' < m ∧ W (i + 1) m' σ2 H4 else Q (.bl false) H4) := by
  refine all_pure x.cps.toList.length (fun i => match x.cps.toList[i]? with | some c => f c | none => false) rest hσ hT (fun i H' hi e => ?_) (fun H' e => ?_) (fun i H' hi e v H'' hy => ?_) (fun H' e => ?_)
  · show i < x.cps.size
    simpa using hi
  · show x.cps.size ≤ x.cps.toList.length
    simp
  · obtain ⟨rfl, c, hc, rfl⟩ := hy
    refine ⟨rfl, fun Qe hq => hel c _ e Qe ?_⟩
    have e2 : x.cps.toList[i]? = some c := by rw [Array.getElem?_toList]; exact hc
    simp only [e2] at hq
    exact hq
  · have e3 := all_range_map f x.cps.toList (fun i => match x.cps.toList[i]? with | some c => f c | none => false) (fun i c h => by simp only [h])
    rw [e3]
    exact hQ H' e
/-- over a tuple of data -/
theorem all_tup {K : PySem.W.Frag} {P a : Addr} {js : List (Option Nat)} {te : TE} {σ : L2.St} {H1 : Hp} {Q : VK} {xs : List V} {ds : List PyData} (f : PyData → Bool) (rest : L2.St) (hσ : capt js σ = none :: rest) (hT : TabG H1 P) (hS : SqT K H1 a xs) (hD : DpAll K H1 xs ds)
    (hel : ∀ v d H', d ∈ ds → ExtP H1 H' → Dp K H' v d → ∀ Qe : VK, (∀ H3, ExtP H' H3 → Qe (.bl (f d)) H3) → te (some v :: rest) H' Qe)
    (hQ : ∀ H', ExtP H1 H' → Q (.bl (ds.all f)) H') :
    TabG H1 P ∧ ∀ H2, Tabbed P H1 H2 → ∃ W : Nat → Nat → L2.St → Hp → Prop, (∃ m, W 0 m (capt js σ) H2) ∧ ∀ i m σ' H', W i m σ' H' →
      ((Itt K a).stop i H' ∧ Q (.bl true) H') ∨ ((Itt K a).go i H' ∧ 0 < m ∧ ∀ v H'', (Itt K a).yld i H' v H'' → gName 0 v σ' H'' fun σ2 H3 => te σ2 H3 fun v H4 => ∃ c, v = .bl c ∧ if c = true then ∃ m', m' < m ∧ W (i + 1) m' σ2 H4 else Q (.bl false) H4) := by
  have hl := dpAll_len hD
  refine all_pure ds.length (fun i => match ds[i]? with | some d => f d | none => false) rest hσ hT (fun i H' hi e => ?_) (fun H' e => ?_) (fun i H' hi e v H'' hy => ?_) (fun H' e => ?_)
  · exact ⟨xs, xs[i]'(by omega), e.sqT hS, List.getElem?_eq_getElem (by omega)⟩
  · exact ⟨xs, e.sqT hS, by omega⟩
  · obtain ⟨rfl, hy⟩ := hy
    have hx := hy xs (e.sqT hS)
    obtain ⟨d, hd, hdp⟩ := dpAll_get hD hx
    refine ⟨rfl, fun Qe hq => hel v d _ (List.mem_of_getElem? hd) e (e.dp hdp) Qe ?_⟩
    simp only [hd] at hq
    exact hq
  · have e3 := all_range_map f ds (fun i => match ds[i]? with | some d => f d | none => false) (fun i d h => by simp only [h])
    rw [e3]
    exact hQ H' e
theorem all_pure2 {P : Addr} {js : List (Option Nat)} {te : TE} {σ : L2.St} {H1 : Hp} {Qt Qf : Hp → Prop} {J : It} (n : Nat) (p : Nat → Bool) (rest : L2.St) (hσ : capt js σ = none :: rest) (hT : TabG H1 P)
    (hgo : ∀ i H', i < n → ExtP H1 H' → J.go i H') (hstop : ∀ H', ExtP H1 H' → J.stop n H')
    (hel : ∀ i H', i < n → ExtP H1 H' → ∀ x H'', J.yld i H' x H'' → H'' = H' ∧ ∀ Qe : VK, (∀ H3, ExtP H' H3 → Qe (.bl (p i)) H3) → te (some x :: rest) H' Qe)
    (hQt : ∀ H', ExtP H1 H' → (List.range n).all p = true → Qt H') (hQf : ∀ H', ExtP H1 H' → (List.range n).all p = false → Qf H') :
    TabG H1 P ∧ ∀ H2, Tabbed P H1 H2 → ∃ W : Nat → Nat → L2.St → Hp → Prop, (∃ m, W 0 m (capt js σ) H2) ∧ ∀ i m σ' H', W i m σ' H' →
      (J.stop i H' ∧ Qt H') ∨ (J.go i H' ∧ 0 < m ∧ ∀ x H'', J.yld i H' x H'' → gName 0 x σ' H'' fun σ2 H3 => te σ2 H3 fun v H4 => ∃ c, v = .bl c ∧ if c = true then ∃ m', m' < m ∧ W (i + 1) m' σ2 H4 else Qf H4) := by
  refine ⟨hT, fun H2 ht => ⟨fun i m σ' H' => m = n - i ∧ i ≤ n ∧ ExtP H1 H' ∧ (∃ o, σ' = o :: rest) ∧ ∀ j, j < i → p j = true, ⟨n, rfl, Nat.zero_le _, .of_tabbed hT ht, ⟨none, hσ⟩, fun j hj => by omega⟩, ?_⟩⟩
  rintro i m σ' H' ⟨rfl, hi, e, ⟨o, rfl⟩, hp⟩
  by_cases hlt : i < n
  · refine .inr ⟨hgo i H' hlt e, by omega, fun x H'' hy => ?_⟩
    obtain ⟨rfl, q⟩ := hel i H' hlt e x H'' hy
    show te ((o :: rest).set 0 (some x)) H'' _
    refine q _ fun H3 e3 => ⟨p i, rfl, ?_⟩
    cases hpi : p i with
    | true => exact iteT ⟨n - (i + 1), by omega, rfl, hlt, e.trans e3, ⟨some x, rfl⟩, fun j hj => by
        by_cases z : j = i
        · rw [z]; exact hpi
        · exact hp j (by omega)⟩
    | false => exact iteF (hQf _ (e.trans e3) (range_all_false hlt hpi))
  · have e2 : i = n := by omega
    subst e2
    exact .inl ⟨hstop H' e, hQt _ e (List.all_eq_true.mpr fun j hj => hp j (List.mem_range.mp hj))⟩
/-- over a tuple of data, the two ways apart -/
theorem all_tup2 {K : PySem.W.Frag} {P a : Addr} {js : List (Option Nat)} {te : TE} {σ : L2.St} {H1 : Hp} {Qt Qf : Hp → Prop} {xs : List V} {ds : List PyData} (f : PyData → Bool) (rest : L2.St) (hσ : capt js σ = none :: rest) (hT : TabG H1 P) (hS : SqT K H1 a xs) (hD : DpAll K H1 xs ds)
    (hel : ∀ v d H', d ∈ ds → ExtP H1 H' → Dp K H' v d → ∀ Qe : VK, (∀ H3, ExtP H' H3 → Qe (.bl (f d)) H3) → te (some v :: rest) H' Qe)
    (hQt : ∀ H', ExtP H1 H' → ds.all f = true → Qt H') (hQf : ∀ H', ExtP H1 H' → ds.all f = false → Qf H') :
    TabG H1 P ∧ ∀ H2, Tabbed P H1 H2 → ∃ W : Nat → Nat → L2.St → Hp → Prop, (∃ m, W 0 m (capt js σ) H2) ∧ ∀ i m σ' H', W i m σ' H' →
      ((Itt K a).stop i H' ∧ Qt H') ∨ ((Itt K a).go i H' ∧ 0 < m ∧ ∀ v H'', (Itt K a).yld i H' v H'' → gName 0 v σ' H'' fun σ2 H3 => te σ2 H3 fun v H4 => ∃ c, v = .bl c ∧ if c = true then ∃ m', m' < m ∧ W (i + 1) m' σ2 H4 else Qf H4) := by
  have hl := dpAll_len hD
  have e3 := all_range_map f ds (fun i => match ds[i]? with | some d => f d | none => false) (fun i d h => by simp only [h])
  refine all_pure2 ds.length (fun i => match ds[i]? with | some d => f d | none => false) rest hσ hT (fun i H' hi e => ?_) (fun H' e => ?_) (fun i H' hi e v H'' hy => ?_) (fun H' e h => hQt H' e (by rw [← e3]; exact h)) (fun H' e h => hQf H' e (by rw [← e3]; exact h))
  · exact ⟨xs, xs[i]'(by omega), e.sqT hS, List.getElem?_eq_getElem (by omega)⟩
  · exact ⟨xs, e.sqT hS, by omega⟩
  · obtain ⟨rfl, hy⟩ := hy
    have hx := hy xs (e.sqT hS)
    obtain ⟨d, hd, hdp⟩ := dpAll_get hD hx
    refine ⟨rfl, fun Qe hq => hel v d _ (List.mem_of_getElem? hd) e (e.dp hdp) Qe ?_⟩
    simp only [hd] at hq
    exact hq
section
variable {X : Cx} {x : Str} {pos : Pos}
theorem pe_gI {i : Int} {t : Tok} (hm : X.mg x = some (.int i t)) (hg : Gl X x := by rfl) (hd : (x == ("__debug__" : Str)) = false := by decide) : PE X (.Name x pos) (tC (.int i)) := pe_glob hg hm ⟨t, rfl⟩ hd
theorem pe_gS {z : Str} {t : Tok} (hm : X.mg x = some (.str z t)) (hg : Gl X x := by rfl) (hd : (x == ("__debug__" : Str)) = false := by decide) : PE X (.Name x pos) (tC (.str z)) := pe_glob hg hm ⟨t, rfl⟩ hd
theorem pe_gR {a : Addr} (hm : X.mg x = some (.ref a)) (hg : Gl X x := by rfl) (hd : (x == ("__debug__" : Str)) = false := by decide) : PE X (.Name x pos) (tC (.ref a)) := pe_glob hg hm rfl hd
end
end Mint


namespace Mint
open PySem PySem.Spec PyProof.Rows L2 GxR Gx

/-! ### max of a tuple of ints -/
section
variable {prog : Program} {w : World} {A : Around} {E : Value → Shared → Prop} {s : Shared} {l : Addr} {xs : Array (Int × Tok)}
theorem iter_intTuple {Q : Value → Shared → Prop} {items : Array Value} (hl : s.heap.IsTuple l items)
    (h : ∀ s₂ : Shared, s₂ = { s with heap := s.heap.push { cls := .type "tuple_iterator", data := .fields #[.ref l, .int 0 0] } } → (s₂.heap.IsTupleIter s.heap.objs.size l 0 ∧ s₂.heap.IsTuple l items) →
      (∀ b ∈ [s.heap.objs.size, l], b < s₂.heap.objs.size) → l ≠ s.heap.objs.size → Q (.ref s.heap.objs.size) s₂) : wpAny (model prog w) A (pyIter (.ref l)) Q E s := by
  obtain ⟨ol, hol, r⟩ := id hl
  have hlt := Heap.lt_size hol
  refine wpAny_pyIter_tuple hl (h _ rfl ⟨⟨_, Heap.get?_push_size _ rfl, rfl, rfl⟩, hl.push _⟩ (fun b hb => ?_) (Nat.ne_of_lt hlt))
  show b < (s.heap.push _).objs.size
  rw [Heap.size_push]
  rcases List.mem_cons.mp hb with e | hb
  · rw [e]; exact Nat.lt_succ_self _
  · rcases List.mem_cons.mp hb with e | hb
    · rw [e]; exact Nat.lt_succ_of_lt hlt
    · cases hb
theorem max_intTuple {Q : Value → Shared → Prop} (hh : A.handled = none) (hl : s.heap.IsTuple l (intItems xs)) (hne : 0 < xs.size)
    (h : ∀ v h' tk, (intItems xs)[argBest (fun i j => decide (numAt xs i > numAt xs j)) (xs.size - 1)]? = some v → (∀ b o, s.heap.get? b = some o → h'.get? b = some o) → Q v { s with heap := h', toks := tk }) :
    wpAny (model prog w) A (call (.builtin "max") [.ref l]) Q E s := by
  refine call_max_walk (iter_intTuple hl fun s₂ e st hfp hlI => ?_)
  subst e
  refine ⟨_, _, _, _, _, _, _, rfl, Walks.tuple (A := A.in1) hh _ l hlI (intItems xs), st, hfp, by simpa [intItems] using hne, CmpOf.ints_gt (numAt xs) (fun _ _ => intItems_at), fun v h' tk hP hk => ?_⟩
  refine h v h' tk (by simpa [intItems] using hP) fun b o e => ?_
  refine hk b o (fun hm => ?_) (Heap.get?_push_of_some _ e)
  rcases List.mem_cons.mp hm with e1 | hm
  · exact absurd (e1 ▸ Heap.lt_size e) (Nat.lt_irrefl _)
  · cases hm
theorem max_rawT {its : List Value} {ns : List Int} {Q : Value → Shared → Prop} (hh : A.handled = none) (hl : s.heap.IsTuple l its.toArray) (hi : IntsAre its ns) (hne : 0 < ns.length)
    (h : ∀ h' tk M t', (∀ b o, s.heap.get? b = some o → h'.get? b = some o) → M ∈ ns → (∀ a, a ∈ ns → a ≤ M) → Q (.int M t') { s with heap := h', toks := tk }) : wpAny (model prog w) A (call (.builtin "max") [.ref l]) Q E s := by
  obtain ⟨xs, e⟩ := hi.allInts.items
  have hn : numsOf (intItems xs).toList = ns := by rw [← e]; exact hi.numsOf
  rw [nums_intItems] at hn
  subst hn
  rw [e] at hl
  have hsz : 0 < xs.size := by simpa using hne
  refine max_intTuple hh hl hsz fun v h' tk hv hk => ?_
  obtain ⟨t, rfl⟩ := intItems_at hv
  obtain ⟨h1, h2⟩ := argBest_gt (numAt xs) (xs.size - 1)
  refine h h' tk _ t hk ?_ fun a ha => ?_
  · rw [numAt_eq]; exact PySem.getD_mem (by rw [List.length_map, Array.length_toList]; omega)
  · obtain ⟨j, hj, rfl⟩ := mem_getD ha
    rw [List.length_map, Array.length_toList] at hj
    rw [← numAt_eq]; exact h2 j (by omega)
end
def rMaxT (K : PySem.W.Frag) : List V → Hp → VK → Prop := fun vs H Q => ∃ (a : Addr) (ns : List Int), vs = [V.ref a] ∧ SqT K H a (ns.map V.int) ∧ 0 < ns.length ∧ ∀ m, m ∈ ns → (∀ y, y ∈ ns → y ≤ m) → Q (.int m) H
theorem cr_maxT {X : Cx} (hc : X.calm = true) : CallR X (.builtin "max") (rMaxT X.K) := by
  intro pins s σ H vs us Q I r h
  obtain ⟨a, ns, rfl, hs, hne, q⟩ := h
  obtain ⟨its, rv, hl, _⟩ := I.tuple hs
  rw [Vals.ref1 r]
  exact max_rawT (I.ok.hd hc) hl rv.ints hne fun h' tk m t' hk h1 h2 => ⟨.int _, H, I.kept hk, ⟨_, rfl⟩, q m h1 h2⟩
/-! ### a def by its name -/
structure Def (P : Program) (w : World) (K : PySem.W.Frag) (mg : Str → Option Value) (base : Heap) (x : Str) (k : Nat) (ps : List Str) (sp : Sp) : Prop where
  ex : ∃ (f : Addr) (fd : FuncData), FnOk P w K mg base CX0 k f fd ps sp ∧ mg x = some (.ref f) ∧ PySem.W.keepIn K (.ref f) = true ∧ Binds K fd ps []
theorem Def.mono {P : Program} {w : World} {K : PySem.W.Frag} {mg : Str → Option Value} {base : Heap} {x : Str} {j k : Nat} {ps : List Str} {sp : Sp} (D : Def P w K mg base x j ps sp) (h : j ≤ k) : Def P w K mg base x k ps sp := by
  obtain ⟨f, fd, F, r⟩ := D.ex
  exact ⟨f, fd, F.mono h, r⟩
theorem pe_c {X : Cx} {x : Str} {k : Nat} {ps : List Str} {sp : Sp} {e : Expr} {es : List Expr} {t : TA} {p pos : Pos} (D : Def X.prog X.w X.K X.mg X.base x k ps sp) (hr : Room k X.A) (ha : PA X (e :: es) t) (hg : Gl X x := by rfl) (hdb : (x == ("__debug__" : Str)) = false := by decide)
    (he : starEach (e :: es) X.env = (false, eval e X.env) :: starEach es X.env := by rfl) (hpl : (backTo pos (starEach es X.env)).any (·.1) = false := by rfl) : PE X (.Call (.Name x p) (e :: es) [] pos) (tCall sp [] E0 t) := by
  obtain ⟨f, fd, F, m, kp, b⟩ := D.ex
  exact pe_call F hr hg m kp b .nil pass0 ha hdb he hpl
end Mint


namespace Mint
open PySem PySem.Spec PyProof.Rows L2 GxR Gx RZ

/-- a list comprehension over zip of two tuples of one length -/
theorem lc_zipT {K : PySem.W.Frag} {a b : Addr} {xs ys : List V} {g : TG} {tt : TT} {te : TE} {vs : List Nat} {σ : L2.St} {H1 : Hp} {D : Addr} {Qd : Hp → Prop} (hlen : xs.length = ys.length) (Pv : Nat → Hp → Prop) (h0 : Pv 0 (upd H1 D (.lst []))) (hl : ∀ i H, i ≤ xs.length → Pv i H → SqT K H a xs ∧ SqT K H b ys)
    (hs : ∀ i x y T H, xs[i]? = some x → ys[i]? = some y → Pv i H → H T = none → g (.ref T) (wipe σ vs) (upd H T (.tup [x, y])) fun σ2 H2 => wipe σ2 vs = wipe σ vs ∧ tt σ2 H2 fun b H3 =>
      if b = true then te σ2 H3 fun y H4 => ∃ acc, H4 D = some (.lst acc) ∧ acc.length < sizeLine ∧ Pv (i + 1) (upd H4 D (.lst (acc ++ [y]))) else Pv (i + 1) H3) (hd : ∀ H, Pv xs.length H → Qd H) :
    ∃ W : Nat → Nat → Hp → Prop, (∃ m, W 0 m (upd H1 D (.lst []))) ∧ ∀ i m H, W i m H →
      ((ItzT K a b).stop i H ∧ Qd H) ∨ ((ItzT K a b).go i H ∧ ∃ Nx : Hp → Prop, (∀ H', Nx H' → ∃ m', m' < m ∧ W (i + 1) m' H') ∧ ∀ x H', (ItzT K a b).yld i H x H' → g x (wipe σ vs) H' fun σ2 H2 => wipe σ2 vs = wipe σ vs ∧ tt σ2 H2 fun b H3 =>
        if b = true then te σ2 H3 fun y H4 => ∃ acc, H4 D = some (.lst acc) ∧ acc.length < sizeLine ∧ Nx (upd H4 D (.lst (acc ++ [y]))) else Nx H3) := by
  refine ⟨fun i m H => m = xs.length - i ∧ i ≤ xs.length ∧ Pv i H, ⟨xs.length, by simp, Nat.zero_le _, h0⟩, ?_⟩
  rintro i m H ⟨rfl, hi, p⟩
  obtain ⟨qx, qy⟩ := hl i H hi p
  by_cases hlt : i < xs.length
  · have hx : xs[i]? = some xs[i] := List.getElem?_eq_getElem hlt
    have hlt2 : i < ys.length := by omega
    have hy : ys[i]? = some ys[i] := List.getElem?_eq_getElem hlt2
    refine .inr ⟨⟨xs, ys, _, _, qx, qy, hx, hy⟩, Pv (i + 1), fun H' p' => ⟨xs.length - (i + 1), by omega, rfl, hlt, p'⟩, fun v H' y => ?_⟩
    obtain ⟨T, x', y', rfl, hT, rfl, f1, f2⟩ := y
    exact hs i x' y' T H (f1 xs qx) (f2 ys qy) p hT
  · have e : i = xs.length := by omega
    subst e
    exact .inl ⟨⟨xs, ys, qx, qy, Or.inl (Nat.le_refl _)⟩, hd H p⟩

/-! ### len(set(texts)), any number of them -/
def ddS (σ : List Str) (x : Str) : List Str := if σ.any (· == x) then σ else σ ++ [x]
def dedup (xs : List Str) : List Str := xs.foldl ddS []
theorem ddS_any (σ : List Str) (v k : Str) : (ddS σ v).any (· == k) = (σ.any (· == k) || decide (k = v)) := by
  unfold ddS
  by_cases h : σ.any (· == v) = true
  · rw [if_pos h]
    by_cases e : k = v
    · subst e; rw [h]; simp
    · simp [e]
  · rw [if_neg h, List.any_append]
    by_cases e : k = v
    · subst e; simp
    · have hb : (v == k) = false := by simpa [beq_iff_eq] using (fun h' : v = k => e h'.symm)
      simp [hb, e]
theorem ddS_length (σ : List Str) (v : Str) : (ddS σ v).length = if σ.any (· == v) then σ.length else σ.length + 1 := by
  unfold ddS; split <;> simp
theorem dedup_take {xs : List Str} {i : Nat} (h : i < xs.length) : dedup (xs.take (i + 1)) = ddS (dedup (xs.take i)) xs[i] := by
  unfold dedup
  rw [List.take_add_one, List.getElem?_eq_getElem h, Option.toList_some, List.foldl_append]
  rfl
theorem fold_le : ∀ (xs σ : List Str), (xs.foldl ddS σ).length ≤ σ.length + xs.length
  | [], σ => Nat.le_refl _
  | x :: xs, σ => by
    have h1 := fold_le xs (ddS σ x)
    have h2 := ddS_length σ x
    rw [List.foldl_cons, List.length_cons]
    split at h2 <;> omega
theorem dedup_le (xs : List Str) : (dedup xs).length ≤ xs.length := by
  have := fold_le xs []
  simpa [dedup] using this

/-- what set(xs) comes to, xs a list: its filling loop, from the empty set at S over the iterator behind it -/
def SetLoop (prog : Program) (w : World) (A : Around) (l S : Addr) (items : Array Value) (good : Shared → Prop) (E : Value → Shared → Prop) : Prop := ∀ s1 : Shared,
  (∃ led : Bool, s1.heap.get? S = some { cls := .type "set", dict := none, data := .set #[] 0 (.fresh 0 0 led) }) → s1.heap.IsListIter (S + 1) l 0 → s1.heap.IsList l items →
  codeAny (model prog w) A (.builtin "set.update.loop" ⟨[.ref S, .ref (S + 1)], []⟩) (wants (fun r s2 => r = .none ∧ s2.gens = s1.gens ∧ s2.drawn = s1.drawn ∧ s2.os = s1.os ∧ good s2 ∧ ∀ b o, b < S → s1.heap.get? b = some o → s2.heap.get? b = some o) E) s1
section
variable {prog : Program} {w : World} {A : Around} {E : Value → Shared → Prop} {s : Shared}
set_option maxHeartbeats 8000000 in
theorem set_of_list {l : Addr} {items : Array Value} {good : Shared → Prop} {Q : Value → Shared → Prop} (hl : s.heap.IsList l items) (loop : SetLoop prog w A.in1.in1 l s.heap.objs.size items good E)
    (done : ∀ (h' : Heap) (tk : Nat), good { s with heap := h', toks := tk } → (∀ b o, s.heap.get? b = some o → h'.get? b = some o) → Q (.ref s.heap.objs.size) { s with heap := h', toks := tk }) :
    wpAny (model prog w) A (call (.type "set") [.ref l]) Q E s := by
  have hlS : l < s.heap.objs.size := let ⟨_, e, _⟩ := hl; Heap.lt_size e
  obtain ⟨_, _, hmro⟩ := PySem.F.called_set.mro
  have hm := PySem.F.called_set.made; have hs := PySem.F.called_set.sub; have hn := PySem.F.called_set.notType; have hcr := PySem.F.called_set.canCreate; have hct := PySem.F.typeCall_set_1 (.ref l)
  refine wpAny_call (codeAny_of_tree (show wpAny _ _ (callAny (.type "set") _) _ _ _ from wpAny_pure ⟨Code.quiet_builtin _ (by decide +kernel), codeAny_builtin PySem.F.entry_type_call ?_⟩))
  rw [Around.under_plain (weight_type_call_type "set" [.ref l] []) rfl]
  repeat (any_goals (first | assumption | wp_step))
  refine codeAny_mono (code_set_new_1 (.ref l) (E := E) (Q₁ := fun u s₁ => u = .ref s.heap.objs.size ∧ ∃ led : Bool, s₁ = { s with heap := s.heap.push { cls := .type "set", dict := none, data := .set #[] 0 (.fresh 0 0 led) } }) fun led => ⟨rfl, led, rfl⟩) fun r s₁ hr => ?_
  match r, hr with
  | .error e, hr => exact hr
  | .ok .next, hr => exact hr.elim
  | .ok .brk, hr => exact hr.elim
  | .ok .cont, hr => exact hr.elim
  | .ok (.ret u), ⟨eu, led, es⟩ =>
  subst eu es
  have hT : Shared.TypeIs { s with heap := s.heap.push { cls := .type "set", dict := none, data := .set #[] 0 (.fresh 0 0 led) } } (.ref s.heap.objs.size) "set" := ⟨_, Heap.get?_push_size _ rfl, rfl⟩
  have hli := PySem.F.called_set.init.lookup; have hbi := PySem.F.called_set.init.bind (.ref s.heap.objs.size)
  repeat (any_goals (first | assumption | wp_step))
  refine codeAny_mono (codeAny_call_builtin (R := wants (fun r s₂ => r = .none ∧ ∃ h' tk, s₂ = { s with heap := h', toks := tk } ∧ good s₂ ∧ ∀ b o, s.heap.get? b = some o → h'.get? b = some o) E) PySem.F.called_set.init.plain PySem.F.entry_set_init (check_set_init_1 hT ?_)) fun r s₂ hr => ?_
  · obtain ⟨⟨ocls, odict, odata, oslots⟩, hol, hcl, nl, hdl⟩ := hl
    simp only at hcl hdl
    subst hcl hdl
    have e1 := PySem.F.sub_list_set; have e2 := PySem.F.sub_list_frozenset; have e3 : (Value.type "list" == Value.type "dict") = false := by decide
    have ho1 : (s.heap.push { cls := .type "set", dict := none, data := .set #[] 0 (.fresh 0 0 led) }).get? l = some { cls := .type "list", dict := odict, data := .seq items nl, slots := oslots } := Heap.get?_push_of_some _ hol
    have hL1 : (s.heap.push { cls := .type "set", dict := none, data := .set #[] 0 (.fresh 0 0 led) }).IsList l items := ⟨_, ho1, rfl, nl, rfl⟩
    unfold Builtin.«set.__init__» noKeywords Builtin.Frozenset.updateFrom
    generalize hPI : pyIter = PI
    wp_walk
    subst hPI
    refine wpAny_pyIter_list hL1 (wpAny_bind (wpAny_runValue ?_))
    have hz : (s.heap.push { cls := .type "set", dict := none, data := .set #[] 0 (.fresh 0 0 led) }).objs.size = s.heap.objs.size + 1 := Heap.size_push ..
    have key := loop { s with heap := (s.heap.push { cls := .type "set", dict := none, data := .set #[] 0 (.fresh 0 0 led) }).push { cls := .type "list_iterator", data := .fields #[.ref l, .int 0 0] } }
      ⟨led, Heap.get?_push_of_some _ (Heap.get?_push_size _ rfl)⟩ ⟨_, by rw [← hz]; exact Heap.get?_push_size _ rfl, rfl, rfl⟩ (hL1.push _)
    rw [hz]
    refine codeAny_mono key fun r s2 hr => ?_
    match r, hr with
    | .error e, hr => exact hr
    | .ok .next, hr => exact hr.elim
    | .ok .brk, hr => exact hr.elim
    | .ok .cont, hr => exact hr.elim
    | .ok (.ret u), ⟨eu, eg, ed, eo, gd, kp⟩ =>
    obtain ⟨h2, g2, d2, t2, o2⟩ := s2
    simp only at eg ed eo
    subst eg ed eo
    refine wpAny_pure (wpAny_pure ⟨rfl, h2, t2, rfl, gd, fun b o e => kp b o (Heap.lt_size e) ?_⟩)
    exact Heap.get?_push_of_some _ (Heap.get?_push_of_some _ e)
  · match r, hr with
    | .error e, hr => exact hr
    | .ok .next, hr => exact hr.elim
    | .ok .brk, hr => exact hr.elim
    | .ok .cont, hr => exact hr.elim
    | .ok (.ret u), ⟨eu, h2, t2, es, gd, kp⟩ =>
    subst eu es
    repeat (any_goals (first | assumption | wp_step))
    exact done h2 t2 gd kp
/-- the filling loop, over texts -/
theorem set_loop_strs {l S : Addr} {items : Array Value} {xs : List Str} (hh : A.handled = none) (hi : PyProof.Rows.StrsAre items.toList xs) (hlS : l < S) (hb : xs.length + 1 < scanBound) :
    SetLoop prog w A l S items (fun s2 => s2.heap.SetOf (PySem.strKind prog w) S (fun k => (dedup xs).any (· == k)) (dedup xs).length) E := by
  intro s1 ⟨led, hS⟩ hit hl
  have hn : xs.length = items.size := by rw [← StrsAre.len_eq hi, Array.length_toList]
  have W := (Walks.list (prog := prog) (w := w) (A := A.in1) hh (S + 1) l (show l ≠ S + 1 from Nat.ne_of_lt (Nat.lt_succ_of_lt hlS)) items)
  have hSw : S ∉ [S + 1] := by simp
  -- one turn after another
  have go : ∀ (k i : Nat) (s : Shared), items.size - i = k → i ≤ items.size → (s.heap.IsListIter (S + 1) l i ∧ s.heap.IsList l items) → s.heap.SetOf (PySem.strKind prog w) S (fun k => (dedup (xs.take i)).any (· == k)) (dedup (xs.take i)).length →
      s.gens = s1.gens → s.drawn = s1.drawn → s.os = s1.os → (∀ b o, b < S → s1.heap.get? b = some o → s.heap.get? b = some o) →
      codeAny (model prog w) A (.builtin "set.update.loop" ⟨[.ref S, .ref (S + 1)], []⟩) (wants (fun r s2 => r = .none ∧ s2.gens = s1.gens ∧ s2.drawn = s1.drawn ∧ s2.os = s1.os ∧ s2.heap.SetOf (PySem.strKind prog w) S (fun k => (dedup xs).any (· == k)) (dedup xs).length ∧ ∀ b o, b < S → s1.heap.get? b = some o → s2.heap.get? b = some o) E) s := by
    intro k
    induction k with
    | zero =>
      intro i s hk hle st hset eg ed eo kp
      have ei : i = items.size := by omega
      subst ei
      refine codeAny_builtin PyProof.Rows.F.entry_set_update_loop ?_; rw [Around.under_plainId PyProof.Rows.F.plain_set_update_loop _]
      show wpAny _ A.in1 (pyNext (.ref (S + 1)) >>= _) _ _ s
      refine wpAny_bind (W.done s _ _ st fun h' tk hk => ?_)
      refine wpAny_pure (show _ ∧ _ from ⟨rfl, eg, ed, eo, ?_, fun b o hb e => hk b o (fun z => absurd (List.mem_singleton.mp z) (Nat.ne_of_lt (Nat.lt_succ_of_lt hb))) (kp b o hb e)⟩)
      rw [← hn, List.take_length] at hset
      obtain ⟨o, es, ep, t, ho, r⟩ := hset
      exact ⟨o, es, ep, t, hk S o hSw ho, r⟩
    | succ k ih =>
      intro i s hk hle st hset eg ed eo kp
      have hlt : i < items.size := by omega
      have hltx : i < xs.length := by omega
      refine codeAny_builtin PyProof.Rows.F.entry_set_update_loop ?_; rw [Around.under_plainId PyProof.Rows.F.plain_set_update_loop _]
      show wpAny _ A.in1 (pyNext (.ref (S + 1)) >>= _) _ _ s
      refine wpAny_bind (W.item i s _ _ hlt st fun v h' tk hv st' hk => ?_)
      obtain ⟨t, ev⟩ := SS.strs_at hi i v (by rw [Array.getElem?_toList]; exact hv)
      have eg' : xs.getD i Str.empty = xs[i] := by simp [List.getD_eq_getElem?_getD, hltx]
      rw [eg'] at ev
      subst ev
      have hset' : h'.SetOf (PySem.strKind prog w) S (fun k => (dedup (xs.take i)).any (· == k)) (dedup (xs.take i)).length := by
        obtain ⟨o, es, ep, t, ho, r⟩ := hset
        exact ⟨o, es, ep, t, hk S o hSw ho, r⟩
      show wpAny _ A.in1 (holding [Value.str xs[i] t] (setAdd S (.str xs[i] t)) >>= _) _ _ _
      refine wpAny_bind (wpAny_holding ?_); unfold setAdd; refine wpAny_holding (wpAny_bind ((PySem.strKind prog w).pyHash (k := xs[i]) (strKind_is _ _ _ _) ?_))
      have hroom : (dedup (xs.take i)).length + 1 < scanBound := by
        have q := dedup_le (xs.take i)
        rw [List.length_take] at q
        omega
      refine wpAny_setAddHashed_of (knd := PySem.strKind prog w) (s := { s with heap := h', toks := tk + 1 }) (strKind_is _ _ _ _) rfl hset' hroom fun h2 sb hset2 => ?_
      have neS : ∀ b o, b ≠ S → h'.get? b = some o → h2.get? b = some o := fun b o hb e => (sb.2 b hb).trans e
      refine wpAny_pure ⟨plainId_quiet PyProof.Rows.F.plain_set_update_loop _, ih (i + 1) _ (by omega) hlt (W.frame _ h' h2 st' fun b hbm o e => neS b o ?_ e) (SetOf_congr hset2 (fun z => ?_) ?_) eg ed eo fun b o hb e => neS b o (Nat.ne_of_lt hb) (hk b o (fun z => absurd (List.mem_singleton.mp z) (Nat.ne_of_lt (Nat.lt_succ_of_lt hb))) (kp b o hb e))⟩
      · rcases List.mem_cons.mp hbm with z | z
        · rw [z]; exact Nat.succ_ne_self S
        · rw [List.mem_singleton.mp z]; exact Nat.ne_of_lt hlS
      · rw [dedup_take hltx, ddS_any]
      · rw [dedup_take hltx, ddS_length]
  refine go items.size 0 s1 (Nat.sub_zero _) (Nat.zero_le _) ⟨hit, hl⟩ ?_ rfl rfl rfl fun _ _ _ e => e
  exact SetOf_congr ((PyProof.Rows.setObjOf_fresh (knd := PySem.strKind prog w) led).setOf hS (by unfold scanBound; omega)) (fun _ => rfl) rfl
end
def tLenSetN (K : PySem.W.Frag) (ta : TE) : TE := fun σ H Q => ta σ H fun x H1 => ∃ l, ∃ xs : List Str, x = .ref l ∧ SqL K H1 l (xs.map V.str) ∧ xs.length ≤ 1000 ∧ Q (.int (dedup xs).length) H1
theorem pe_lenSetN {X : Cx} {a : Expr} {ta : TE} {p p2 q pos : Pos} (hc : X.calm = true) (hg : Gl X "len") (hm : X.mg "len" = none) (hg2 : Gl X "set") (hm2 : X.mg "set" = none) (ha : PE X a ta)
    (na : starEach [a] X.env = (false, eval a X.env) :: starEach [] X.env := by rfl) : PE X (.Call (.Name "len" p) [.Call (.Name "set" p2) [a] [] q] [] pos) (tLenSetN X.K ta) := by
  refine ⟨fun pins s σ H Q I h => ?_⟩
  refine Call_ (ld_blt I hg hm PySem.boot_len ?_)
  refine PyProof.Rows.callWith_builtin1 (PyProof.Rows.args_cons ?_ rfl) rfl rfl
  refine Call_ (ld_blt I hg2 hm2 boot_set ?_)
  refine PyProof.Rows.callWith_type1 (PyProof.Rows.args_cons (thn (ha.run pins s σ H _ I h) fun v s1 ⟨x, H1, I1, r1, q1⟩ => PyProof.Rows.args_nil ?_) na) na rfl
  obtain ⟨l, xs, rfl, hq, h1, q1⟩ := q1
  cases r1
  obtain ⟨its, r, pl, hz⟩ := I1.list hq
  obtain ⟨ol, hol, _⟩ := id pl.isList
  refine set_of_list pl.isList (set_loop_strs (I1.ok.hd hc) (by simpa using strsAre_of r) (Heap.lt_size hol) (by unfold scanBound; omega)) fun h' tk hS hk => PyProof.Rows.args_nil ?_
  obtain ⟨o, es, ep, t, ho, hex, hd, _, _, _, hf, hn⟩ := hS
  have I2 : Inv X pins σ H1 { s1 with heap := h', toks := tk } := I1.kept hk
  have hle := dedup_le xs
  refine call_len_set ho hex hd hf (by rw [hn] <;> omega) ⟨.int (dedup xs).length, H1, I2.tok _, ⟨_, by rw [hn]⟩, q1⟩
end Mint


namespace Mint
open PySem PySem.Spec PyProof.Rows L2 GxR Gx RZ

/-! ### enumerate(tuple), one argument -/
theorem enum_new1 {v : Value} {o : Obj} {H : Heap → Prop} (B : Begins v o H) :
    Meets (Builtin.«enumerate.__new__» ⟨[.type "enumerate", v], []⟩) (fun _ R s => H s.heap ∧ R (.ok (.ret (.ref (s.heap.push o).objs.size))) { s with heap := (s.heap.push o).push { cls := .type "enumerate", data := .fields #[.none, .bool false, .ref s.heap.objs.size, rawInt 0, .none, .none] } }) :=
  .of_wp fun prog w A R s ⟨h1, h2⟩ => by
    have hs := sub_enumerate
    obtain ⟨hp, g, d, tk, os⟩ := s
    have it : ∀ {A' : Around} {E : Value → Shared → Prop} {Q : Value → Shared → Prop}, Q (.ref hp.objs.size) ⟨hp.push o, g, d, tk, os⟩ → wpAny (model prog w) A' (pyIter v) Q E ⟨hp, g, d, tk, os⟩ := fun q => B.iter prog w _ _ _ _ h1 q
    wp_walk using it
    refine wpAny_stack_any fun _ => wpAny_pure ?_
    split
    · rename_i c _ _ _ _ _
      cases (c == Value.type "enumerate") <;> (wp_walk using it; exact ⟨_, rfl, h2⟩)
    · wp_walk using it; exact ⟨_, rfl, h2⟩
section
variable {prog : Program} {w : World} {A : Around} {E : Value → Shared → Prop} {s : Shared}
theorem call_enum_tuple {l : Addr} {items : Array Value} {Q : Value → Shared → Prop} (hl : s.heap.IsTuple l items)
    (h : ∀ h', IsEnum h' (s.heap.objs.size + 1) s.heap.objs.size 0 .none → h'.IsTupleIter s.heap.objs.size l 0 → (∀ b o, s.heap.get? b = some o → h'.get? b = some o) → Q (.ref (s.heap.objs.size + 1)) { s with heap := h' }) :
    wpAny (model prog w) A (call (.type "enumerate") [.ref l]) Q E s := by
  refine callType_new F.called_enumerate (by decide) (F.typeCall_enumerate_1 _) (F.newCall_enumerate_1 _) (fun obj => F.args_object_init_2 obj _) F.entry_enumerate_new (enum_new1 (begins_tuple l items)) ⟨hl, ?_⟩
  have hz : ∀ o : Obj, (s.heap.push o).objs.size = s.heap.objs.size + 1 := fun o => Heap.size_push ..
  show _ ∧ _
  rw [hz]
  have he := Heap.get?_push_size (s.heap.push { cls := .type "tuple_iterator", data := .fields #[.ref l, .int 0 0] }) (o := { cls := .type "enumerate", data := .fields #[.none, .bool false, .ref s.heap.objs.size, rawInt 0, .none, .none] }) rfl
  rw [hz] at he
  exact ⟨⟨_, he, rfl⟩, h _ he ⟨_, Heap.get?_push_of_some _ (Heap.get?_push_size _ rfl), rfl, rfl⟩ fun b o x => Heap.get?_push_of_some _ (Heap.get?_push_of_some _ x)⟩
end
/-- the tuple at a, each item in a new pair with its number -/
def IteT (K : PySem.W.Frag) (a : Addr) : It :=
  ⟨fun i H => ∃ (xs : List V) (x : V), SqT K H a xs ∧ xs[i]? = some x, fun i H v H' => ∃ T x, v = .ref T ∧ H T = none ∧ H' = upd H T (.tup [.int (i : Nat), x]) ∧ ∀ xs, SqT K H a xs → xs[i]? = some x, fun i H => ∃ xs : List V, SqT K H a xs ∧ xs.length = i⟩
theorem turn_enumT {P : Program} {w : World} {K : PySem.W.Frag} {elts : List Expr} {kk : Nat} {tpos : Pos} (a e it : Addr) :
    Turn P w K (.Tuple elts kk tpos) (IteT K a) [e, it] e (fun i h => (∃ old, IsEnum h e it ((i : Nat) : Int) old) ∧ h.IsTupleIter it a i ∧ e ≠ it) where
  mem := List.mem_cons_self
  obj := fun i h st b hb => by
    obtain ⟨⟨old, he⟩, ⟨o, ho, _, hd⟩, _⟩ := st
    rcases List.mem_cons.mp hb with z | z
    · subst z; exact ⟨_, he, fun v q => by cases q⟩
    · exact ⟨o, by rw [List.mem_singleton.mp z]; exact ho, fun v q => by rw [hd] at q; cases q⟩
  keep := fun i h h' ⟨⟨old, he⟩, hi, hne⟩ k => ⟨⟨old, k e List.mem_cons_self _ he⟩, hi.at fun o q => k it (List.mem_cons_of_mem _ List.mem_cons_self) o q, hne⟩
  item := by
    intro X hP hw hK hc i pins s σ H E I hf ⟨⟨old, he⟩, hit, hne⟩ ⟨xs, x, hq, hx⟩
    subst hP hw hK
    obtain ⟨its, rv, p, hz⟩ := I.tuple hq
    obtain ⟨u, hu, ru⟩ := rv.get hx
    obtain ⟨oa, ha1, ha2, _⟩ := id p
    obtain ⟨oi, hi1, hi2, _⟩ := id hit
    have nae : e ≠ a := fun z => by
      rw [← z, show s.heap.get? e = _ from he] at ha1
      cases ha1
      exact absurd (Value.type.inj ha2) (by decide)
    have nai : a ≠ it := fun z => by
      rw [z, hi1] at ha1
      cases ha1
      rw [hi2] at ha2
      exact absurd (Value.type.inj ha2) (by decide)
    have W := WalksT.enumFrom (prog := X.prog) (w := X.w) (A := X.A) 0 (Draws.tuple (A := X.A.in1) (I.ok.hd hc) it a nai its.toArray) e hne (by simp [hne, nae]) (by simp)
    have hlt : i < its.toArray.size := by
      have := (List.getElem?_eq_some_iff.mp hu).1
      simpa using this
    have z0 : ∀ j : Nat, (0 : Int) + (j : Int) = (j : Int) := fun j => Int.zero_add _
    refine W.item i s _ _ hlt ⟨⟨old, by rw [z0]; exact he⟩, hit, p⟩ fun T vals h' tk ⟨t, y, hy, ev⟩ hT htup mid hk => ⟨_, rfl, ?_⟩
    refine W.go elts kk tpos i T { s with heap := h', toks := tk } _ _ mid fun h2 st2 hk2 => ?_
    have ey : y = u := by
      have hy' : its.toArray[i]? = some y := hy
      rw [List.getElem?_toArray, hu] at hy'
      exact (Option.some.inj hy').symm
    subst ey ev
    have apart := W.apart i T h' mid
    have kept : ∀ b ob, b ∉ [e, it] → s.heap.get? b = some ob → h2.get? b = some ob := fun b ob hb q => hk2 b ob hb (hk b ob hb q)
    obtain ⟨ot, hot, hct, nt, hdt⟩ := htup
    have hT2 : h2.get? T = some ot := hk2 T ot apart hot
    have new : ObjOk X.prog X.w (upd H T (.tup [.int (i : Nat), x])) h2 T (.tup [.int (i : Nat), x]) :=
      ⟨by show 2 ≤ sizeLine; decide, [.int (0 + (i : Int)) t, y], .cons ⟨t, by rw [z0]⟩ (.cons ru .nil), ⟨ot, hT2, hct, nt, hdt⟩⟩
    have J := I.turnedNew (t' := tk) (ch := [e, it]) kept hf hT new
    have low : ∀ b ∈ [e, it], b < s.heap.objs.size := fun b hb => by
      rcases List.mem_cons.mp hb with z | z
      · rw [z]; exact Heap.lt_size he
      · rw [List.mem_singleton.mp z]; exact Heap.lt_size hi1
    refine ⟨.ref T, _, J, rfl, ⟨T, x, rfl, I.hok.fresh hT, rfl, fun ys hy => by rw [I.tuple_inj hy hq]; exact hx⟩, ?_, fun b hb => ?_⟩
    · obtain ⟨⟨old2, he2⟩, hit2, _⟩ := st2
      exact ⟨⟨old2, by rw [z0] at he2; exact he2⟩, hit2, hne⟩
    · rw [upd_ne (Nat.ne_of_lt (Nat.lt_of_lt_of_le (low b hb) hT))]
      exact (hf b hb).1
  done := by
    intro X hP hw hK hc i pins s σ H E I hf ⟨⟨old, he⟩, hit, hne⟩ ⟨xs, hq, hx⟩
    subst hP hw hK
    obtain ⟨its, rv, p, hz⟩ := I.tuple hq
    obtain ⟨oa, ha1, ha2, _⟩ := id p
    obtain ⟨oi, hi1, hi2, _⟩ := id hit
    have nai : a ≠ it := fun z => by
      rw [z, hi1] at ha1
      cases ha1
      rw [hi2] at ha2
      exact absurd (Value.type.inj ha2) (by decide)
    obtain ⟨f0, f1, f2, f3, f4, f5⟩ := hf it (List.mem_cons_of_mem _ List.mem_cons_self)
    have hn : its.toArray.size = i := by rw [← hx, List.size_toArray, ← rv.length]
    refine wpAny_pyNext_enum_endD (Draws.tuple (A := X.A.in1) (I.ok.hd hc) it a nai its.toArray) he ⟨by rw [hn]; exact hit, p⟩ fun h' eb => ⟨rfl, I.turned (t' := s.toks) (fun b o hb q => eb b o hb q) f0 f1 f3 f4 f5⟩
  self := fun A i s Q E ⟨⟨_, he⟩, _⟩ h => wpAny_pyIter_enum he h
def iEnumT (K : PySem.W.Frag) (ta : TA) : TI := fun σ H R => ta σ H fun vs H1 => ∃ a xs, vs = [.ref a] ∧ SqT K H1 a xs ∧ R (IteT K a) H1
theorem pi_enumT {X : Cx} {e : Expr} {ta : TA} {p pos tpos : Pos} {elts : List Expr} {kk : Nat} (hg : Gl X "enumerate") (hm : X.mg "enumerate" = none) (ha : PA X [e] ta) (hs : starEach [e] X.env = [(false, eval e X.env)] := by rfl) :
    PI X (.Tuple elts kk tpos) (.Call (.Name "enumerate" p) [e] [] pos) (iEnumT X.K ta) := by
  refine ⟨fun pins s σ H R I h => Call_ (ld_blt I hg hm boot_enumerate (PyProof.Rows.callWith_type1 (thn (ha.run pos pins s σ H _ I h) fun us s1 ⟨vs, H1, I1, r1, a, xs, ex, hq, q⟩ => ?_) hs rfl))⟩
  subst ex
  obtain ⟨u, rfl, ru⟩ := vals1 r1
  cases ru
  obtain ⟨its, rv, p', hz⟩ := I1.tuple hq
  refine call_enum_tuple p' fun h' he hit hk => wpAny_pyIter_enum he ?_
  refine ⟨s1.heap.objs.size + 1, [s1.heap.objs.size + 1, s1.heap.objs.size], _, _, H1, rfl, I1.kept (t' := s1.toks) hk, turn_enumT a (s1.heap.objs.size + 1) s1.heap.objs.size, ⟨⟨.none, he⟩, hit, Nat.succ_ne_self _⟩, fun b hb => ?_, q⟩
  have hle : s1.heap.objs.size ≤ b := by
    rcases List.mem_cons.mp hb with z | z
    · rw [z]; exact Nat.le_add_right _ _
    · rw [List.mem_singleton.mp z]; exact Nat.le_refl _
  exact I1.fpOk hle (I1.hok.fresh hle)
/-- a loop over enumerate(tuple) -/
theorem for_enumT {K : PySem.W.Frag} {a : Addr} {xs : List V} {g : TG} {tb : TS} {D : Ends} {σ : L2.St} {H : Hp} (Pv : Nat → L2.St → Hp → Prop) (h0 : Pv 0 σ H) (hl : ∀ i σ H, i ≤ xs.length → Pv i σ H → SqT K H a xs)
    (hs : ∀ i x T σ H, xs[i]? = some x → Pv i σ H → H T = none → g (.ref T) σ (upd H T (.tup [.int (i : Nat), x])) fun σ2 H2 => tb { D with nx := Pv (i + 1), ct := Pv (i + 1), bk := D.nx } σ2 H2) (hd : ∀ σ H, Pv xs.length σ H → D.nx σ H) :
    ∃ W : Nat → Nat → L2.St → Hp → Prop, (∃ m, W 0 m σ H) ∧ ∀ i m σ H, W i m σ H →
      ((IteT K a).stop i H ∧ D.nx σ H) ∨ ((IteT K a).go i H ∧ ∃ N : L2.St → Hp → Prop, (∀ σ' H', N σ' H' → ∃ m', m' < m ∧ W (i + 1) m' σ' H') ∧ ∀ x H', (IteT K a).yld i H x H' → g x σ H' fun σ2 H2 => tb { D with nx := N, ct := N, bk := D.nx } σ2 H2) := by
  refine ⟨fun i m σ H => m = xs.length - i ∧ i ≤ xs.length ∧ Pv i σ H, ⟨xs.length, rfl, Nat.zero_le _, h0⟩, ?_⟩
  rintro i m σ H ⟨rfl, hi, p⟩
  have q := hl i σ H hi p
  rcases Nat.lt_or_ge i xs.length with hlt | hge
  · refine .inr ⟨⟨xs, xs[i], q, List.getElem?_eq_getElem hlt⟩, Pv (i + 1), fun σ' H' p' => ⟨xs.length - (i + 1), by omega, rfl, hlt, p'⟩, fun v H' ⟨T, x, ev, hT, eH, f⟩ => ?_⟩
    subst ev eH
    exact hs i x T σ H (f xs q) p hT
  · obtain rfl : i = xs.length := by omega
    exact .inl ⟨⟨xs, q, rfl⟩, hd σ H p⟩
end Mint


namespace Mint
open PySem PySem.Spec PyProof.Rows L2 GxR Gx

def top (i : Nat) : Stmt := PySem.Challenge.pw_mintlaw_k00_forms.main.body.getD i (.Pass ⟨0, 0, 0, 0⟩)
/-! ### the module's constants -/
def lettersS : Str := "abcdefghijklmnopqrstuvwxyz"
def signsS : Str := "abcdefghijklmnopqrstuvwxyz0123456789"
def reservedV : List V := [.str "kinds", .str "nothing", .str "endless", .str "x"]
structure Cst (K : PySem.W.Frag) (mg : Str → Option Value) : Prop where
  letters : ∃ t, mg "LETTERS" = some (.str lettersS t)
  signs : ∃ t, mg "NAME_SIGNS" = some (.str signsS t)
  reserved : ∃ a, mg "RESERVED" = some (.ref a) ∧ ∀ H, SqT K H a reservedV
  mostSigns : ∃ t, mg "MOST_SIGNS" = some (.int 12 t)
  mostKinds : ∃ t, mg "MOST_KINDS" = some (.int 6 t)
  mostMoves : ∃ t, mg "MOST_MOVES" = some (.int 8 t)
  mostUnits : ∃ t, mg "MOST_UNITS" = some (.int 1000 t)
  mostDepth : ∃ t, mg "MOST_DEPTH" = some (.int 30 t)
  endless : ∃ t, mg "ENDLESS" = some (.int (-1) t)

/-! ### is_integer -/
def fInteger : PyData → Bool
  | .int _ => true
  | _ => false
abbrev sIsInteger : Stmt := top 1
theorem scInteger : FnScope ["value"] ["value"] (defScope sIsInteger) := ⟨rfl, rfl, rfl, by decide +kernel, rfl, by decide +kernel, by decide +kernel⟩
section
variable {P : Program} {w : World} {K : PySem.W.Frag} {mg : Str → Option Value} {base : Heap} {f : Addr} {fd : FuncData}
theorem ok_integer (F : Fun K "is_integer" "is_integer" sIsInteger f fd) (G : Glb mg) : FnOk P w K mg base CX0 1 f fd ["value"] (spB K [] 1 (fun _ => True) fun ds => fInteger (ds.getD 0 .none)) := by
  refine F.ok scInteger (fun vs H Q E h => spB_len h) (fun cdv A outer s H vs Q E hr h => ?_)
  obtain ⟨ds, hds, hl, _, _, q⟩ := h
  match ds, hl, hds with
  | [d], _, .cons hd .nil =>
  refine ⟨_, pss_one (ps_ret (pe_and (pe_isaInt G 0) (pe_one (pe_not (pe_isaBool G 0))))), ?_⟩
  refine ⟨_, rfl, d, hd, _, rfl, ?_⟩
  have Q0 : Q (.bl (fInteger d)) H := q H (Ext.refl true H)
  cases d with
  | int i => exact ⟨_, rfl, _, hd, _, rfl, Q0⟩
  | bool i => exact ⟨_, rfl, _, hd, _, rfl, Q0⟩
  | _ => exact Q0
end

/-! ### is_name -/
def okSign (c : Nat) : Bool := decide (c ∈ signsS.cps.toList)
def fNameS (x : Str) : Bool := (decide ((1 : Int) ≤ x.length) && decide ((x.length : Int) ≤ 12)) && ((match x.cps.toList with | c :: _ => decide (c ∈ lettersS.cps.toList) | [] => false) && !inV (.str x) reservedV) && x.cps.toList.all okSign
def fName : PyData → Bool
  | .str x => fNameS x
  | _ => false
abbrev sIsName : Stmt := top 13
theorem scName : FnScope ["value"] ["value"] (defScope sIsName) := ⟨rfl, rfl, rfl, by decide +kernel, rfl, by decide +kernel, by decide +kernel⟩
section
variable {P : Program} {w : World} {K : PySem.W.Frag} {mg : Str → Option Value} {base : Heap} {f c T : Addr} {fd : FuncData}
/-- texts are not too long -/
def SmallStr : PyData → Prop
  | .str x => x.length ≤ sizeLine
  | _ => True
theorem ok_name (F : FunC K "is_name" "is_name" sIsName f fd c) (G : Glb mg) (C : Cst K mg) (TB : TabB base mg c T) : FnOk P w K mg base CX0 2 f fd ["value"] (spB K [T] 1 (fun ds => SmallStr (ds.getD 0 .none)) fun ds => fName (ds.getD 0 .none)) := by
  obtain ⟨t1, cLetters⟩ := C.letters
  obtain ⟨t2, cSigns⟩ := C.signs
  obtain ⟨a, cRes, hRes⟩ := C.reserved
  obtain ⟨t3, cMost⟩ := C.mostSigns
  refine F.ok scName (fun vs H Q E h => spB_len h) (fun A outer s H vs Q E hr h => ?_)
  obtain ⟨ds, hds, hl, hok, hT, q⟩ := h
  match ds, hl, hds with
  | [d], _, .cons hd .nil =>
  refine ⟨_, pss_cons (ps_if (PW.pt (pw_or (pt_not (pt_val (pe_isaStr G 0))) (pw_or1 (pt_not (pt_chain op_le op_le pe_int (pe_callB call_len_str (by rfl) G.len PySem.boot_len (pa_cons (pv 0) pa_nil)) (pe_gI cMost)))))) (pss_one (ps_ret pe_bl)) pss_nil)
    (pss_cons (ps_if (PW.pt (pw_or (pt_cmpR op_notIn_sign (pe_item_str (pv 0) pe_int (fun _ _ => rfl)) (pe_gS cLetters) rfl) (pw_or1 (pt_cmpR op_in_seq (pv 0) (pe_gR cRes) rfl)))) (pss_one (ps_ret pe_bl)) pss_nil)
    (pss_one (ps_ret (pe_allG (k := 0) (N := ["sign"]) (js := [none]) hr rfl G.all TB rfl ⟨rfl, rfl, rfl, rfl, rfl, rfl⟩ (pi_str (pv 0)) (fun _ _ _ _ _ _ => pg_name (i := 0) (by show (["sign"] : List Str).Nodup; decide) rfl (Or.inl rfl))
      (fun _ _ _ _ _ _ _ => pe_cmpR op_in_sign (pv 0) (pe_gS cSigns) rfl))))), ?_⟩
  refine ⟨_, rfl, d, hd, _, rfl, ?_⟩
  have Q0 : Q (.bl (fName d)) H := q H (Ext.refl true H)
  cases d with
  | str x =>
    cases hd
    have q' : ∀ H' b, ExtP H H' → fNameS x = b → Q (.bl b) H' := fun H' b e1 e2 => by rw [← e2]; exact q H' e1
    refine ⟨_, rfl, x, rfl, hok, _, _, rfl, rfl, _, rfl, ?_⟩
    refine ite2 (fun c1 => ?_) (fun c1 => ?_)
    · refine ⟨_, _, rfl, rfl, _, rfl, ?_⟩
      refine ite2 (fun c2 => ?_) (fun c2 => ?_)
      · refine q' H false (Ext.refl true H) ?_
        have c3 : decide ((x.length : Int) ≤ 12) = false := by simpa using c2
        unfold fNameS
        rw [c3, Bool.and_false, Bool.false_and, Bool.false_and]
      · have c3 : decide ((x.length : Int) ≤ 12) = true := by simpa using c2
        have c1' : (1 : Int) ≤ x.length := of_decide_eq_true c1
        have hx : x.cps.toList ≠ [] := fun z => by
          have e : x.length = x.cps.toList.length := by simp [Str.length]
          rw [e, z] at c1'
          simp at c1'
        match hc : x.cps.toList, hx with
        | ch :: cr, _ =>
        have h0 : x.cps[(0 : Int).toNat]? = some ch := by
          rw [← Array.getElem?_toList, hc]
          rfl
        refine ⟨_, rfl, x, 0, ch, rfl, rfl, Int.le_refl 0, by decide, by omega, h0, ch, lettersS, rfl, rfl, _, rfl, ?_⟩
        refine ite2 (fun c4 => ?_) (fun c4 => ?_)
        · refine q' H false (Ext.refl true H) ?_
          have c5 : decide (ch ∈ lettersS.cps.toList) = false := by simpa using c4
          unfold fNameS
          rw [hc]
          simp only [c5, Bool.false_and, Bool.and_false]
        · have c5 : decide (ch ∈ lettersS.cps.toList) = true := by simpa using c4
          refine ⟨_, rfl, a, reservedV, rfl, .inr (hRes H), rfl, rfl, _, rfl, ?_⟩
          refine ite2 (fun c6 => ?_) (fun c6 => ?_)
          · refine q' H false (Ext.refl true H) ?_
            have c7 : inV (.str x) reservedV = true := c6
            unfold fNameS
            rw [c7]
            simp only [Bool.not_true, Bool.and_false, Bool.false_and]
          · have c7 : inV (.str x) reservedV = false := by simpa using c6
            refine ⟨_, rfl, x, rfl, ?_⟩
            refine all_str x okSign [] rfl (hT T (List.mem_singleton.mpr rfl)) (fun cc H' e Qe hq => ⟨_, rfl, cc, signsS, rfl, rfl, hq H' (Ext.refl true H')⟩) fun H' e => q' H' _ e ?_
            unfold fNameS
            have c1'' : decide ((1 : Int) ≤ x.length) = true := c1
            rw [hc, c7, c1'', c3]
            simp only [c5, Bool.not_false, Bool.true_and, Bool.and_true]
    · refine ⟨_, rfl, q' H false (Ext.refl true H) ?_⟩
      have c3 : decide ((1 : Int) ≤ x.length) = false := by simpa using c1
      unfold fNameS
      rw [c3, Bool.false_and, Bool.false_and, Bool.false_and]
  | _ => exact Q0
end
end Mint


namespace Mint
open PySem PySem.Spec PyProof.Rows L2 GxR Gx

abbrev spInteger (K : PySem.W.Frag) : Sp := spB K [] 1 (fun _ => True) fun ds => fInteger (ds.getD 0 .none)
abbrev spName (K : PySem.W.Frag) (T : Addr) : Sp := spB K [T] 1 (fun ds => SmallStr (ds.getD 0 .none)) fun ds => fName (ds.getD 0 .none)

/-! ### are_integers -/
def okEntry (l : Int) : PyData → Bool
  | .int i => decide (l ≤ i)
  | _ => false
def fEntries (d : PyData) (w l : Int) : Bool := match d with
  | .tuple ds => decide ((ds.length : Int) = w) && ds.all (okEntry l)
  | _ => false
def spEntries (K : PySem.W.Frag) (Ps : List Addr) : Sp := fun vs H Q _ => ∃ (v : V) (d : PyData) (wd lo : Int), vs = [v, .int wd, .int lo] ∧ Dp K H v d ∧ Tabs Ps H ∧ ∀ H', ExtP H H' → Q (.bl (fEntries d wd lo)) H'
abbrev sEntries : Stmt := top 2
theorem scEntries : FnScope ["value", "width", "low"] ["value", "width", "low"] (defScope sEntries) := ⟨rfl, rfl, rfl, by decide +kernel, rfl, by decide +kernel, by decide +kernel⟩
section
variable {P : Program} {w : World} {K : PySem.W.Frag} {mg : Str → Option Value} {base : Heap} {f c T : Addr} {fd : FuncData}
theorem ok_entries (F : FunC K "are_integers" "are_integers" sEntries f fd c) (G : Glb mg) (TB : TabB base mg c T) (DI : Def P w K mg base "is_integer" 1 ["value"] (spInteger K)) :
    FnOk P w K mg base CX0 3 f fd ["value", "width", "low"] (spEntries K [T]) := by
  refine F.ok scEntries (fun vs H Q E h => ?_) (fun A outer s H vs Q E hr h => ?_)
  · obtain ⟨v, d, wd, lo, rfl, _⟩ := h
    rfl
  obtain ⟨v, d, wd, lo, rfl, hd, hT, q⟩ := h
  refine ⟨_, pss_cons (ps_if (PW.pt (pw_or (pt_not (pt_val (pe_isaTup G 0))) (pw_or1 (pt_cmpR op_ne (pe_callB call_len (by rfl) G.len PySem.boot_len (pa_cons (pv 0) pa_nil)) (pv 1) (nomark _))))) (pss_one (ps_ret pe_bl)) pss_nil)
    (pss_one (ps_ret (pe_allG (k := 1) (N := ["entry", "low"]) (js := [none, some 2]) hr rfl G.all TB rfl ⟨rfl, rfl, rfl, rfl, rfl, rfl⟩ (pi_tup (pv 0)) (fun _ _ _ _ _ _ => pg_name (i := 0) (by show (["entry", "low"] : List Str).Nodup; decide) rfl (Or.inl rfl))
      (fun _ _ _ _ _ _ hr' => pe_and (pe_c DI hr' (pa_cons (pv 0) pa_nil)) (pe_one (pe_cmpR op_ge (pv 0) (pv 1) (nomark _))))))), ?_⟩
  refine ⟨_, rfl, d, hd, _, rfl, ?_⟩
  cases hd with
  | @tup a xs ds hS hD =>
    have hl := dpAll_len hD
    refine ⟨_, rfl, _, _, rfl, .inr ⟨xs, hS, rfl⟩, _, rfl, rfl, _, rfl, ?_⟩
    refine ite2 (fun c1 => ?_) (fun c1 => ?_)
    · have e : fEntries (.tuple ds) wd lo = false := by
        have c2 : ¬ ((xs.length : Int) = wd) := by simpa using c1
        show (decide ((ds.length : Int) = wd) && ds.all (okEntry lo)) = false
        rw [← hl, decide_eq_false c2]
        rfl
      show Q (.bl false) H
      rw [← e]
      exact q H (Ext.refl true H)
    · have c2 : (xs.length : Int) = wd := by simpa using c1
      refine ⟨_, rfl, a, rfl, ⟨xs, hS⟩, ?_⟩
      refine all_tup (okEntry lo) [some (.int lo)] rfl (hT T (List.mem_singleton.mpr rfl)) hS hD (fun v d H' hmem e hd Qe hq => ?_) fun H' e => ?_
      · refine ⟨_, rfl, [d], .cons hd .nil, rfl, trivial, (fun _ z => by cases z), fun H2 e2 => ⟨_, rfl, ?_⟩⟩
        cases hd with
        | int i => exact ⟨_, rfl, _, rfl, i, lo, rfl, rfl, hq H2 e2⟩
        | non => exact hq H2 e2
        | bl b => exact hq H2 e2
        | str b => exact hq H2 e2
        | lst _ _ => exact hq H2 e2
        | tup _ _ => exact hq H2 e2
      · have e2 : fEntries (.tuple ds) wd lo = ds.all (okEntry lo) := by
          show (decide ((ds.length : Int) = wd) && ds.all (okEntry lo)) = _
          rw [← hl, decide_eq_true c2]
          rfl
        rw [← e2]
        exact q H' e
  | _ => exact q H (Ext.refl true H)
end
end Mint


namespace Mint
open PySem PySem.Spec PyProof.Rows L2 GxR Gx

/-! ### are_units -/
def okMost : PyData → Bool
  | .int i => decide (i ≤ 1000)
  | _ => false
def fUnits (d : PyData) (w : Int) : Bool := fEntries d w 0 && match d with
  | .tuple ds => ds.all okMost
  | _ => false
theorem ints_of {K : PySem.W.Frag} {H : Hp} {lo : Int} : ∀ {xs : List V} {ds : List PyData}, DpAll K H xs ds → ds.all (okEntry lo) = true → ∃ ns : List Int, xs = ns.map V.int ∧ ds = ns.map PyData.int
  | _, _, .nil, _ => ⟨[], rfl, rfl⟩
  | _, _, .cons (ds := ds) h t, e => by
    rw [List.all_cons, Bool.and_eq_true] at e
    obtain ⟨ns, e1, e2⟩ := ints_of t e.2
    cases h with
    | int i => exact ⟨i :: ns, by rw [e1]; rfl, by rw [e2]; rfl⟩
    | non => cases e.1
    | bl _ => cases e.1
    | str _ => cases e.1
    | lst _ _ => cases e.1
    | tup _ _ => cases e.1
theorem all_most {ns : List Int} {m : Int} (h1 : m ∈ ns) (h2 : ∀ y, y ∈ ns → y ≤ m) : (ns.map PyData.int).all okMost = decide (m ≤ 1000) := by
  rw [Bool.eq_iff_iff, List.all_eq_true, decide_eq_true_iff]
  constructor
  · intro h
    exact of_decide_eq_true (h (.int m) (List.mem_map.mpr ⟨m, h1, rfl⟩))
  · intro h d hd
    obtain ⟨y, hy, rfl⟩ := List.mem_map.mp hd
    exact decide_eq_true (Int.le_trans (h2 y hy) h)
def spUnits (K : PySem.W.Frag) (Ps : List Addr) : Sp := fun vs H Q _ => ∃ (v : V) (d : PyData) (wd : Int), vs = [v, .int wd] ∧ 0 < wd ∧ Dp K H v d ∧ Tabs Ps H ∧ ∀ H', ExtP H H' → Q (.bl (fUnits d wd)) H'
abbrev sUnits : Stmt := top 18
theorem scUnits : FnScope ["value", "width"] ["value", "width"] (defScope sUnits) := ⟨rfl, rfl, rfl, by decide +kernel, rfl, by decide +kernel, by decide +kernel⟩
section
variable {P : Program} {w : World} {K : PySem.W.Frag} {mg : Str → Option Value} {base : Heap} {f c T : Addr} {fd : FuncData}
theorem ok_units (F : Fun K "are_units" "are_units" sUnits f fd) (G : Glb mg) (C : Cst K mg) (DE : Def P w K mg base "are_integers" 3 ["value", "width", "low"] (spEntries K [T])) :
    FnOk P w K mg base CX0 4 f fd ["value", "width"] (spUnits K [T]) := by
  obtain ⟨t1, cMost⟩ := C.mostUnits
  refine F.ok scUnits (fun vs H Q E h => ?_) (fun cdv A outer s H vs Q E hr h => ?_)
  · obtain ⟨v, d, wd, rfl, _⟩ := h
    rfl
  obtain ⟨v, d, wd, rfl, hwd, hd, hT, q⟩ := h
  refine ⟨_, pss_one (ps_ret (pe_and (pe_c DE hr (pa_cons (pv 0) (pa_cons (pv 1) (pa_cons pe_int pa_nil)))) (pe_one (pe_cmpR op_le (pe_callB (cr_maxT rfl) rfl G.max (by decide +kernel) (pa_cons (pv 0) pa_nil)) (pe_gI cMost) (nomark _))))), ?_⟩
  refine ⟨_, rfl, _, rfl, v, d, wd, 0, rfl, hd, hT, fun H1 e1 => ⟨_, rfl, ?_⟩⟩
  have hd1 := e1.dp hd
  have q1 := q H1 e1
  unfold fUnits at q1
  cases hf : fEntries d wd 0 with
  | false =>
    rw [hf] at q1
    exact q1
  | true =>
    rw [hf, Bool.true_and] at q1
    cases hd1 with
    | @tup a xs ds hS hD =>
      have hf' : (decide ((ds.length : Int) = wd) && ds.all (okEntry 0)) = true := hf
      rw [Bool.and_eq_true] at hf'
      obtain ⟨ns, e2, e3⟩ := ints_of hD hf'.2
      subst e2 e3
      have hlen : 0 < ns.length := by
        have := of_decide_eq_true hf'.1
        rw [List.length_map] at this
        omega
      refine ⟨_, rfl, a, ns, rfl, hS, hlen, fun m h1 h2 => ⟨_, _, rfl, rfl, ?_⟩⟩
      have e4 := all_most h1 h2
      have q2 : Q (.bl ((ns.map PyData.int).all okMost)) H1 := q1
      rw [e4] at q2
      exact q2
    | non => cases hf
    | bl _ => cases hf
    | int _ => cases hf
    | str _ => cases hf
    | lst _ _ => cases hf
end

/-! ### is_stock, is_extended -/
/-- a book's form, as the callers keep it -/
abbrev bookD (ks ms : List PyData) : PyData := .tuple [.tuple ks, .tuple ms]
def spStock (K : PySem.W.Frag) (Ps : List Addr) (lo : Int) : Sp := fun vs H Q _ => ∃ (b v : V) (d : PyData) (ks ms : List PyData), vs = [b, v] ∧ Dp K H b (bookD ks ms) ∧ Dp K H v d ∧ Tabs Ps H ∧ ∀ H', ExtP H H' → Q (.bl (fEntries d ks.length lo)) H'
abbrev sStock : Stmt := top 19
abbrev sExtended : Stmt := top 20
theorem scStock : FnScope ["book", "value"] ["book", "value"] (defScope sStock) := ⟨rfl, rfl, rfl, by decide +kernel, rfl, by decide +kernel, by decide +kernel⟩
theorem scExtended : FnScope ["book", "value"] ["book", "value"] (defScope sExtended) := ⟨rfl, rfl, rfl, by decide +kernel, rfl, by decide +kernel, by decide +kernel⟩
theorem book_parts {K : PySem.W.Frag} {H : Hp} {b : V} {ks ms : List PyData} (h : Dp K H b (bookD ks ms)) : ∃ a a1 a2 x1 x2, b = .ref a ∧ SqT K H a [.ref a1, .ref a2] ∧ SqT K H a1 x1 ∧ DpAll K H x1 ks ∧ SqT K H a2 x2 ∧ DpAll K H x2 ms := by
  cases h with
  | @tup a xs _ hS hD =>
    cases hD with
    | cons h1 t =>
      cases t with
      | cons h2 t =>
        cases t
        cases h1 with
        | @tup a1 x1 _ s1 d1 =>
          cases h2 with
          | @tup a2 x2 _ s2 d2 => exact ⟨a, a1, a2, x1, x2, rfl, hS, s1, d1, s2, d2⟩
section
variable {P : Program} {w : World} {K : PySem.W.Frag} {mg : Str → Option Value} {base : Heap} {f c T : Addr} {fd : FuncData}
theorem ok_stock (F : Fun K "is_stock" "is_stock" sStock f fd) (G : Glb mg) (DE : Def P w K mg base "are_integers" 3 ["value", "width", "low"] (spEntries K [T])) :
    FnOk P w K mg base CX0 4 f fd ["book", "value"] (spStock K [T] 0) := by
  refine F.ok scStock (fun vs H Q E h => ?_) (fun cdv A outer s H vs Q E hr h => ?_)
  · obtain ⟨b, v, d, ks, ms, rfl, _⟩ := h
    rfl
  obtain ⟨b, v, d, ks, ms, rfl, hb, hd, hT, q⟩ := h
  obtain ⟨a, a1, a2, x1, x2, rfl, hS, s1, d1, s2, d2⟩ := book_parts hb
  refine ⟨_, pss_one (ps_ret (pe_c DE hr (pa_cons (pv 1) (pa_cons (pe_callB call_len rfl G.len PySem.boot_len (pa_cons (pe_ix ix_tup (pv 0) pe_int (fun _ _ => rfl)) pa_nil)) (pa_cons pe_int pa_nil))))), ?_⟩
  refine ⟨_, rfl, _, rfl, a, _, 0, _, rfl, rfl, hS, atI_nat (xs := [V.ref a1, V.ref a2]) (j := 0) rfl, V.ref a1, _, rfl, .inr ⟨x1, s1, rfl⟩, v, d, (x1.length : Int), 0, rfl, hd, hT, fun H1 e1 => ?_⟩
  rw [dpAll_len d1]
  exact q H1 e1
theorem ok_extended (F : Fun K "is_extended" "is_extended" sExtended f fd) (G : Glb mg) (C : Cst K mg) (DE : Def P w K mg base "are_integers" 3 ["value", "width", "low"] (spEntries K [T])) :
    FnOk P w K mg base CX0 4 f fd ["book", "value"] (spStock K [T] (-1)) := by
  obtain ⟨t1, cEnd⟩ := C.endless
  refine F.ok scExtended (fun vs H Q E h => ?_) (fun cdv A outer s H vs Q E hr h => ?_)
  · obtain ⟨b, v, d, ks, ms, rfl, _⟩ := h
    rfl
  obtain ⟨b, v, d, ks, ms, rfl, hb, hd, hT, q⟩ := h
  obtain ⟨a, a1, a2, x1, x2, rfl, hS, s1, d1, s2, d2⟩ := book_parts hb
  refine ⟨_, pss_one (ps_ret (pe_c DE hr (pa_cons (pv 1) (pa_cons (pe_callB call_len rfl G.len PySem.boot_len (pa_cons (pe_ix ix_tup (pv 0) pe_int (fun _ _ => rfl)) pa_nil)) (pa_cons (pe_gI cEnd) pa_nil))))), ?_⟩
  refine ⟨_, rfl, _, rfl, a, _, 0, _, rfl, rfl, hS, atI_nat (xs := [V.ref a1, V.ref a2]) (j := 0) rfl, V.ref a1, _, rfl, .inr ⟨x1, s1, rfl⟩, v, d, (x1.length : Int), -1, rfl, hd, hT, fun H1 e1 => ?_⟩
  rw [dpAll_len d1]
  exact q H1 e1
end

/-! ### are_kinds -/
def fKinds : PyData → Bool
  | .tuple ds => (decide ((1 : Int) ≤ ds.length) && decide ((ds.length : Int) ≤ 6)) && ds.all fName
  | _ => false
def SmallStrs : PyData → Prop
  | .tuple ds => ∀ d ∈ ds, SmallStr d
  | _ => True
abbrev spKinds (K : PySem.W.Frag) (Ps : List Addr) : Sp := spB K Ps 1 (fun ds => SmallStrs (ds.getD 0 .none)) fun ds => fKinds (ds.getD 0 .none)
abbrev sKinds : Stmt := top 15
theorem scKinds : FnScope ["value"] ["value"] (defScope sKinds) := ⟨rfl, rfl, rfl, by decide +kernel, rfl, by decide +kernel, by decide +kernel⟩
section
variable {P : Program} {w : World} {K : PySem.W.Frag} {mg : Str → Option Value} {base : Heap} {f c T TN : Addr} {fd : FuncData}
theorem ok_kinds (F : FunC K "are_kinds" "are_kinds" sKinds f fd c) (G : Glb mg) (C : Cst K mg) (TB : TabB base mg c T) (DN : Def P w K mg base "is_name" 2 ["value"] (spName K TN)) :
    FnOk P w K mg base CX0 4 f fd ["value"] (spKinds K [T, TN]) := by
  obtain ⟨t1, cMost⟩ := C.mostKinds
  refine F.ok scKinds (fun vs H Q E h => spB_len h) (fun A outer s H vs Q E hr h => ?_)
  obtain ⟨ds, hds, hl, hok, hT, q⟩ := h
  match ds, hl, hds with
  | [d], _, .cons hd .nil =>
  refine ⟨_, pss_cons (ps_if (PW.pt (pw_or (pt_not (pt_val (pe_isaTup G 0))) (pw_or1 (pt_not (pt_chain op_le op_le pe_int (pe_callB call_len (by rfl) G.len PySem.boot_len (pa_cons (pv 0) pa_nil)) (pe_gI cMost)))))) (pss_one (ps_ret pe_bl)) pss_nil)
    (pss_one (ps_ret (pe_allG (k := 2) (N := ["kind"]) (js := [none]) hr rfl G.all TB rfl ⟨rfl, rfl, rfl, rfl, rfl, rfl⟩ (pi_tup (pv 0)) (fun _ _ _ _ _ _ => pg_name (i := 0) (by show (["kind"] : List Str).Nodup; decide) rfl (Or.inl rfl))
      (fun _ _ _ _ _ _ hr' => pe_c DN hr' (pa_cons (pv 0) pa_nil))))), ?_⟩
  refine ⟨_, rfl, d, hd, _, rfl, ?_⟩
  have q' : ∀ H' b, ExtP H H' → fKinds d = b → Q (.bl b) H' := fun H' b e1 e2 => by rw [← e2]; exact q H' e1
  cases hd with
  | @tup a xs ds hS hD =>
    have hl := dpAll_len hD
    have fk : fKinds (.tuple ds) = ((decide ((1 : Int) ≤ xs.length) && decide ((xs.length : Int) ≤ 6)) && ds.all fName) := by rw [hl]; rfl
    refine ⟨_, rfl, _, _, rfl, .inr ⟨xs, hS, rfl⟩, _, _, rfl, rfl, _, rfl, ?_⟩
    refine ite2 (fun c1 => ?_) (fun c1 => ?_)
    · refine ⟨_, _, rfl, rfl, _, rfl, ?_⟩
      refine ite2 (fun c2 => ?_) (fun c2 => ?_)
      · refine q' H false (Ext.refl true H) ?_
        have c3 : decide ((xs.length : Int) ≤ 6) = false := by simpa using c2
        rw [fk, c3, Bool.and_false, Bool.false_and]
      · have c3 : decide ((xs.length : Int) ≤ 6) = true := by simpa using c2
        have c4 : decide ((1 : Int) ≤ xs.length) = true := c1
        refine ⟨_, rfl, a, rfl, ⟨xs, hS⟩, ?_⟩
        refine all_tup fName [] rfl (hT T (by simp)) hS hD (fun v d H' hmem e hd Qe hq => ?_) fun H' e => q' H' _ e (by rw [fk, c3, c4]; rfl)
        exact ⟨_, rfl, [d], .cons hd .nil, rfl, hok d hmem, (fun P hp => e.tab P (hT P (List.mem_cons_of_mem _ hp))), fun H2 e2 => hq H2 e2⟩
    · refine ⟨_, rfl, q' H false (Ext.refl true H) ?_⟩
      have c3 : decide ((1 : Int) ≤ xs.length) = false := by simpa using c1
      rw [fk, c3, Bool.false_and, Bool.false_and]
  | _ => exact q H (Ext.refl true H)
end
end Mint


namespace Mint
open PySem PySem.Spec PyProof.Rows L2 GxR Gx RZ

/-! ### is_move -/
def leq : PyData → PyData → Bool
  | .int a, .int b => decide (a ≤ b)
  | _, _ => false
def leAll : PyData → PyData → Bool
  | .tuple ls, .tuple ms => (ls.zip ms).all fun p => leq p.1 p.2
  | _, _ => false
def fMove (d : PyData) (w : Int) : Bool := match d with
  | .tuple [name, take, least, most] => fName name && [take, least, most].all (fun u => fUnits u w) && leAll least most
  | _ => false
def SmallMove : PyData → Prop
  | .tuple (name :: _) => SmallStr name
  | _ => True
def spMove (K : PySem.W.Frag) (Ps : List Addr) : Sp := fun vs H Q _ => ∃ (v : V) (d : PyData) (wd : Int), vs = [v, .int wd] ∧ (0 < wd ∧ wd ≤ 1000) ∧ SmallMove d ∧ Dp K H v d ∧ Tabs Ps H ∧ ∀ H', ExtP H H' → Q (.bl (fMove d wd)) H'
abbrev sMove : Stmt := top 17
theorem scMove : FnScope ["value", "width", "name", "take", "least", "most", "low", "high"] ["value", "width"] (defScope sMove) := ⟨rfl, rfl, rfl, by decide +kernel, rfl, by decide +kernel, by decide +kernel⟩
theorem units_ints {K : PySem.W.Frag} {H : Hp} {v : V} {d : PyData} {wd : Int} (h : Dp K H v d) (hu : fUnits d wd = true) : ∃ (a : Addr) (ns : List Int), v = .ref a ∧ d = .tuple (ns.map PyData.int) ∧ SqT K H a (ns.map V.int) ∧ (ns.length : Int) = wd := by
  unfold fUnits at hu
  rw [Bool.and_eq_true] at hu
  cases h with
  | @tup a xs ds hS hD =>
    have hf : (decide ((ds.length : Int) = wd) && ds.all (okEntry 0)) = true := hu.1
    rw [Bool.and_eq_true] at hf
    obtain ⟨ns, e2, e3⟩ := ints_of hD hf.2
    subst e2 e3
    have := of_decide_eq_true hf.1
    rw [List.length_map] at this
    exact ⟨a, ns, rfl, rfl, hS, this⟩
  | non => cases hu.1
  | bl _ => cases hu.1
  | int _ => cases hu.1
  | str _ => cases hu.1
  | lst _ _ => cases hu.1
theorem leAll_ints : ∀ (ns ms : List Int), ((ns.map PyData.int).zip (ms.map PyData.int)).all (fun p => leq p.1 p.2) = (List.zipWith (fun a b => decide (a ≤ b)) ns ms).all id
  | [], _ => by simp
  | _ :: _, [] => by simp
  | a :: ns, b :: ms => by
    have ih := leAll_ints ns ms
    simp only [List.map_cons, List.zip_cons_cons, List.all_cons, List.zipWith_cons_cons, id]
    rw [ih]
    rfl
theorem dp_four {K : PySem.W.Frag} {H : Hp} {xs : List V} {ds : List PyData} (h : DpAll K H xs ds) (e : xs.length = 4) : ∃ v1 v2 v3 v4 d1 d2 d3 d4, xs = [v1, v2, v3, v4] ∧ ds = [d1, d2, d3, d4] ∧ Dp K H v1 d1 ∧ Dp K H v2 d2 ∧ Dp K H v3 d3 ∧ Dp K H v4 d4 := by
  match xs, ds, h, e with
  | [v1, v2, v3, v4], [d1, d2, d3, d4], .cons h1 (.cons h2 (.cons h3 (.cons h4 .nil))), _ => exact ⟨v1, v2, v3, v4, d1, d2, d3, d4, rfl, rfl, h1, h2, h3, h4⟩
theorem fMove_ne {ds : List PyData} {wd : Int} (h : ds.length ≠ 4) : fMove (.tuple ds) wd = false := by
  match ds, h with
  | [], _ => rfl
  | [_], _ => rfl
  | [_, _], _ => rfl
  | [_, _, _], _ => rfl
  | [_, _, _, _], h => exact absurd rfl h
  | _ :: _ :: _ :: _ :: _ :: _, _ => rfl
section
variable {P : Program} {w : World} {K : PySem.W.Frag} {mg : Str → Option Value} {base : Heap} {f c T TN TE : Addr} {fd : FuncData}
theorem ok_move (F : FunC K "is_move" "is_move" sMove f fd c) (G : Glb mg) (TB : TabB base mg c T) (DN : Def P w K mg base "is_name" 2 ["value"] (spName K TN)) (DU : Def P w K mg base "are_units" 4 ["value", "width"] (spUnits K [TE])) :
    FnOk P w K mg base CX0 6 f fd ["value", "width"] (spMove K [T, TN, TE]) := by
  refine F.ok scMove (fun vs H Q E h => ?_) (fun A outer s H vs Q E hr h => ?_)
  · obtain ⟨v, d, wd, rfl, _⟩ := h
    rfl
  obtain ⟨v, d, wd, rfl, ⟨hwd, hwd2⟩, hsm, hd, hT, q⟩ := h
  have nd := scMove.nd
  refine ⟨_, pss_cons (ps_if (PW.pt (pw_or (pt_not (pt_val (pe_isaTup G 0))) (pw_or1 (pt_cmpR op_ne (pe_callB call_len (by rfl) G.len PySem.boot_len (pa_cons (pv 0) pa_nil)) pe_int (nomark _))))) (pss_one (ps_ret pe_bl)) pss_nil)
    (pss_cons (ps_asg (pv 0) (pg_tup (n := 4) (by rfl) (pgs_cons (pg_name (i := 2) nd rfl (Or.inl rfl)) (pgs_cons (pg_name (i := 3) nd rfl (Or.inl rfl)) (pgs_cons (pg_name (i := 4) nd rfl (Or.inl rfl)) (pgs_cons (pg_name (i := 5) nd rfl (Or.inl rfl)) pgs_nil))))))
    (pss_cons (ps_if (pt_not (pt_val (pe_c DN (hr.mono (by decide)) (pa_cons (pv 2) pa_nil)))) (pss_one (ps_ret pe_bl)) pss_nil)
    (pss_cons (ps_if (pt_not (pt_val (pe_allG (k := 4) (N := ["units", "width"]) (js := [none, some 1]) hr rfl G.all TB rfl ⟨rfl, rfl, rfl, rfl, rfl, rfl⟩ (pi_tup (pe_tup (pa_cons (pv 3) (pa_cons (pv 4) (pa_cons (pv 5) pa_nil))))) (fun _ _ _ _ _ _ => pg_name (i := 0) (by show (["units", "width"] : List Str).Nodup; decide) rfl (Or.inl rfl))
      (fun _ _ _ _ _ _ hr' => pe_c DU hr' (pa_cons (pv 0) (pa_cons (pv 1) pa_nil)))))) (pss_one (ps_ret pe_bl)) pss_nil)
    (pss_one (ps_ret (pe_callB (cr_all rfl) rfl G.all (by decide +kernel) (pa_cons (pe_lc (own := [("low", 6), ("high", 7)]) (g := L2.gTup K 2 (gCons (gName 6) (gCons (gName 7) gNil))) rfl nd (pi_zipA rfl G.zip (pa_cons (pv 4) (pa_cons (pv 5) pa_nil))) (blkOk_by (own := [("low", 6), ("high", 7)]) (N := ["value", "width", "name", "take", "least", "most", "low", "high"]) (sc := defScope sMove) (by decide +kernel))
      (fun _ _ _ _ _ => pg_tup rfl (pgs_cons (pg_name (i := 6) nd rfl (Or.inl rfl)) (pgs_cons (pg_name (i := 7) nd rfl (Or.inl rfl)) pgs_nil))) (fun _ _ _ _ _ => pts_nil) (fun _ _ _ _ _ => pe_cmpR op_le (pv 6) (pv 7) (nomark _))) pa_nil))))))), ?_⟩
  refine ⟨_, rfl, d, hd, _, rfl, ?_⟩
  cases hd with
  | @tup a xs ds hS hD =>
    have hl := dpAll_len hD
    refine ⟨_, rfl, _, _, rfl, .inr ⟨xs, hS, rfl⟩, rfl, _, rfl, ?_⟩
    refine ite2 (fun c1 => ?_) (fun c1 => ?_)
    · have c2 : ¬ ((xs.length : Int) = 4) := by simpa using c1
      have e : fMove (.tuple ds) wd = false := fMove_ne fun z => c2 (by rw [hl, z]; rfl)
      show Q (.bl false) H
      rw [← e]
      exact q H (Ext.refl true H)
    · have c2 : (xs.length : Int) = 4 := by simpa using c1
      obtain ⟨v1, v2, v3, v4, name, take, least, most, rfl, rfl, h1, h2, h3, h4⟩ := dp_four hD (Int.ofNat.inj c2)
      refine ⟨_, rfl, a, [v1, v2, v3, v4], rfl, hS, rfl, v1, [v2, v3, v4], rfl, v2, [v3, v4], rfl, v3, [v4], rfl, v4, [], rfl, rfl, ?_⟩
      refine ⟨_, rfl, [name], .cons h1 .nil, rfl, hsm, (fun P hp => hT P (by simp at hp ⊢; exact .inr (.inl hp))), fun H1 e1 => ⟨_, rfl, ?_⟩⟩
      have fm : fMove (.tuple [name, take, least, most]) wd = (fName name && [take, least, most].all (fun u => fUnits u wd) && leAll least most) := rfl
      rw [fm] at q
      refine ite2 (fun c3 => ?_) (fun c3 => ?_)
      · have c4 : fName name = false := by simpa using c3
        rw [c4] at q
        exact q H1 e1
      · have c4 : fName name = true := by simpa using c3
        rw [c4, Bool.true_and] at q
        refine ⟨_, rfl, _, rfl, _, rfl, (by show 3 ≤ sizeLine; decide), fun t ht => ?_⟩
        have e2 : ExtP H1 (upd H1 t (.tup [v2, v3, v4])) := Ext.new ht _
        have e12 := e1.trans e2
        have hD2 : DpAll K (upd H1 t (.tup [v2, v3, v4])) [v2, v3, v4] [take, least, most] := .cons (e12.dp h2) (.cons (e12.dp h3) (.cons (e12.dp h4) .nil))
        have hT2 : Tabs [T, TN, TE] (upd H1 t (.tup [v2, v3, v4])) := e12.tabs hT
        refine ⟨t, rfl, ⟨_, SqT.of upd_same⟩, ?_⟩
        refine all_tup2 (fun u => fUnits u wd) [some (.int wd)] rfl (hT2 T (by simp)) (SqT.of upd_same) hD2 (fun v d H' hmem e hd Qe hq => ?_) (fun H2 e3 c6 => ⟨_, rfl, ?_⟩) (fun H2 e3 c6 => ⟨_, rfl, ?_⟩)
        · exact ⟨_, rfl, _, rfl, v, d, wd, rfl, hwd, hd, (fun P hp => e.tab P (hT2 P (by simp at hp ⊢; exact .inr (.inr hp)))), fun H3 e3 => hq H3 e3⟩
        · have e13 := e12.trans e3
          refine iteF ?_
          rw [c6, Bool.true_and] at q
          simp only [List.all_cons, List.all_nil, Bool.and_true, Bool.and_eq_true] at c6
          obtain ⟨a3, ns, rfl, rfl, s3, l3⟩ := units_ints h3 c6.2.1
          obtain ⟨a4, ms, rfl, rfl, s4, l4⟩ := units_ints h4 c6.2.2
          have hlen : ns.length = ms.length := by omega
          have eb : leAll (.tuple (ns.map PyData.int)) (.tuple (ms.map PyData.int)) = (List.zipWith (fun a b => decide (a ≤ b)) ns ms).all id := leAll_ints ns ms
          rw [eb] at q
          have hzl : (List.zipWith (fun a b => decide (a ≤ b)) ns ms).length = ns.length := by rw [List.length_zipWith, hlen, Nat.min_self]
          refine ⟨_, rfl, _, rfl, a3, a4, _, _, rfl, .inr ⟨e13.sqT s3, e13.sqT s4, fun D hD => ?_⟩⟩
          refine lc_zipT (xs := ns.map V.int) (ys := ms.map V.int) (by rw [List.length_map, List.length_map, hlen]) (fun i H' => ExtP H2 H' ∧ H' D = some (.lst (((List.zipWith (fun a b => decide (a ≤ b)) ns ms).take i).map V.bl))) ⟨Ext.new hD _, upd_same⟩ (fun i H' _ p => ⟨p.1.sqT (e13.sqT s3), p.1.sqT (e13.sqT s4)⟩) (fun i x y T' H' hx hy ⟨p1, p2⟩ hT' => ?_) fun H' ⟨p1, p2⟩ => ?_
          · rw [List.getElem?_map, Option.map_eq_some_iff] at hx hy
            obtain ⟨n, hn, rfl⟩ := hx
            obtain ⟨m, hm, rfl⟩ := hy
            have e5 : ExtP H2 (upd H' T' (.tup [.int n, .int m])) := p1.trans (Ext.new hT' _)
            have hDT : D ≠ T' := ne_of_none p2 hT'
            refine ⟨T', _, rfl, SqT.of upd_same, rfl, .int n, [.int m], rfl, .int m, [], rfl, rfl, rfl, _, rfl, _, rfl, n, m, rfl, rfl, _, (upd_ne hDT).trans p2, ?_, ?_, ?_⟩
            · rw [List.length_map, List.length_take]
              exact small1000 (by omega)
            · exact e5.upd_new hD
            · rw [upd_same, List.take_add_one, List.getElem?_zipWith, hn, hm]
              simp
          · rw [List.length_map, ← hzl, List.take_length] at p2
            exact ⟨D, _, rfl, SqL.of p2, q H' (e13.trans p1)⟩
        · rw [c6] at q
          exact q H2 (e12.trans e3)
  | _ => exact q H (Ext.refl true H)
end
end Mint


namespace Mint
open PySem PySem.Spec PyProof.Rows L2 GxR Gx RZ

/-! ### are_moves -/
def fMoves (d : PyData) (w : Int) : Bool := match d with
  | .tuple ds => !decide ((8 : Int) < ds.length) && ds.all (fun m => fMove m w)
  | _ => false
def SmallMoves : PyData → Prop
  | .tuple ds => ∀ d ∈ ds, SmallMove d
  | _ => True
def spMoves (K : PySem.W.Frag) (Ps : List Addr) : Sp := fun vs H Q _ => ∃ (v : V) (d : PyData) (wd : Int), vs = [v, .int wd] ∧ (0 < wd ∧ wd ≤ 1000) ∧ SmallMoves d ∧ Dp K H v d ∧ Tabs Ps H ∧ ∀ H', ExtP H H' → Q (.bl (fMoves d wd)) H'
abbrev sMoves : Stmt := top 16
theorem scMoves : FnScope ["value", "width"] ["value", "width"] (defScope sMoves) := ⟨rfl, rfl, rfl, by decide +kernel, rfl, by decide +kernel, by decide +kernel⟩
section
variable {P : Program} {w : World} {K : PySem.W.Frag} {mg : Str → Option Value} {base : Heap} {f c T : Addr} {fd : FuncData} {Ps : List Addr}
theorem ok_moves (F : FunC K "are_moves" "are_moves" sMoves f fd c) (G : Glb mg) (C : Cst K mg) (TB : TabB base mg c T) (DM : Def P w K mg base "is_move" 6 ["value", "width"] (spMove K Ps)) :
    FnOk P w K mg base CX0 8 f fd ["value", "width"] (spMoves K (T :: Ps)) := by
  obtain ⟨t1, cMost⟩ := C.mostMoves
  refine F.ok scMoves (fun vs H Q E h => ?_) (fun A outer s H vs Q E hr h => ?_)
  · obtain ⟨v, d, wd, rfl, _⟩ := h
    rfl
  obtain ⟨v, d, wd, rfl, hwd, hsm, hd, hT, q⟩ := h
  refine ⟨_, pss_cons (ps_if (PW.pt (pw_or (pt_not (pt_val (pe_isaTup G 0))) (pw_or1 (pt_cmpR op_gt (pe_callB call_len (by rfl) G.len PySem.boot_len (pa_cons (pv 0) pa_nil)) (pe_gI cMost) (nomark _))))) (pss_one (ps_ret pe_bl)) pss_nil)
    (pss_one (ps_ret (pe_allG (k := 6) (N := ["move", "width"]) (js := [none, some 1]) hr rfl G.all TB rfl ⟨rfl, rfl, rfl, rfl, rfl, rfl⟩ (pi_tup (pv 0)) (fun _ _ _ _ _ _ => pg_name (i := 0) (by show (["move", "width"] : List Str).Nodup; decide) rfl (Or.inl rfl))
      (fun _ _ _ _ _ _ hr' => pe_c DM hr' (pa_cons (pv 0) (pa_cons (pv 1) pa_nil)))))), ?_⟩
  refine ⟨_, rfl, d, hd, _, rfl, ?_⟩
  cases hd with
  | @tup a xs ds hS hD =>
    have hl := dpAll_len hD
    have fk : fMoves (.tuple ds) wd = (!decide ((8 : Int) < xs.length) && ds.all (fun m => fMove m wd)) := by rw [hl]; rfl
    rw [fk] at q
    refine ⟨_, rfl, _, _, rfl, .inr ⟨xs, hS, rfl⟩, _, _, rfl, rfl, _, rfl, ?_⟩
    refine ite2 (fun c1 => ?_) (fun c1 => ?_)
    · rw [c1] at q
      exact q H (Ext.refl true H)
    · have c2 : decide ((8 : Int) < xs.length) = false := by simpa using c1
      rw [c2, Bool.not_false, Bool.true_and] at q
      refine ⟨_, rfl, a, rfl, ⟨xs, hS⟩, ?_⟩
      refine all_tup (fun m => fMove m wd) [some (.int wd)] rfl (hT T (by simp)) hS hD (fun v d H' hmem e hd Qe hq => ?_) q
      exact ⟨_, rfl, _, rfl, v, d, wd, rfl, hwd, hsm d hmem, hd, (fun P hp => e.tab P (hT P (List.mem_cons_of_mem _ hp))), hq⟩
  | _ => exact q H (Ext.refl true H)
end

/-! ### is_book -/
def strOf : PyData → Str
  | .str x => x
  | _ => Str.empty
def nameOf : PyData → Str
  | .tuple (n :: _) => strOf n
  | _ => Str.empty
def itemsOf : PyData → List PyData
  | .tuple ds => ds
  | _ => []
def namesOf (ks ms : PyData) : List Str := (itemsOf ks).map strOf ++ (itemsOf ms).map nameOf
def fBook : PyData → Bool
  | .tuple [ks, ms] => fKinds ks && fMoves ms (itemsOf ks).length && decide (((dedup (namesOf ks ms)).length : Int) = (namesOf ks ms).length)
  | _ => false
def SmallBook (d : PyData) : Prop := ∀ ks ms, d = .tuple [ks, ms] → SmallStrs ks ∧ SmallMoves ms
abbrev spBook (K : PySem.W.Frag) (Ps : List Addr) : Sp := spB K Ps 1 (fun ds => SmallBook (ds.getD 0 .none)) fun ds => fBook (ds.getD 0 .none)
abbrev sBook : Stmt := top 14
theorem scBook : FnScope ["value", "kinds", "moves", "names", "move"] ["value"] (defScope sBook) := ⟨rfl, rfl, rfl, by decide +kernel, rfl, by decide +kernel, by decide +kernel⟩
theorem dp_two {K : PySem.W.Frag} {H : Hp} {xs : List V} {ds : List PyData} (h : DpAll K H xs ds) (e : xs.length = 2) : ∃ v1 v2 d1 d2, xs = [v1, v2] ∧ ds = [d1, d2] ∧ Dp K H v1 d1 ∧ Dp K H v2 d2 := by
  match xs, ds, h, e with
  | [v1, v2], [d1, d2], .cons h1 (.cons h2 .nil), _ => exact ⟨v1, v2, d1, d2, rfl, rfl, h1, h2⟩
theorem fBook_ne {ds : List PyData} (h : ds.length ≠ 2) : fBook (.tuple ds) = false := by
  match ds, h with
  | [], _ => rfl
  | [_], _ => rfl
  | [_, _], h => exact absurd rfl h
  | _ :: _ :: _ :: _, _ => rfl
/-- names are texts -/
theorem kinds_strs {K : PySem.W.Frag} {H : Hp} : ∀ {xs : List V} {ds : List PyData}, DpAll K H xs ds → ds.all fName = true → xs = (ds.map strOf).map V.str
  | _, _, .nil, _ => rfl
  | _, _, .cons (ds := ds) h t, e => by
    rw [List.all_cons, Bool.and_eq_true] at e
    cases h with
    | str x => rw [kinds_strs t e.2]; rfl
    | _ => cases e.1
theorem move_name {K : PySem.W.Frag} {H : Hp} {v : V} {d : PyData} {wd : Int} (h : Dp K H v d) (e : fMove d wd = true) : ∃ a rest, v = .ref a ∧ SqT K H a (.str (nameOf d) :: rest) := by
  cases h with
  | @tup a xs ds hS hD =>
    have h4 : ds.length = 4 := Classical.byContradiction fun z => by
      rw [fMove_ne z] at e
      cases e
    obtain ⟨v1, v2, v3, v4, d1, d2, d3, d4, rfl, rfl, h1, _⟩ := dp_four hD ((dpAll_len hD).trans h4)
    have e2 : (fName d1 && [d2, d3, d4].all (fun u => fUnits u wd) && leAll d3 d4) = true := e
    rw [Bool.and_eq_true, Bool.and_eq_true] at e2
    cases h1 with
    | str x => exact ⟨a, _, rfl, hS⟩
    | _ => cases e2.1.1
  | _ => cases e
section
variable {P : Program} {w : World} {K : PySem.W.Frag} {mg : Str → Option Value} {base : Heap} {f : Addr} {fd : FuncData} {Pk Pm Ps : List Addr}
theorem ok_book (F : Fun K "is_book" "is_book" sBook f fd) (G : Glb mg) (hPk : ∀ p ∈ Pk, p ∈ Ps) (hPm : ∀ p ∈ Pm, p ∈ Ps) (DK : Def P w K mg base "are_kinds" 4 ["value"] (spKinds K Pk)) (DM : Def P w K mg base "are_moves" 8 ["value", "width"] (spMoves K Pm)) :
    FnOk P w K mg base CX0 9 f fd ["value"] (spBook K Ps) := by
  refine F.ok scBook (fun vs H Q E h => spB_len h) (fun cdv A outer s H vs Q E hr h => ?_)
  obtain ⟨ds, hds, hl, hok, hT, q⟩ := h
  obtain ⟨d, rfl⟩ : ∃ d, ds = [d] := List.length_eq_one_iff.mp hl
  obtain ⟨v, rfl⟩ : ∃ v, vs = [v] := List.length_eq_one_iff.mp (dpAll_len hds)
  have hd : Dp K H v d := by cases hds; assumption
  have q : ∀ H', ExtP H H' → Q (.bl (fBook d)) H' := q
  have hok : SmallBook d := hok
  have nd := scBook.nd
  refine ⟨_, pss_cons (ps_if (PW.pt (pw_or (pt_not (pt_val (pe_isaTup G 0))) (pw_or1 (pt_cmpR op_ne (pe_callB call_len (by rfl) G.len PySem.boot_len (pa_cons (pv 0) pa_nil)) pe_int (nomark _))))) (pss_one (ps_ret pe_bl)) pss_nil)
    (pss_cons (ps_asg (pv 0) (pg_tup (n := 2) (by rfl) (pgs_cons (pg_name (i := 1) nd rfl (Or.inl rfl)) (pgs_cons (pg_name (i := 2) nd rfl (Or.inl rfl)) pgs_nil))))
    (pss_cons (ps_if (PW.pt (pw_or (pt_not (pt_val (pe_c DK (hr.mono (by decide)) (pa_cons (pv 1) pa_nil)))) (pw_or1 (pt_not (pt_val (pe_c DM hr (pa_cons (pv 2) (pa_cons (pe_callB call_len (by rfl) G.len PySem.boot_len (pa_cons (pv 1) pa_nil)) pa_nil))))))))
      (pss_one (ps_ret pe_bl)) pss_nil)
    (pss_cons (ps_set (i := 3) nd rfl (Or.inl rfl) (pe_op op_cat (pe_callTy call_list_of rfl G.list (by decide +kernel) (pa_cons (pv 1) pa_nil)) (pe_lc (own := [("move", 4)]) (g := gName 4) (te := tOp (rIxT K) (tVar 4) (tC (.int 0))) rfl nd (pi_tup (pv 2)) (blkOk_by (own := [("move", 4)]) (N := ["value", "kinds", "moves", "names", "move"]) (sc := defScope sBook) (by decide +kernel))
      (fun _ _ _ _ _ => pg_name (i := 4) nd rfl (Or.inl rfl)) (fun _ _ _ _ _ => pts_nil) (fun _ _ _ _ _ => pe_ix ix_tup (pv 4) pe_int (fun _ _ => rfl)))))
    (pss_one (ps_ret (pe_cmpR op_eq (pe_lenSetN rfl rfl G.len rfl G.set (pv 3)) (pe_callB call_len (by rfl) G.len PySem.boot_len (pa_cons (pv 3) pa_nil)) (nomark _))))))), ?_⟩
  refine ⟨_, rfl, d, hd, _, rfl, ?_⟩
  cases hd with
  | @tup a xs ds hS hD =>
    have hl := dpAll_len hD
    refine ⟨_, rfl, _, _, rfl, .inr ⟨xs, hS, rfl⟩, rfl, _, rfl, ?_⟩
    refine ite2 (fun c1 => ?_) (fun c1 => ?_)
    · have c2 : ¬ ((xs.length : Int) = 2) := by simpa using c1
      have e : fBook (.tuple ds) = false := fBook_ne fun z => c2 (by rw [hl, z]; rfl)
      show Q (.bl false) H
      rw [← e]
      exact q H (Ext.refl true H)
    · have c2 : (xs.length : Int) = 2 := by simpa using c1
      obtain ⟨v1, v2, ks, ms, rfl, rfl, h1, h2⟩ := dp_two hD (Int.ofNat.inj c2)
      have fb : fBook (.tuple [ks, ms]) = (fKinds ks && fMoves ms (itemsOf ks).length && decide (((dedup (namesOf ks ms)).length : Int) = (namesOf ks ms).length)) := rfl
      rw [fb] at q
      obtain ⟨hsk, hsm⟩ := hok ks ms rfl
      refine ⟨_, rfl, a, [v1, v2], rfl, hS, rfl, v1, [v2], rfl, v2, [], rfl, rfl, ?_⟩
      refine ⟨_, rfl, [ks], .cons h1 .nil, rfl, hsk, (fun p hp => hT p (hPk p hp)), fun H1 e1 => ⟨_, rfl, ?_⟩⟩
      refine ite2 (fun c3 => ?_) (fun c3 => ?_)
      · have c4 : fKinds ks = false := by simpa using c3
        rw [c4] at q
        exact q H1 e1
      · have c4 : fKinds ks = true := by simpa using c3
        rw [c4, Bool.true_and] at q
        have h1' := e1.dp h1
        cases h1' with
        | @tup a1 x1 kd s1 d1 =>
          have c5 : (decide ((1 : Int) ≤ kd.length) && decide ((kd.length : Int) ≤ 6) && kd.all fName) = true := c4
          rw [Bool.and_eq_true, Bool.and_eq_true, decide_eq_true_iff, decide_eq_true_iff] at c5
          have l1 := dpAll_len d1
          refine ⟨_, rfl, _, rfl, _, _, rfl, .inr ⟨x1, s1, rfl⟩, v2, ms, (x1.length : Int), rfl, ⟨by rw [l1]; omega, by rw [l1]; omega⟩, hsm, e1.dp h2, (fun p hp => e1.tab p (hT p (hPm p hp))), fun H2 e2 => ⟨_, rfl, ?_⟩⟩
          have e12 := e1.trans e2
          have wk : ((itemsOf (.tuple kd)).length : Int) = (x1.length : Int) := by rw [l1]; rfl
          rw [wk] at q
          refine ite2 (fun c6 => ?_) (fun c6 => ?_)
          · have c7 : fMoves ms x1.length = false := by simpa using c6
            rw [c7] at q
            exact q H2 e12
          · have c7 : fMoves ms x1.length = true := by simpa using c6
            rw [c7, Bool.true_and] at q
            have h2' := e12.dp h2
            cases h2' with
            | @tup a2 x2 md s2 d2 =>
              have c8 : (!decide ((8 : Int) < md.length) && md.all (fun m => fMove m x1.length)) = true := c7
              rw [Bool.and_eq_true] at c8
              have l2 := dpAll_len d2
              have hk := kinds_strs d1 c5.2
              have hm8 : md.length ≤ 8 := by
                have := c8.1
                simp at this
                omega
              have hk6 : kd.length ≤ 6 := by omega
              refine ⟨_, rfl, a1, x1, rfl, .inr (e2.sqT s1), fun l hl0 => ?_⟩
              refine ⟨_, rfl, a2, rfl, ⟨x2, (Ext.new (dk := true) hl0 _).sqT s2⟩, fun D hD0 => ?_⟩
              have e3 : ExtP H2 (upd H2 l (.lst x1)) := Ext.new hl0 _
              refine lc_tup (xs := x2) (fun i H' => ExtP (upd H2 l (.lst x1)) H' ∧ H' D = some (.lst (((md.map nameOf).take i).map V.str))) ⟨Ext.new hD0 _, upd_same⟩ (fun i H' _ p => p.1.sqT (e3.sqT s2)) (fun i x H' hx ⟨p1, p2⟩ => ?_) fun H' ⟨p1, p2⟩ => ?_
              · obtain ⟨dm, hdm, hdd⟩ := dpAll_get d2 hx
                have hfm : fMove dm x1.length = true := List.all_eq_true.mp c8.2 dm (List.mem_of_getElem? hdm)
                obtain ⟨am, rest, rfl, sm⟩ := move_name ((e3.trans p1).dp hdd) hfm
                refine ⟨rfl, _, rfl, am, _, 0, .str (nameOf dm), rfl, rfl, sm, atI_nat (xs := V.str (nameOf dm) :: rest) (j := 0) rfl, _, p2, ?_, ?_, ?_⟩
                · rw [List.length_map, List.length_take, List.length_map]
                  exact small1000 (by omega)
                · exact p1.upd_new hD0
                · rw [upd_same, List.take_add_one, List.getElem?_map, hdm]
                  simp
              · rw [l2, ← List.length_map (f := nameOf), List.take_length] at p2
                have pl : H' l = some (.lst x1) := p1.obj l _ rfl upd_same
                refine ⟨l, D, x1, _, rfl, rfl, pl, p2, ?_, fun p hp => ?_⟩
                · rw [List.length_map, List.length_map, l1]
                  exact Nat.le_of_lt (small1000 (by omega))
                have en : x1 ++ (md.map nameOf).map V.str = (namesOf (.tuple kd) (.tuple md)).map V.str := by
                  rw [hk, ← List.map_append]
                  rfl
                rw [en]
                have hlen : (namesOf (.tuple kd) (.tuple md)).length = kd.length + md.length := by
                  show (kd.map strOf ++ md.map nameOf).length = _
                  rw [List.length_append, List.length_map, List.length_map]
                have hS4 : SqL K (upd H' p (.lst ((namesOf (.tuple kd) (.tuple md)).map V.str))) p ((namesOf (.tuple kd) (.tuple md)).map V.str) := SqL.of upd_same
                refine ⟨_, rfl, p, namesOf (.tuple kd) (.tuple md), rfl, hS4, by omega, _, rfl, _, _, rfl, .inl ⟨_, hS4, rfl⟩, rfl, ?_⟩
                have eF : ExtP H (upd H' p (.lst ((namesOf (.tuple kd) (.tuple md)).map V.str))) := ((e12.trans e3).trans p1).trans (Ext.new hp _)
                have qF := q _ eF
                have ed : decide (V.int ((dedup (namesOf (.tuple kd) (.tuple md))).length : Int) = V.int ((((namesOf (.tuple kd) (.tuple md)).map V.str).length : Nat) : Int)) = decide (((dedup (namesOf (.tuple kd) (.tuple md))).length : Int) = (namesOf (.tuple kd) (.tuple md)).length) := by
                  rw [List.length_map]
                  rw [Bool.eq_iff_iff, decide_eq_true_iff, decide_eq_true_iff]
                  exact ⟨fun h => V.int.inj h, fun h => congrArg V.int h⟩
                show Q (.bl _) _
                rw [ed]
                exact qF
            | _ => cases c7
        | _ => cases c4
  | _ => exact q H (Ext.refl true H)
end
end Mint


namespace Mint
open PySem PySem.Spec PyProof.Rows L2 GxR Gx RZ

/-! ### is_run_within, is_step -/
def inRange (nm : Int) : PyData → Bool
  | .int i => decide (0 ≤ i) && decide (i < nm)
  | _ => false
def ge1 : PyData → Bool
  | .int i => !decide (i < 1)
  | _ => false
def stepOf (nm : Int) (g : PyData → Bool) : PyData → Bool
  | .tuple [h, m] => PyData.eqv h (.str "do") && (fInteger m && inRange nm m)
  | .tuple [h, k, r] => PyData.eqv h (.str "rep") && (fInteger k && (ge1 k && !PyData.eqv r (.tuple []))) && g r
  | _ => false
def fRunW (nm : Int) : Nat → PyData → Bool
  | 0, _ => false
  | n + 1, .tuple ds => ds.all (stepOf nm (fRunW nm n))
  | _ + 1, _ => false
theorem shaped_all {ds : List PyData} (h : SeqAt.shaped (.tuple ds) = true) : ∀ d ∈ ds, SeqAt.shaped d = true := by
  have h1 := SeqAt.canLay_of_shaped h
  have h2 := SeqAt.depth_of_shaped h
  have a : ∀ (l : List PyData) (d : PyData), PyData.canLayAll0 l = true → d ∈ l → d.canLay0 = true := by
    intro l
    induction l with
    | nil => intro d _ hd; cases hd
    | cons x l ih =>
      intro d hl hd
      have hl' : x.canLay0 = true ∧ PyData.canLayAll0 l = true := by simpa [PyData.canLayAll0] using hl
      rcases List.mem_cons.mp hd with e | hd
      · rw [e]; exact hl'.1
      · exact ih d hl'.2 hd
  have b : ∀ (l : List PyData) (d : PyData), d ∈ l → d.depth ≤ PyData.depthAll l := by
    intro l
    induction l with
    | nil => intro d hd; cases hd
    | cons x l ih =>
      intro d hd
      have e : PyData.depthAll (x :: l) = max x.depth (PyData.depthAll l) := by simp [PyData.depthAll]
      rw [e]
      rcases List.mem_cons.mp hd with e | hd
      · rw [e]; exact Nat.le_max_left _ _
      · exact Nat.le_trans (ih d hd) (Nat.le_max_right _ _)
  intro d hd
  have h3 : (PyData.tuple ds).depth = PyData.depthAll ds + 1 := by simp [PyData.depth]
  have h4 := b ds d hd
  unfold SeqAt.shaped
  rw [a ds d h1 hd, decide_eq_true (by omega)]
  rfl
theorem dp_three {K : PySem.W.Frag} {H : Hp} {xs : List V} {ds : List PyData} (h : DpAll K H xs ds) (e : xs.length = 3) : ∃ v1 v2 v3 d1 d2 d3, xs = [v1, v2, v3] ∧ ds = [d1, d2, d3] ∧ Dp K H v1 d1 ∧ Dp K H v2 d2 ∧ Dp K H v3 d3 := by
  match xs, ds, h, e with
  | [v1, v2, v3], [d1, d2, d3], .cons h1 (.cons h2 (.cons h3 .nil)), _ => exact ⟨v1, v2, v3, d1, d2, d3, rfl, rfl, h1, h2, h3⟩
theorem stepOf_ne {nm : Int} {g : PyData → Bool} {ds : List PyData} (h2 : ds.length ≠ 2) (h3 : ds.length ≠ 3) : stepOf nm g (.tuple ds) = false := by
  match ds, h2, h3 with
  | [], _, _ => rfl
  | [_], _, _ => rfl
  | [_, _], h, _ => exact absurd rfl h
  | [_, _, _], _, h => exact absurd rfl h
  | _ :: _ :: _ :: _ :: _, _, _ => rfl
/-- the promises, for depths up to N -/
def spRunW (K : PySem.W.Frag) (Ps : List Addr) (N : Nat) : Sp := fun vs H Q _ => ∃ (b v : V) (d : PyData) (ks ms : List PyData) (n : Nat), vs = [b, v, .int n] ∧ n ≤ N ∧ Dp K H b (bookD ks ms) ∧ Dp K H v d ∧ SeqAt.shaped d = true ∧ Tabs Ps H ∧ ∀ H', ExtP H H' → Q (.bl (fRunW ms.length n d)) H'
def spStep (K : PySem.W.Frag) (Ps : List Addr) (N : Nat) : Sp := fun vs H Q _ => ∃ (b v : V) (d : PyData) (ks ms : List PyData) (n : Nat), vs = [b, v, .int ((n + 1 : Nat) : Int)] ∧ n + 1 ≤ N ∧ Dp K H b (bookD ks ms) ∧ Dp K H v d ∧ SeqAt.shaped d = true ∧ Tabs Ps H ∧ ∀ H', ExtP H H' → Q (.bl (stepOf ms.length (fRunW ms.length n) d)) H'
abbrev sRunW : Stmt := top 22
abbrev sStep : Stmt := top 23
theorem scRunW : FnScope ["book", "value", "depth"] ["book", "value", "depth"] (defScope sRunW) := ⟨rfl, rfl, rfl, by decide +kernel, rfl, by decide +kernel, by decide +kernel⟩
theorem scStep : FnScope ["book", "value", "depth"] ["book", "value", "depth"] (defScope sStep) := ⟨rfl, rfl, rfl, by decide +kernel, rfl, by decide +kernel, by decide +kernel⟩
section
variable {P : Program} {w : World} {K : PySem.W.Frag} {mg : Str → Option Value} {base : Heap} {f c T : Addr} {fd : FuncData}
theorem ok_runW {k N : Nat} (F : FunC K "is_run_within" "is_run_within" sRunW f fd c) (G : Glb mg) (TB : TabB base mg c T) (DS : Def P w K mg base "is_step" k ["book", "value", "depth"] (spStep K [T] N)) :
    FnOk P w K mg base CX0 (k + 2) f fd ["book", "value", "depth"] (spRunW K [T] N) := by
  refine F.ok scRunW (fun vs H Q E h => ?_) (fun A outer s H vs Q E hr h => ?_)
  · obtain ⟨b, v, d, ks, ms, n, rfl, _⟩ := h
    rfl
  obtain ⟨b, v, d, ks, ms, n, rfl, hn, hb, hd, hsh, hT, q⟩ := h
  refine ⟨_, pss_cons (ps_if (PW.pt (pw_or (pt_cmpR op_eq (pv 2) pe_int (nomark _)) (pw_or1 (pt_not (pt_val (pe_isaTup G 1)))))) (pss_one (ps_ret pe_bl)) pss_nil)
    (pss_one (ps_ret (pe_allG (k := k) (N := ["step", "book", "depth"]) (js := [none, some 0, some 2]) hr rfl G.all TB rfl ⟨rfl, rfl, rfl, rfl, rfl, rfl⟩ (pi_tup (pv 1)) (fun _ _ _ _ _ _ => pg_name (i := 0) (by show (["step", "book", "depth"] : List Str).Nodup; decide) rfl (Or.inl rfl))
      (fun _ _ _ _ _ _ hr' => pe_c DS hr' (pa_cons (pv 1) (pa_cons (pv 0) (pa_cons (pv 2) pa_nil))))))), ?_⟩
  refine ⟨_, rfl, rfl, _, rfl, ?_⟩
  refine ite2 (fun c1 => ?_) (fun c1 => ?_)
  · have c2 : (n : Int) = 0 := V.int.inj (of_decide_eq_true c1)
    obtain rfl : n = 0 := by omega
    exact q H (Ext.refl true H)
  · have c2 : n ≠ 0 := fun z => by
      subst z
      exact c1 rfl
    obtain ⟨m, rfl⟩ := Nat.exists_eq_succ_of_ne_zero c2
    refine ⟨_, rfl, d, hd, _, rfl, ?_⟩
    cases hd with
    | @tup a xs ds hS hD =>
      refine ⟨_, rfl, a, rfl, ⟨xs, hS⟩, ?_⟩
      refine all_tup (stepOf ms.length (fRunW ms.length m)) [some b, some (.int ((m + 1 : Nat) : Int))] rfl (hT T (by simp)) hS hD (fun v d H' hmem e hd Qe hq => ?_) q
      exact ⟨_, rfl, _, rfl, _, rfl, b, v, d, ks, ms, m, rfl, hn, e.dp hb, hd, shaped_all hsh d hmem, e.tabs hT, hq⟩
    | _ => exact q H (Ext.refl true H)
theorem ok_step {k N : Nat} (F : Fun K "is_step" "is_step" sStep f fd) (G : Glb mg) (hk : 1 ≤ k) (DI : Def P w K mg base "is_integer" 1 ["value"] (spInteger K)) (DW : Def P w K mg base "is_run_within" k ["book", "value", "depth"] (spRunW K [T] N)) :
    FnOk P w K mg base CX0 (k + 1) f fd ["book", "value", "depth"] (spStep K [T] (N + 1)) := by
  refine F.ok scStep (fun vs H Q E h => ?_) (fun cdv A outer s H vs Q E hr h => ?_)
  · obtain ⟨b, v, d, ks, ms, n, rfl, _⟩ := h
    rfl
  obtain ⟨b, v, d, ks, ms, n, rfl, hn, hb, hd, hsh, hT, q⟩ := h
  refine ⟨_, pss_cons (ps_if (pt_not (pt_val (pe_isaTup G 1))) (pss_one (ps_ret pe_bl)) pss_nil)
    (pss_cons (ps_if (pt_cmpR op_eq (pe_callB call_len (by rfl) G.len PySem.boot_len (pa_cons (pv 1) pa_nil)) pe_int (nomark _))
      (pss_one (ps_ret (pe_and (pe_cmpR (op_eqD hr.units) (pe_ix ix_tup (pv 1) pe_int (fun _ _ => rfl)) pe_str (nomark _)) (pe_and (pe_c DI (hr.mono hk) (pa_cons (pe_ix ix_tup (pv 1) pe_int (fun _ _ => rfl)) pa_nil))
        (pe_one (pe_chain op_le op_lt pe_int (pe_ix ix_tup (pv 1) pe_int (fun _ _ => rfl)) (pe_callB call_len (by rfl) G.len PySem.boot_len (pa_cons (pe_ix ix_tup (pv 0) pe_int (fun _ _ => rfl)) pa_nil)))))))) pss_nil)
    (pss_cons (ps_if (PW.pt (pw_or (pt_cmpR op_ne (pe_callB call_len (by rfl) G.len PySem.boot_len (pa_cons (pv 1) pa_nil)) pe_int (nomark _)) (pw_or1 (pt_cmpR (op_neD hr.units) (pe_ix ix_tup (pv 1) pe_int (fun _ _ => rfl)) pe_str (nomark _))))) (pss_one (ps_ret pe_bl)) pss_nil)
    (pss_cons (ps_if (PW.pt (pw_or (pt_not (pt_val (pe_c DI (hr.mono hk) (pa_cons (pe_ix ix_tup (pv 1) pe_int (fun _ _ => rfl)) pa_nil)))) (pw_or (pt_cmpR op_lt (pe_ix ix_tup (pv 1) pe_int (fun _ _ => rfl)) pe_int (nomark _))
      (pw_or1 (pt_cmpR (op_eqD hr.units) (pe_ix ix_tup (pv 1) pe_int (fun _ _ => rfl)) (pe_tup pa_nil) (nomark _)))))) (pss_one (ps_ret pe_bl)) pss_nil)
    (pss_one (ps_ret (pe_c DW hr (pa_cons (pv 0) (pa_cons (pe_ix ix_tup (pv 1) pe_int (fun _ _ => rfl)) (pa_cons (pe_op op_sub (pv 2) pe_int) pa_nil))))))))), ?_⟩
  refine ⟨_, rfl, d, hd, _, rfl, ?_⟩
  have noTabs : ∀ H', Tabs [] H' := fun H' p z => by cases z
  cases hd with
  | @tup a xs ds hS hD =>
    have hl := dpAll_len hD
    obtain ⟨ab, a1, a2, x1, x2, eb, hSb, s1, d1, s2, d2⟩ := book_parts hb
    refine ⟨_, rfl, _, _, rfl, .inr ⟨xs, hS, rfl⟩, rfl, _, rfl, ?_⟩
    refine ite2 (fun c1 => ?_) (fun c1 => ?_)
    · have c2 : (xs.length : Int) = 2 := by simpa using c1
      obtain ⟨v1, v2, hh, m, rfl, rfl, h1, h2⟩ := dp_two hD (Int.ofNat.inj c2)
      have fs : stepOf ms.length (fRunW ms.length n) (.tuple [hh, m]) = (PyData.eqv hh (.str "do") && (fInteger m && inRange ms.length m)) := rfl
      rw [fs] at q
      have sh := shaped_all hsh
      refine ⟨_, rfl, a, [v1, v2], 0, v1, rfl, rfl, hS, atI_nat (xs := [v1, v2]) (j := 0) rfl, hh, .str "do", h1, .str _, sh hh (by simp), by decide +kernel, _, rfl, ?_⟩
      refine ite2 (fun c3 => ?_) (fun c3 => ?_)
      · rw [c3, Bool.true_and] at q
        refine ⟨_, rfl, a, [v1, v2], 1, v2, rfl, rfl, hS, atI_nat (xs := [v1, v2]) (j := 1) rfl, [m], .cons h2 .nil, rfl, trivial, noTabs H, fun H1 e1 => ⟨_, rfl, ?_⟩⟩
        refine ite2 (fun c4 => ?_) (fun c4 => ?_)
        · have c5 : fInteger m = true := c4
          cases h2 with
          | int i =>
            refine ⟨_, rfl, a, [v1, .int i], 1, .int i, rfl, rfl, e1.sqT hS, atI_nat (xs := [v1, .int i]) (j := 1) rfl, 0, i, rfl, rfl, _, rfl, ?_⟩
            refine ite2 (fun c6 => ?_) (fun c6 => ?_)
            · subst eb
              refine ⟨_, rfl, ab, [.ref a1, .ref a2], 1, .ref a2, rfl, rfl, e1.sqT hSb, atI_nat (xs := [V.ref a1, V.ref a2]) (j := 1) rfl, .ref a2, _, rfl, .inr ⟨x2, e1.sqT s2, rfl⟩, i, _, rfl, rfl, ?_⟩
              have q1 := q H1 e1
              have e2 : (fInteger (.int i) && inRange ms.length (.int i)) = (decide (0 ≤ i) && decide (i < ms.length)) := rfl
              rw [e2, show decide (0 ≤ i) = true from c6, Bool.true_and, ← dpAll_len d2] at q1
              exact q1
            · have q1 := q H1 e1
              have e2 : (fInteger (.int i) && inRange ms.length (.int i)) = (decide (0 ≤ i) && decide (i < ms.length)) := rfl
              have c7 : decide (0 ≤ i) = false := by simpa using c6
              rw [e2, c7, Bool.false_and] at q1
              exact q1
          | _ => cases c5
        · have c5 : fInteger m = false := by simpa using c4
          have q1 := q H1 e1
          rw [c5, Bool.false_and] at q1
          exact q1
      · have c4 : PyData.eqv hh (.str "do") = false := by simpa using c3
        rw [c4, Bool.false_and] at q
        exact q H (Ext.refl true H)
    · have c2 : ¬ (xs.length : Int) = 2 := by simpa using c1
      refine ⟨_, rfl, _, _, rfl, .inr ⟨xs, hS, rfl⟩, rfl, _, rfl, ?_⟩
      refine ite2 (fun c3 => ?_) (fun c3 => ?_)
      · have c4 : ¬ (xs.length : Int) = 3 := by simpa using c3
        rw [stepOf_ne (by rw [← hl]; exact fun z => c2 (by rw [z]; rfl)) (by rw [← hl]; exact fun z => c4 (by rw [z]; rfl))] at q
        exact q H (Ext.refl true H)
      · have c4 : (xs.length : Int) = 3 := by simpa using c3
        obtain ⟨v1, v2, v3, hh, kk, r, rfl, rfl, h1, h2, h3⟩ := dp_three hD (Int.ofNat.inj c4)
        have fs : stepOf ms.length (fRunW ms.length n) (.tuple [hh, kk, r]) = (PyData.eqv hh (.str "rep") && (fInteger kk && (ge1 kk && !PyData.eqv r (.tuple []))) && fRunW ms.length n r) := rfl
        rw [fs] at q
        have sh := shaped_all hsh
        have at0 : atI [v1, v2, v3] 0 = some v1 := atI_nat (xs := [v1, v2, v3]) (j := 0) rfl
        have at1 : atI [v1, v2, v3] 1 = some v2 := atI_nat (xs := [v1, v2, v3]) (j := 1) rfl
        have at2 : atI [v1, v2, v3] 2 = some v3 := atI_nat (xs := [v1, v2, v3]) (j := 2) rfl
        refine ⟨_, rfl, a, _, 0, v1, rfl, rfl, hS, at0, hh, .str "rep", h1, .str _, sh hh (by simp), by decide +kernel, _, rfl, ?_⟩
        refine ite2 (fun c5 => ?_) (fun c5 => ?_)
        · have c6 : PyData.eqv hh (.str "rep") = false := by simpa using c5
          rw [c6, Bool.false_and, Bool.false_and] at q
          exact q H (Ext.refl true H)
        · have c6 : PyData.eqv hh (.str "rep") = true := by simpa using c5
          rw [c6, Bool.true_and] at q
          refine ⟨_, rfl, a, _, 1, v2, rfl, rfl, hS, at1, [kk], .cons h2 .nil, rfl, trivial, noTabs H, fun H1 e1 => ⟨_, rfl, ?_⟩⟩
          have q1 : ∀ H2, ExtP H1 H2 → Q (.bl (fInteger kk && (ge1 kk && !PyData.eqv r (.tuple [])) && fRunW ms.length n r)) H2 := fun H2 e => q H2 (e1.trans e)
          refine ite2 (fun c7 => ?_) (fun c7 => ?_)
          · have c8 : fInteger kk = false := by simpa using c7
            rw [c8, Bool.false_and, Bool.false_and] at q1
            exact q1 H1 (Ext.refl true H1)
          · have c8 : fInteger kk = true := by simpa using c7
            rw [c8, Bool.true_and] at q1
            cases h2 with
            | int i =>
              refine ⟨_, rfl, a, _, 1, .int i, rfl, rfl, e1.sqT hS, at1, i, 1, rfl, rfl, _, rfl, ?_⟩
              have eg : ge1 (.int i) = !decide (i < 1) := rfl
              rw [eg] at q1
              refine ite2 (fun c9 => ?_) (fun c9 => ?_)
              · rw [c9, Bool.not_true, Bool.false_and, Bool.false_and] at q1
                exact q1 H1 (Ext.refl true H1)
              · have c10 : decide (i < 1) = false := by simpa using c9
                rw [c10, Bool.not_false, Bool.true_and] at q1
                refine ⟨_, rfl, a, _, 2, v3, rfl, rfl, e1.sqT hS, at2, Nat.zero_le _, fun t ht => ?_⟩
                have e2 : ExtP H1 (upd H1 t (.tup [])) := Ext.new ht _
                have e12 := e1.trans e2
                refine ⟨r, .tuple [], e12.dp h3, .tup (SqT.of upd_same) .nil, sh r (by simp), by decide +kernel, _, rfl, ?_⟩
                refine ite2 (fun c11 => ?_) (fun c11 => ?_)
                · rw [c11, Bool.not_true, Bool.false_and] at q1
                  exact q1 _ e2
                · have c12 : PyData.eqv r (.tuple []) = false := by simpa using c11
                  rw [c12, Bool.not_false, Bool.true_and] at q1
                  refine ⟨_, rfl, _, rfl, a, _, 2, v3, rfl, rfl, e12.sqT hS, at2, _, rfl, _, _, rfl, rfl, b, v3, r, ks, ms, n, ?_, by omega, e12.dp hb, e12.dp h3, sh r (by simp), e12.tabs hT, fun H3 e3 => q1 H3 (e2.trans e3)⟩
                  have e4 : ((n + 1 : Nat) : Int) - 1 = (n : Int) := by omega
                  exact congrArg (fun z => [b, v3, V.int z]) e4
            | _ => cases c8
  | _ => exact q H (Ext.refl true H)
/-- both, for any number of levels -/
theorem ok_runs {g : Addr} {gd : FuncData} (F : FunC K "is_run_within" "is_run_within" sRunW f fd c) (mF : mg "is_run_within" = some (.ref f)) (bF : Binds K fd ["book", "value", "depth"] []) (F2 : Fun K "is_step" "is_step" sStep g gd) (mF2 : mg "is_step" = some (.ref g)) (bF2 : Binds K gd ["book", "value", "depth"] [])
    (G : Glb mg) (TB : TabB base mg c T) (DI : Def P w K mg base "is_integer" 1 ["value"] (spInteger K)) : ∀ N : Nat, Def P w K mg base "is_run_within" (3 * N + 3) ["book", "value", "depth"] (spRunW K [T] N)
  | 0 => by
    have none : FnOk P w K mg base CX0 1 g gd ["book", "value", "depth"] (spStep K [T] 0) := by
      have no : ∀ vs H Q E, ¬ spStep K [T] 0 vs H Q E := fun vs H Q E h => by
        obtain ⟨b, v, d, ks, ms, n, _, hn, _⟩ := h
        omega
      exact ⟨fun vs H Q E h => absurd h (no vs H Q E), fun A outer s H args us vs Q E _ _ _ _ h => absurd h (no vs H Q E)⟩
    exact ⟨f, fd, ok_runW (k := 1) F G TB ⟨g, gd, none, mF2, F2.kp, bF2⟩, mF, F.kp, bF⟩
  | N + 1 => by
    have ih := ok_runs F mF bF F2 mF2 bF2 G TB DI N
    have st := ok_step (k := 3 * N + 3) F2 G (by omega) DI ih
    have rw' := ok_runW F G TB ⟨g, gd, st, mF2, F2.kp, bF2⟩
    exact ⟨f, fd, rw'.mono (by omega), mF, F.kp, bF⟩
end

/-! ### is_run, move_index -/
def spRun (K : PySem.W.Frag) (Ps : List Addr) : Sp := fun vs H Q _ => ∃ (b v : V) (d : PyData) (ks ms : List PyData), vs = [b, v] ∧ Dp K H b (bookD ks ms) ∧ Dp K H v d ∧ SeqAt.shaped d = true ∧ Tabs Ps H ∧ ∀ H', ExtP H H' → Q (.bl (fRunW ms.length 30 d)) H'
abbrev sRun : Stmt := top 21
theorem scRun : FnScope ["book", "value"] ["book", "value"] (defScope sRun) := ⟨rfl, rfl, rfl, by decide +kernel, rfl, by decide +kernel, by decide +kernel⟩
def idxOf (x : Str) : List PyData → Nat → Option Nat
  | [], _ => none
  | m :: r, i => if nameOf m = x then some i else idxOf x r (i + 1)
def optV : Option Nat → V
  | some i => .int i
  | none => .non
def spIndex (K : PySem.W.Frag) : Sp := fun vs H Q _ => ∃ (b : V) (x : Str) (ks ms : List PyData), vs = [b, .str x] ∧ Dp K H b (bookD ks ms) ∧ (∀ m ∈ ms, ∃ n r, m = .tuple (.str n :: r)) ∧ ms.length ≤ 1000 ∧ ∀ H', ExtP H H' → Q (optV (idxOf x ms 0)) H'
abbrev sIndex : Stmt := top 24
theorem scIndex : FnScope ["book", "name", "index", "move"] ["book", "name"] (defScope sIndex) := ⟨rfl, rfl, rfl, by decide +kernel, rfl, by decide +kernel, by decide +kernel⟩
section
variable {P : Program} {w : World} {K : PySem.W.Frag} {mg : Str → Option Value} {base : Heap} {f T : Addr} {fd : FuncData}
theorem ok_run (F : Fun K "is_run" "is_run" sRun f fd) (C : Cst K mg) (DW : Def P w K mg base "is_run_within" 93 ["book", "value", "depth"] (spRunW K [T] 30)) : FnOk P w K mg base CX0 94 f fd ["book", "value"] (spRun K [T]) := by
  obtain ⟨t1, cD⟩ := C.mostDepth
  refine F.ok scRun (fun vs H Q E h => ?_) (fun cdv A outer s H vs Q E hr h => ?_)
  · obtain ⟨b, v, d, ks, ms, rfl, _⟩ := h
    rfl
  obtain ⟨b, v, d, ks, ms, rfl, hb, hd, hsh, hT, q⟩ := h
  refine ⟨_, pss_one (ps_ret (pe_c DW hr (pa_cons (pv 0) (pa_cons (pv 1) (pa_cons (pe_gI cD) pa_nil))))), ?_⟩
  exact ⟨_, rfl, _, rfl, b, v, d, ks, ms, 30, rfl, Nat.le_refl 30, hb, hd, hsh, hT, q⟩
end
end Mint


namespace Mint
open PySem PySem.Spec PyProof.Rows L2 GxR Gx RZ

section
variable {P : Program} {w : World} {K : PySem.W.Frag} {mg : Str → Option Value} {base : Heap} {f T : Addr} {fd : FuncData}
theorem idx_step {x : Str} : ∀ (ms : List PyData) (i k : Nat) (m : PyData), ms[i]? = some m → (∀ j m', j < i → ms[j]? = some m' → nameOf m' ≠ x) → nameOf m = x → idxOf x ms k = some (k + i)
  | [], i, k, m, h, _, _ => by simp at h
  | m0 :: r, 0, k, m, h, _, e => by
    simp at h
    subst h
    unfold idxOf
    rw [if_pos e]
    rfl
  | m0 :: r, i + 1, k, m, h, no, e => by
    unfold idxOf
    rw [if_neg (no 0 m0 (Nat.succ_pos i) rfl), idx_step r i (k + 1) m (by simpa using h) (fun j m' hj hm => no (j + 1) m' (by omega) (by simpa using hm)) e]
    congr 1
    omega
theorem idx_none {x : Str} : ∀ (ms : List PyData) (k : Nat), (∀ m ∈ ms, nameOf m ≠ x) → idxOf x ms k = none
  | [], _, _ => rfl
  | m0 :: r, k, no => by
    unfold idxOf
    rw [if_neg (no m0 List.mem_cons_self)]
    exact idx_none r (k + 1) fun m hm => no m (List.mem_cons_of_mem _ hm)
theorem ok_index (F : Fun K "move_index" "move_index" sIndex f fd) (G : Glb mg) : FnOk P w K mg base CX0 1 f fd ["book", "name"] (spIndex K) := by
  refine F.ok scIndex (fun vs H Q E h => ?_) (fun cdv A outer s H vs Q E hr h => ?_)
  · obtain ⟨b, x, ks, ms, rfl, _⟩ := h
    rfl
  obtain ⟨b, x, ks, ms, rfl, hb, hms, hlen, q⟩ := h
  obtain ⟨a, a1, a2, x1, x2, rfl, hS, s1, d1, s2, d2⟩ := book_parts hb
  have nd := scIndex.nd
  refine ⟨_, pss_cons (ps_for PassesOwn.never rfl (pi_enumT rfl G.enumerate (pa_cons (pe_ix ix_tup (pv 0) pe_int (fun _ _ => rfl)) pa_nil)) (pg_tup (n := 2) rfl (pgs_cons (pg_name (i := 2) nd rfl (Or.inl rfl)) (pgs_cons (pg_name (i := 3) nd rfl (Or.inl rfl)) pgs_nil)))
    (pss_one (ps_if (pt_cmpR op_eq (pe_ix ix_tup (pv 3) pe_int (fun _ _ => rfl)) (pv 1) (nomark _)) (pss_one (ps_ret (pv 2))) pss_nil)))
    (pss_one (ps_ret pe_non)), ?_⟩
  refine ⟨_, rfl, a, [.ref a1, .ref a2], 1, .ref a2, rfl, rfl, hS, atI_nat (xs := [V.ref a1, V.ref a2]) (j := 1) rfl, a2, x2, rfl, s2, ?_⟩
  refine for_enumT (xs := x2) (fun i σ H' => ExtP H H' ∧ (∃ o3 o4, σ = [some (.ref a), some (.str x), o3, o4]) ∧ ∀ j m', j < i → ms[j]? = some m' → nameOf m' ≠ x) ⟨Ext.refl true H, ⟨none, none, rfl⟩, fun j m' hj => by omega⟩ (fun i σ H' _ p => p.1.sqT s2) (fun i v T σ H' hv p hT => ?_) fun σ H' p => ?_
  · obtain ⟨e, ⟨o3, o4, rfl⟩, no⟩ := p
    obtain ⟨m, hm, hd⟩ := dpAll_get d2 hv
    have e2 : ExtP H (upd H' T (.tup [.int (i : Nat), v])) := e.trans (Ext.new hT _)
    obtain ⟨n, r, rfl⟩ := hms m (List.mem_of_getElem? hm)
    cases e2.dp hd with
    | @tup am xm _ hSm hDm =>
      cases hDm with
      | cons hn hr' =>
        cases hn with
        | str =>
          refine ⟨T, [.int (i : Nat), .ref am], rfl, SqT.of upd_same, rfl, _, _, rfl, _, _, rfl, rfl, ?_⟩
          refine ⟨_, rfl, am, _, 0, .str n, rfl, rfl, hSm, atI_nat (j := 0) rfl, _, rfl, rfl, _, rfl, ?_⟩
          refine ite2 (fun c1 => ?_) (fun c1 => ?_)
          · have c2 : n = x := V.str.inj (of_decide_eq_true c1)
            refine ⟨_, rfl, ?_⟩
            have qq := q _ e2
            rw [idx_step ms i 0 _ hm no c2, Nat.zero_add] at qq
            exact qq
          · have c2 : ¬ n = x := fun z => c1 (by rw [z]; exact decide_eq_true rfl)
            refine ⟨e2, ⟨_, _, rfl⟩, fun j m' hj hm' => ?_⟩
            by_cases z : j = i
            · subst z
              rw [hm] at hm'
              cases hm'
              exact c2
            · exact no j m' (by omega) hm'
  · obtain ⟨e, _, no⟩ := p
    have qq := q _ e
    rw [idx_none ms 0 fun m hm => ?_] at qq
    · exact qq
    · obtain ⟨j, hj, ej⟩ := List.getElem_of_mem hm
      exact no j m (by rw [dpAll_len d2]; exact hj) (by rw [List.getElem?_eq_getElem hj, ej])
end
end Mint


namespace Mint
open PySem PySem.Spec PyProof.Rows L2 GxR Gx RZ

/-! ### _law_mix: some number -/
def spMix : Sp := fun vs H Q _ => ∃ a b : Int, vs = [.int a, .int b] ∧ ∀ r : Int, 0 ≤ r → r < 2147483647 → Q (.int r) H
abbrev sMix : Stmt := top 26
theorem scMix : FnScope ["first", "second", "value"] ["first", "second"] (defScope sMix) := ⟨rfl, rfl, rfl, by decide +kernel, rfl, by decide +kernel, by decide +kernel⟩
section
variable {P : Program} {w : World} {K : PySem.W.Frag} {mg : Str → Option Value} {base : Heap} {f T : Addr} {fd : FuncData}
theorem ok_mix (F : Fun K "_law_mix" "_law_mix" sMix f fd) (G : Glb mg) : FnOk P w K mg base CX0 1 f fd ["first", "second"] spMix := by
  refine F.ok scMix (fun vs H Q E h => ?_) (fun cdv A outer s H vs Q E hr h => ?_)
  · obtain ⟨a, b, rfl, _⟩ := h
    rfl
  obtain ⟨a, b, rfl, q⟩ := h
  have nd := scMix.nd
  refine ⟨_, pss_cons (ps_set (i := 2) nd rfl (Or.inl rfl) (pe_op op_mod (pe_callTy call_int1 rfl G.int boot_int (pa_cons (pe_op op_add (pe_op op_add (pe_op op_mul (pv 0) pe_int) (pe_op op_mul (pv 1) pe_int)) pe_int) pa_nil)) pe_int))
    (pss_one (ps_ret (pe_op op_mod (pe_callTy call_int1 rfl G.int boot_int (pa_cons (pe_op op_add (pe_op op_add (pe_op op_mul (pv 2) pe_int) (pe_op op_mul (pv 1) pe_int)) pe_int) pa_nil)) pe_int))), ?_⟩
  refine ⟨_, rfl, _, _, rfl, rfl, .inr ⟨by decide, by decide⟩, _, rfl, _, _, rfl, rfl, .inr ⟨by decide, by decide⟩, _, _, rfl, rfl, _, _, rfl, rfl, .inl ⟨_, rfl, _, _, rfl, rfl, (by show (0 : Int) < _; decide), ?_⟩⟩
  refine ⟨_, rfl, _, _, rfl, rfl, .inr ⟨by decide, by decide⟩, _, rfl, _, _, rfl, rfl, .inr ⟨by decide, by decide⟩, _, _, rfl, rfl, _, _, rfl, rfl, .inl ⟨_, rfl, _, _, rfl, rfl, (by show (0 : Int) < _; decide), ?_⟩⟩
  refine q _ (Int.emod_nonneg _ (by decide)) (Int.lt_of_lt_of_le (Int.emod_lt_of_pos _ (by decide)) (by decide))
end
/-! ### _law_numbers -/
theorem cut_take (zs : List Int) (k : Nat) : cutV (zs.map V.int) none (some (k : Int)) = (zs.take k).map V.int := by
  unfold cutV
  rw [HT.sIx_none, HT.sIx_nat, List.drop_zero, Nat.sub_zero, List.map_take, List.length_map]
  rcases Nat.le_total k zs.length with h | h
  · rw [Nat.min_eq_left h]
  · rw [Nat.min_eq_right h, List.take_of_length_le (by rw [List.length_map]; exact Nat.le_refl _), List.take_of_length_le (by rw [List.length_map]; exact h)]
def spNumbers (K : PySem.W.Frag) : Sp := fun vs H Q _ => ∃ (a : Addr) (zs : List Int) (c : Nat), vs = [.ref a, .int c] ∧ SqL K H a (zs.map V.int) ∧ zs.length ≤ 63 ∧ c ≤ 1000 ∧
  ∀ (H' : Hp) (p : Addr) (ns : List Int), ExtP H H' → H p = none → H' p = some (.lst (ns.map V.int)) → ns.length = c → (∀ n ∈ ns, 0 ≤ n ∧ n < 1000) → Q (.ref p) H'
abbrev sNumbers : Stmt := top 27
theorem scNumbers : FnScope ["script", "count", "found", "total", "cell", "number", "k"] ["script", "count"] (defScope sNumbers) := ⟨rfl, rfl, rfl, by decide +kernel, rfl, by decide +kernel, by decide +kernel⟩
section
variable {P : Program} {w : World} {K : PySem.W.Frag} {mg : Str → Option Value} {base : Heap} {f T : Addr} {fd : FuncData}
/-- the list at l holds small numbers -/
def FdAt (H0 H : Hp) (l : Addr) (ns : List Int) : Prop := ExtP H0 H ∧ H l = some (.lst (ns.map V.int)) ∧ ∀ n ∈ ns, 0 ≤ n ∧ n < 1000
theorem FdAt.push {H0 H : Hp} {l : Addr} {ns : List Int} {x : Int} (h : FdAt H0 H l ns) (hl : H0 l = none) (hx : 0 ≤ x ∧ x < 1000) : FdAt H0 (upd H l (.lst (ns.map V.int ++ [.int x]))) l (ns ++ [x]) := by
  refine ⟨h.1.upd_new hl, by rw [upd_same, List.map_append]; rfl, fun n hn => ?_⟩
  rcases List.mem_append.mp hn with z | z
  · exact h.2.2 n z
  · rw [List.mem_singleton.mp z]; exact hx
theorem mod1000 (x : Int) : 0 ≤ x % 1000 ∧ x % 1000 < 1000 := ⟨Int.emod_nonneg _ (by decide), Int.emod_lt_of_pos _ (by decide)⟩
theorem ok_numbers (F : Fun K "_law_numbers" "_law_numbers" sNumbers f fd) (G : Glb mg) (DM : Def P w K mg base "_law_mix" 1 ["first", "second"] spMix) : FnOk P w K mg base CX0 2 f fd ["script", "count"] (spNumbers K) := by
  refine F.ok scNumbers (fun vs H Q E h => ?_) (fun cdv A outer s H vs Q E hr h => ?_)
  · obtain ⟨a, zs, c, rfl, _⟩ := h
    rfl
  obtain ⟨a, zs, c, rfl, hS, h63, hc, q⟩ := h
  have nd := scNumbers.nd
  refine ⟨_, (pss_cons (ps_set (i := 2) nd rfl (Or.inl rfl) (pe_lst pa_nil))
    (pss_cons (ps_set (i := 3) nd rfl (Or.inl rfl) (pe_op op_add (pe_callB call_len rfl G.len PySem.boot_len (pa_cons (pv 0) pa_nil)) pe_int))
    (pss_cons (ps_for PassesOwn.never rfl (pi_list (pe_slice sl_list (pv 0) po_none (po_some pe_int))) (pg_name (i := 4) nd rfl (Or.inl rfl)) (pss_cons (ps_set (i := 5) nd rfl (Or.inl rfl) (pe_callB call_abs rfl G.abs (by decide +kernel) (pa_cons (pv 4) pa_nil)))
    (pss_cons (ps_set (i := 3) nd rfl (Or.inl rfl) (pe_c DM (hr) (pa_cons (pv 3) (pa_cons (pe_op op_mod (pe_callTy call_int1 rfl G.int boot_int (pa_cons (pv 5) pa_nil)) pe_int) pa_nil))))
    (pss_one (ps_if (pt_cmpR op_ge (pv 5) (pe_op op_pow pe_int pe_int) (nomark _)) (pss_one (ps_for PassesOwn.never rfl (pi_range1 rfl G.range (pa_cons pe_int pa_nil)) (pg_name (i := 6) nd rfl (Or.inl rfl)) (pss_one (ps_if (pt_cmpR op_gt (pv 5) pe_int (nomark _)) (pss_cons (ps_expr (pe_bm PySem.F.plainAttrs_list PySem.F.slot_list_append PySem.F.type_list_append mt_append (pv 2) (pa_cons (pe_op op_mod (pe_callTy call_int1 rfl G.int boot_int (pa_cons (pv 5) pa_nil)) pe_int) pa_nil)))
    (pss_one (ps_set (i := 5) nd rfl (Or.inl rfl) (pe_op op_fdiv (pv 5) pe_int)))) pss_nil)))) (pss_one (ps_for PassesOwn.never rfl (pi_range1 rfl G.range (pa_cons pe_int pa_nil)) (pg_name (i := 6) nd rfl (Or.inl rfl)) (pss_one (ps_expr (pe_bm PySem.F.plainAttrs_list PySem.F.slot_list_append PySem.F.type_list_append mt_append (pv 2) (pa_cons (pe_op op_mod (pe_callTy call_int1 rfl G.int boot_int (pa_cons (pe_c DM (hr) (pa_cons (pv 5) (pa_cons (pe_op op_add (pv 6) pe_int) pa_nil))) pa_nil)) pe_int) pa_nil)))))))))))
    (pss_cons (ps_for PassesOwn.never rfl (pi_range1 rfl G.range (pa_cons (pv 1) pa_nil)) (pg_name (i := 6) nd rfl (Or.inl rfl)) (pss_one (ps_if (pt_cmpR op_lt (pe_callB call_len rfl G.len PySem.boot_len (pa_cons (pv 2) pa_nil)) (pv 1) (nomark _)) (pss_cons (ps_set (i := 3) nd rfl (Or.inl rfl) (pe_c DM (hr) (pa_cons (pv 3) (pa_cons (pe_op op_add (pv 6) pe_int) pa_nil))))
    (pss_one (ps_expr (pe_bm PySem.F.plainAttrs_list PySem.F.slot_list_append PySem.F.type_list_append mt_append (pv 2) (pa_cons (pe_op op_mod (pe_callTy call_int1 rfl G.int boot_int (pa_cons (pv 3) pa_nil)) pe_int) pa_nil))))) pss_nil)))
    (pss_one (ps_ret (pe_slice sl_list (pv 2) po_none (po_some (pv 1))))))))), ?_⟩
  refine ⟨Nat.zero_le _, fun l hl => ?_⟩
  have e0 : ExtP H (upd H l (.lst [])) := Ext.new hl _
  refine ⟨_, rfl, _, _, rfl, .inl ⟨_, e0.sqL hS, rfl⟩, _, _, rfl, rfl, ?_⟩
  refine ⟨_, rfl, _, rfl, a, _, rfl, e0.sqL hS, fun p hp => ?_⟩
  have hcut : cutV (zs.map V.int) none (some 63) = zs.map V.int := by
    have := cut_take zs 63
    rw [List.take_of_length_le h63] at this
    exact this
  rw [hcut]
  have e1 : ExtP H (upd (upd H l (.lst [])) p (.lst (zs.map V.int))) := e0.trans (Ext.new hp _)
  have hpl : l ≠ p := ne_of_none (H := upd H l (.lst [])) upd_same hp
  have hpH : H p = none := by rw [upd_ne (Ne.symm hpl)] at hp; exact hp
  have small : ∀ (ns : List Int) (n : Nat), ns.length ≤ n → n ≤ 100000 → (ns.map V.int).length < sizeLine := fun ns n h1 h2 => by
    rw [List.length_map, sizeLine_eq]
    omega
  refine ⟨p, rfl, ⟨_, SqL.of upd_same⟩, ?_⟩
  refine for_list (xs := zs.map V.int) (fun i σ H' => ∃ (t : Int) (o4 o5 o6 : Option V) (ns : List Int), σ = [some (.ref a), some (.int c), some (.ref l), some (.int t), o4, o5, o6] ∧ FdAt H H' l ns ∧ ns.length ≤ 60 * i ∧ H' p = some (.lst (zs.map V.int)))
    ⟨_, none, none, none, [], rfl, ⟨e1, (upd_ne hpl).trans upd_same, fun n hn => by cases hn⟩, Nat.zero_le _, upd_same⟩ (fun i σ H' _ ⟨_, _, _, _, _, _, _, _, h⟩ => SqL.of h) (fun i x σ H' hx ⟨t, o4, o5, o6, ns, eσ, fd, hle, hpp⟩ => ?_) fun σ H' ⟨t, o4, o5, o6, ns, eσ, fd, hle, _⟩ => ?_
  · subst eσ
    rw [List.getElem?_map, Option.map_eq_some_iff] at hx
    obtain ⟨z, hz, rfl⟩ := hx
    have hi63 : i < 63 := by
      have := (List.getElem?_eq_some_iff.mp hz).1
      omega
    refine ⟨_, rfl, z, rfl, ?_⟩
    have h0 : 0 ≤ (if z < 0 then -z else z) := by split <;> omega
    generalize (if z < 0 then -z else z) = m at h0 ⊢
    refine ⟨_, rfl, _, rfl, .inl ⟨m, rfl, m, 2147483647, rfl, rfl, (by show (0 : Int) < _; decide), _, _, rfl, fun r _ _ => ?_⟩⟩
    refine ⟨_, rfl, 10, 18, rfl, rfl, ⟨by decide, by decide, by decide⟩, m, _, rfl, rfl, _, rfl, ?_⟩
    refine ite2 (fun c1 => ?_) (fun c1 => ?_)
    · refine ⟨60, rfl, by decide, by decide, for_range (lo := 0) (n := 60) (fun j σ H' => ∃ (m : Int) (o6 : Option V) (ns : List Int), σ = [some (.ref a), some (.int c), some (.ref l), some (.int r), some (.int z), some (.int m), o6] ∧ FdAt H H' l ns ∧ ns.length ≤ 60 * i + j ∧ H' p = some (.lst (zs.map V.int)) ∧ 0 ≤ m)
        ⟨m, o6, ns, rfl, fd, hle, hpp, h0⟩ (fun j σ H' hj ⟨m, o6, ns, eσ, fd, hle, hpp, h0⟩ => ?_) fun σ H' ⟨m, o6, ns, eσ, fd, hle, hpp, h0⟩ => ⟨r, _, _, _, ns, eσ, fd, by omega, hpp⟩⟩
      subst eσ
      refine ⟨_, rfl, m, 0, rfl, rfl, _, rfl, ?_⟩
      refine ite2 (fun c2 => ?_) (fun c2 => ?_)
      · refine ⟨_, rfl, .inl ⟨rfl, _, SqL.of fd.2.1⟩, _, rfl, .inl ⟨m, rfl, m, 1000, rfl, rfl, (by show (0 : Int) < _; decide), l, _, _, rfl, rfl, fd.2.1, small ns _ hle (by omega), ?_⟩⟩
        refine ⟨_, rfl, m, 1000, rfl, rfl, ⟨by decide, by decide⟩, ?_⟩
        refine ⟨_, _, ns ++ [m % 1000], rfl, fd.push hl (mod1000 m), ?_, (upd_ne (Ne.symm hpl)).trans hpp, Int.ediv_nonneg h0 (by decide)⟩
        rw [List.length_append]
        simp
        omega
      · exact ⟨m, _, ns, rfl, fd, by omega, hpp, h0⟩
    · refine ⟨6, rfl, by decide, by decide, for_range (lo := 0) (n := 6) (fun j σ H' => ∃ (o6 : Option V) (ns : List Int), σ = [some (.ref a), some (.int c), some (.ref l), some (.int r), some (.int z), some (.int m), o6] ∧ FdAt H H' l ns ∧ ns.length ≤ 60 * i + j ∧ H' p = some (.lst (zs.map V.int)))
        ⟨o6, ns, rfl, fd, hle, hpp⟩ (fun j σ H' hj ⟨o6, ns, eσ, fd, hle, hpp⟩ => ?_) fun σ H' ⟨o6, ns, eσ, fd, hle, hpp⟩ => ⟨r, _, _, _, ns, eσ, fd, by omega, hpp⟩⟩
      subst eσ
      refine ⟨_, rfl, .inl ⟨rfl, _, SqL.of fd.2.1⟩, _, rfl, _, rfl, _, _, rfl, rfl, _, _, rfl, fun r2 _ _ => .inl ⟨r2, rfl, r2, 1000, rfl, rfl, (by show (0 : Int) < _; decide), l, _, _, rfl, rfl, fd.2.1, small ns _ hle (by omega), ?_⟩⟩
      refine ⟨_, ns ++ [r2 % 1000], rfl, fd.push hl (mod1000 r2), ?_, (upd_ne (Ne.symm hpl)).trans hpp⟩
      rw [List.length_append]
      simp
      omega
  · subst eσ
    rw [List.length_map] at hle
    refine ⟨_, rfl, c, rfl, by omega, by omega, ?_⟩
    refine for_range (lo := 0) (n := c) (fun j σ H' => ∃ (t : Int) (o6 : Option V) (ns : List Int), σ = [some (.ref a), some (.int c), some (.ref l), some (.int t), o4, o5, o6] ∧ FdAt H H' l ns ∧ ns.length ≤ 60 * 63 + j ∧ min j c ≤ ns.length)
      ⟨t, o6, ns, rfl, fd, by omega, by omega⟩ (fun j σ H' hj ⟨t, o6, ns, eσ, fd, hle, hmin⟩ => ?_) fun σ H' ⟨t, o6, ns, eσ, fd, hle, hmin⟩ => ?_
    · subst eσ
      refine ⟨_, rfl, _, _, rfl, .inl ⟨_, SqL.of fd.2.1, rfl⟩, _, rfl, _, _, rfl, rfl, _, rfl, ?_⟩
      refine ite2 (fun c1 => ?_) (fun c1 => ?_)
      · refine ⟨_, rfl, _, rfl, _, _, rfl, rfl, _, _, rfl, fun r2 _ _ => ?_⟩
        refine ⟨_, rfl, .inl ⟨rfl, _, SqL.of fd.2.1⟩, _, rfl, .inl ⟨r2, rfl, r2, 1000, rfl, rfl, (by show (0 : Int) < _; decide), l, _, _, rfl, rfl, fd.2.1, small ns _ hle (by omega), ?_⟩⟩
        refine ⟨_, _, ns ++ [r2 % 1000], rfl, fd.push hl (mod1000 r2), ?_, ?_⟩
        · rw [List.length_append]
          simp
          omega
        · rw [List.length_append]
          simp
          omega
      · have c2 : ¬ ((ns.map V.int).length : Int) < (c : Int) := fun z => c1 (decide_eq_true z)
        rw [List.length_map] at c2
        exact ⟨t, _, ns, rfl, fd, by omega, by omega⟩
    · subst eσ
      refine ⟨_, rfl, _, rfl, c, rfl, l, _, rfl, SqL.of fd.2.1, fun p2 hp2 => ?_⟩
      have hp3 : H p2 = none := fd.1.non p2 hp2
      rw [cut_take]
      refine q _ p2 (ns.take c) (fd.1.trans (Ext.new hp2 _)) hp3 upd_same ?_ fun n hn => fd.2.2 n (List.mem_of_mem_take hn)
      rw [List.length_take]
      omega
end
end Mint


namespace Mint
open PySem PySem.Spec PyProof.Rows L2 GxR Gx RZ

/-! ### _law_draws, _law_take -/
abbrev kAt : Key := .inr "at"
abbrev kRow : Key := .inr "row"
/-- the draws at d -/
def Draw (H : Hp) (d p : Addr) : Prop := ∃ (at_ : Int) (ns : List Int), H d = some (.dK [(kAt, .int at_), (kRow, .ref p)]) ∧ H p = some (.lst (ns.map V.int)) ∧ 0 ≤ at_ ∧ 0 < ns.length ∧ ns.length ≤ 1000 ∧ ∀ n ∈ ns, 0 ≤ n ∧ n < 1000
theorem Draw.ext {H H1 : Hp} {d p : Addr} (h : Draw H d p) (e : ExtP H H1) : Draw H1 d p := by
  obtain ⟨a, ns, h1, h2, r⟩ := h
  exact ⟨a, ns, e.obj _ _ rfl h1, e.obj _ _ rfl h2, r⟩
theorem Draw.upd {H H1 : Hp} {d p l : Addr} {o : HO} (h : Draw H1 d p) (h0 : Draw H d p) (hl : H l = none) : Draw (upd H1 l o) d p := by
  obtain ⟨_, _, q1, q2, _⟩ := h0
  obtain ⟨a, ns, h1, h2, r⟩ := h
  exact ⟨a, ns, (upd_ne (ne_of_none q1 hl)).trans h1, (upd_ne (ne_of_none q2 hl)).trans h2, r⟩
def spDraws (K : PySem.W.Frag) : Sp := fun vs H Q _ => ∃ (a : Addr) (zs : List Int) (c : Nat), vs = [.ref a, .int c] ∧ SqL K H a (zs.map V.int) ∧ zs.length ≤ 63 ∧ 0 < c ∧ c ≤ 1000 ∧
  ∀ (H' : Hp) (d p : Addr), ExtP H H' → H d = none → H p = none → Draw H' d p → Q (.ref d) H'
def spTake : Sp := fun vs H Q _ => ∃ (d p : Addr) (b : Int), vs = [.ref d, .int b] ∧ Draw H d p ∧ 0 < b ∧ ∀ (H' : Hp) (v : Int), ExtL H H' → Draw H' d p → 0 ≤ v → v < b → Q (.int v) H'
abbrev sDraws : Stmt := top 28
abbrev sTake : Stmt := top 29
theorem scDraws : FnScope ["script", "count"] ["script", "count"] (defScope sDraws) := ⟨rfl, rfl, rfl, by decide +kernel, rfl, by decide +kernel, by decide +kernel⟩
theorem scTake : FnScope ["draws", "bound", "row", "at", "value"] ["draws", "bound"] (defScope sTake) := ⟨rfl, rfl, rfl, by decide +kernel, rfl, by decide +kernel, by decide +kernel⟩
section
variable {P : Program} {w : World} {K : PySem.W.Frag} {mg : Str → Option Value} {base : Heap} {f T : Addr} {fd : FuncData}
theorem ok_draws (F : Fun K "_law_draws" "_law_draws" sDraws f fd) (G : Glb mg) (DN : Def P w K mg base "_law_numbers" 2 ["script", "count"] (spNumbers K)) : FnOk P w K mg base CX0 3 f fd ["script", "count"] (spDraws K) := by
  refine F.ok scDraws (fun vs H Q E h => ?_) (fun cdv A outer s H vs Q E hr h => ?_)
  · obtain ⟨a, zs, c, rfl, _⟩ := h
    rfl
  obtain ⟨a, zs, c, rfl, hS, h63, hc0, hc, q⟩ := h
  have nd := scDraws.nd
  refine ⟨_, (pss_one (ps_ret (pe_disp (pps_cons pe_str pe_int (pps_cons pe_str (pe_c DN (hr) (pa_cons (pv 0) (pa_cons (pv 1) pa_nil))) pps_nil)) (by rfl) (by rfl) (fun z => by cases z) (by decide)))), ?_⟩
  refine fun d hd => ?_
  have e0 : ExtP H (upd H d (.dK [])) := Ext.new hd _
  refine ⟨_, rfl, _, rfl, a, zs, c, rfl, e0.sqL hS, h63, hc, fun H' p ns e1 hp hpl hlen hns => ?_⟩
  have hdK : H' d = some (.dK []) := e1.obj _ _ rfl upd_same
  have hpd : p ≠ d := fun z => by rw [z, upd_same] at hp; cases hp
  refine ⟨hdK, [(kAt, .int 0), (kRow, .ref p)], rfl, (by show 2 ≤ 15; decide), ?_⟩
  refine q _ d p ((e0.trans e1).upd_new hd) hd (e0.non p hp) ⟨0, ns, upd_same, (upd_ne hpd).trans hpl, Int.le_refl 0, by omega, by omega, hns⟩
theorem ok_take (F : Fun K "_law_take" "_law_take" sTake f fd) (G : Glb mg) : FnOk P w K mg base CX0 1 f fd ["draws", "bound"] spTake := by
  refine F.ok scTake (fun vs H Q E h => ?_) (fun cdv A outer s H vs Q E hr h => ?_)
  · obtain ⟨d, p, b, rfl, _⟩ := h
    rfl
  obtain ⟨d, p, b, rfl, ⟨at_, ns, hd, hp, h0, hl0, hl, hns⟩, hb, q⟩ := h
  have nd := scTake.nd
  refine ⟨_, (pss_cons (ps_set (i := 2) nd rfl (Or.inl rfl) (pe_dget (hu_of hr) (pv 0) pe_str (fun _ _ => rfl)))
    (pss_cons (ps_set (i := 3) nd rfl (Or.inl rfl) (pe_dget (hu_of hr) (pv 0) pe_str (fun _ _ => rfl)))
    (pss_cons (ps_dput (hu_of hr) (pv 0) pe_str (pe_op op_add (pv 3) pe_int) rfl)
    (pss_cons (ps_set (i := 4) nd rfl (Or.inl rfl) (pe_op op_add (pe_ix ix_list (pv 2) (pe_op op_mod (pe_callTy call_int1 rfl G.int boot_int (pa_cons (pv 3) pa_nil)) (pe_callB call_len rfl G.len PySem.boot_len (pa_cons (pv 2) pa_nil))) (fun _ _ => rfl)) (pe_op op_fdiv (pv 3) (pe_callB call_len rfl G.len PySem.boot_len (pa_cons (pv 2) pa_nil)))))
    (pss_one (ps_ret (pe_op op_mod (pe_callTy call_int1 rfl G.int boot_int (pa_cons (pv 4) pa_nil)) (pv 1)))))))), ?_⟩
  refine ⟨_, rfl, d, .ref p, rfl, DGet.k (k := kRow) hd, ?_⟩
  refine ⟨_, rfl, d, .int at_, rfl, DGet.k (k := kAt) hd, ?_⟩
  refine ⟨_, rfl, at_, 1, rfl, rfl, _, rfl, d, _, rfl, DPut.k (k := kAt) hd (by show 2 < sizeLine; decide), ?_⟩
  have eL : ExtL H (upd H d (.dK [(kAt, .int (at_ + 1)), (kRow, .ref p)])) := (Ext.refl false H).upd_dK hd
  have hpd : p ≠ d := ne_of hp hd (fun z => by cases z)
  have hp1 : upd H d (.dK [(kAt, .int (at_ + 1)), (kRow, .ref p)]) p = some (.lst (ns.map V.int)) := (upd_ne hpd).trans hp
  have lk : ((ns.map V.int).length : Int) = (ns.length : Int) := by rw [List.length_map]
  have hi0 : 0 ≤ at_ % (ns.length : Int) := Int.emod_nonneg _ (by omega)
  have hi1 : at_ % (ns.length : Int) < ns.length := Int.emod_lt_of_pos _ (by omega)
  have hget : (at_ % (ns.length : Int)).toNat < ns.length := by omega
  have hat : atI (ns.map V.int) (at_ % ((ns.map V.int).length : Int)) = some (.int ns[(at_ % (ns.length : Int)).toNat]) := by
    rw [lk]
    have := atI_nat (xs := ns.map V.int) (j := (at_ % (ns.length : Int)).toNat) (v := .int ns[(at_ % (ns.length : Int)).toNat]) (by rw [List.getElem?_map, List.getElem?_eq_getElem hget]; rfl)
    rw [Int.toNat_of_nonneg hi0] at this
    exact this
  refine ⟨_, rfl, _, rfl, .inl ⟨at_, rfl, _, rfl, .ref p, _, rfl, .inl ⟨_, SqL.of hp1, rfl⟩, _, _, rfl, rfl, (by show (0 : Int) < _; omega), p, _, _, _, rfl, rfl, SqL.of hp1, hat, ?_⟩⟩
  refine ⟨_, rfl, _, rfl, .ref p, _, rfl, .inl ⟨_, SqL.of hp1, rfl⟩, _, _, rfl, rfl, (by constructor <;> omega), ?_⟩
  refine ⟨_, _, rfl, rfl, ?_⟩
  refine ⟨_, rfl, .inl ⟨_, rfl, _, rfl, _, _, rfl, rfl, hb, ?_⟩⟩
  exact q _ _ eL ⟨at_ + 1, ns, upd_same, hp1, by omega, hl0, hl, hns⟩ (Int.emod_nonneg _ (by omega)) (Int.emod_lt_of_pos _ hb)
end
end Mint


namespace Mint
open PySem PySem.Spec PyProof.Rows L2 GxR Gx RZ

/-! ### _law_stock -/
theorem atI_mem {α : Type} {xs : List α} {i : Int} (h0 : 0 ≤ i) (h1 : i < xs.length) : ∃ v, atI xs i = some v ∧ v ∈ xs := by
  have h2 : i.toNat < xs.length := by omega
  refine ⟨xs[i.toNat], ?_, List.getElem_mem h2⟩
  have := atI_nat (xs := xs) (j := i.toNat) (v := xs[i.toNat]) (List.getElem?_eq_getElem h2)
  rw [Int.toNat_of_nonneg h0] at this
  exact this
def spStockL : Sp := fun vs H Q _ => ∃ (d p0 : Addr) (n : Nat) (m : Int), vs = [.ref d, .int n, .int m] ∧ Draw H d p0 ∧ n ≤ 1000 ∧ 0 ≤ m ∧
  ∀ (H' : Hp) (p : Addr) (es : List Int), ExtL H H' → Draw H' d p0 → H p = none → H' p = some (.tup (es.map V.int)) → es.length = n → (∀ e ∈ es, 0 ≤ e ∧ e ≤ m) → Q (.ref p) H'
abbrev sStockL : Stmt := top 31
theorem scStockL : FnScope ["draws", "n", "most", "entries", "k", "entry"] ["draws", "n", "most"] (defScope sStockL) := ⟨rfl, rfl, rfl, by decide +kernel, rfl, by decide +kernel, by decide +kernel⟩
theorem Draw.new {H : Hp} {d p0 p : Addr} {o : HO} (h : Draw H d p0) (hp : H p = none) : Draw (L2.upd H p o) d p0 := h.ext (Ext.new hp o)
section
variable {P : Program} {w : World} {K : PySem.W.Frag} {mg : Str → Option Value} {base : Heap} {f T : Addr} {fd : FuncData}
theorem ok_stockL (F : Fun K "_law_stock" "_law_stock" sStockL f fd) (G : Glb mg) (DT : Def P w K mg base "_law_take" 1 ["draws", "bound"] spTake) : FnOk P w K mg base CX0 2 f fd ["draws", "n", "most"] spStockL := by
  refine F.ok scStockL (fun vs H Q E h => ?_) (fun cdv A outer s H vs Q E hr h => ?_)
  · obtain ⟨d, p0, n, m, rfl, _⟩ := h
    rfl
  obtain ⟨d, p0, n, m, rfl, hD, hn, hm, q⟩ := h
  have nd := scStockL.nd
  refine ⟨_, (pss_cons (ps_set (i := 3) nd rfl (Or.inl rfl) (pe_lst pa_nil))
    (pss_cons (ps_for PassesOwn.never rfl (pi_range1 rfl G.range (pa_cons (pv 1) pa_nil)) (pg_name (i := 4) nd rfl (Or.inl rfl)) (pss_one (ps_expr (pe_bm PySem.F.plainAttrs_list PySem.F.slot_list_append PySem.F.type_list_append mt_append (pv 3) (pa_cons (pe_ix ix_list (pe_lst (pa_cons pe_int (pa_cons pe_int (pa_cons pe_int (pa_cons pe_int (pa_cons (pe_c DT (hr) (pa_cons (pv 0) (pa_cons (pe_op op_add (pv 2) pe_int) pa_nil))) (pa_cons (pv 2) pa_nil))))))) (pe_c DT (hr) (pa_cons (pv 0) (pa_cons pe_int pa_nil))) (fun _ _ => rfl)) pa_nil)))))
    (pss_one (ps_ret (pe_callTy call_tuple_of rfl G.tuple (by decide +kernel) (pa_cons (pe_lc (own := [("entry", 5)]) (g := gName 5) (te := tCB (fun xs H Q => ∃ i j, xs = [.int i, .int j] ∧ Q (.int (if j < i then j else i)) H) (tCons (tVar 2) (tCons (tVar 5) tNil)))  rfl nd (pi_list (pv 3)) (blkOk_by (own := [("entry", 5)]) (N := ["draws", "n", "most", "entries", "k", "entry"]) (sc := defScope sStockL) (by decide +kernel)) (fun _ _ _ _ _ => (pg_name (i := 5) nd rfl (Or.inl rfl))) (fun _ _ _ _ _ => pts_nil) (fun _ _ _ _ _ => (pe_callB (call_min2 rfl) rfl G.min (by decide +kernel) (pa_cons (pv 2) (pa_cons (pv 5) pa_nil))))) pa_nil)))))), ?_⟩
  refine ⟨Nat.zero_le _, fun l hl => ?_⟩
  have e0 : ExtL H (upd H l (.lst [])) := Ext.new hl _
  refine ⟨_, rfl, n, rfl, by omega, by omega, ?_⟩
  refine for_range (lo := 0) (n := n) (fun i σ H' => ∃ (o4 : Option V) (es : List Int), σ = [some (.ref d), some (.int n), some (.int m), some (.ref l), o4, none] ∧ ExtL H H' ∧ Draw H' d p0 ∧ H' l = some (.lst (es.map V.int)) ∧ es.length = i ∧ ∀ e ∈ es, 0 ≤ e)
    ⟨none, [], rfl, e0, hD.new hl, upd_same, rfl, fun e he => by cases he⟩ (fun i σ H' hi ⟨o4, es, eσ, e1, hD1, hl1, hlen, hes⟩ => ?_) fun σ H' ⟨o4, es, eσ, e1, hD1, hl1, hlen, hes⟩ => ?_
  · subst eσ
    refine ⟨_, rfl, .inl ⟨rfl, _, SqL.of hl1⟩, _, rfl, _, rfl, m, 1, rfl, rfl, d, p0, m + 1, rfl, hD1, by omega, fun H2 v e2 hD2 hv0 hv1 => ?_⟩
    refine ⟨_, rfl, (by show 6 ≤ sizeLine; decide), fun p hp => ?_⟩
    refine ⟨_, rfl, d, p0, 6, rfl, hD2.new hp, by decide, fun H3 i6 e3 hD3 h60 h61 => ?_⟩
    have hp3 : H3 p = some (.lst [.int 0, .int 0, .int 1, .int 2, .int v, .int m]) := e3.obj _ _ rfl upd_same
    have e13 : ExtL H' H3 := (e2.trans (Ext.new hp _)).trans e3
    have hl3 : H3 l = some (.lst (es.map V.int)) := e13.obj _ _ rfl hl1
    obtain ⟨x, hx, hmem⟩ := atI_mem (xs := [V.int 0, .int 0, .int 1, .int 2, .int v, .int m]) h60 (by simpa using h61)
    have hxi : ∃ e : Int, x = .int e ∧ 0 ≤ e := by
      simp at hmem
      rcases hmem with z | z | z | z | z
      · exact ⟨_, z, by decide⟩
      · exact ⟨_, z, by decide⟩
      · exact ⟨_, z, by decide⟩
      · exact ⟨_, z, hv0⟩
      · exact ⟨_, z, hm⟩
    obtain ⟨e, rfl, he0⟩ := hxi
    refine ⟨p, _, i6, .int e, rfl, rfl, SqL.of hp3, hx, l, _, _, rfl, rfl, hl3, (by rw [List.length_map]; exact small1000 (by omega)), ?_⟩
    refine ⟨_, es ++ [e], rfl, (e1.trans e13).upd_new hl, hD3.upd hD hl, by rw [upd_same, List.map_append]; rfl, by rw [List.length_append, hlen]; rfl, fun y hy => ?_⟩
    rcases List.mem_append.mp hy with z | z
    · exact hes y z
    · rw [List.mem_singleton.mp z]; exact he0
  · subst eσ
    refine ⟨_, rfl, l, rfl, ⟨_, SqL.of hl1⟩, fun D hD0 => ?_⟩
    refine lc_list (xs := es.map V.int) (fun i H2 => ExtL H' H2 ∧ Draw H2 d p0 ∧ H2 D = some (.lst (((es.map fun e => if e < m then e else m).take i).map V.int))) ⟨Ext.new hD0 _, hD1.new hD0, upd_same⟩ (fun i H2 _ p => p.1.sqL (SqL.of hl1)) (fun i x H2 hx ⟨e2, hD2, hD3⟩ => ?_) fun H2 ⟨e2, hD2, hD3⟩ => ?_
    · rw [List.getElem?_map, Option.map_eq_some_iff] at hx
      obtain ⟨e, he, rfl⟩ := hx
      refine ⟨rfl, _, rfl, _, rfl, m, e, rfl, _, hD3, ?_, e2.upd_new hD0, hD2.upd hD1 hD0, ?_⟩
      · rw [List.length_map, List.length_take, List.length_map]
        exact small1000 (by omega)
      · rw [upd_same, List.take_add_one, List.getElem?_map, he]
        simp
    · rw [List.length_map, ← List.length_map (f := fun e => if e < m then e else m), List.take_length] at hD3
      refine ⟨D, _, rfl, .inl ⟨SqL.of hD3, fun p hp => ?_⟩⟩
      refine q _ p (es.map fun e => if e < m then e else m) ((e1.trans e2).upd_new ((e1.trans e2).non p hp)) (hD2.upd hD2 hp) ((e1.trans e2).non p hp) upd_same (by rw [List.length_map, hlen]) fun y hy => ?_
      obtain ⟨e, he, rfl⟩ := List.mem_map.mp hy
      have := hes e he
      show 0 ≤ (if e < m then e else m) ∧ (if e < m then e else m) ≤ m
      split <;> omega
end
end Mint


namespace Mint
open PySem PySem.Spec PyProof.Rows L2 GxR Gx RZ

/-! ### _law_named -/
theorem cps_app (a b : Str) : (a ++ b).cps.toList = a.cps.toList ++ b.cps.toList := by
  show (a.cps ++ b.cps).toList = _
  simp
theorem str_ext {a b : Str} (h : a.cps.toList = b.cps.toList) : a = b := by
  obtain ⟨a⟩ := a
  obtain ⟨b⟩ := b
  exact congrArg Str.mk (Array.toList_inj.mp h)
theorem str_len (a : Str) : a.length = a.cps.toList.length := by
  show a.cps.size = _
  simp
theorem join_signs (cs : List Nat) : (Txt.join "" (cs.map fun c => ⟨#[c]⟩)).cps.toList = cs := by
  have e : (Str.ofString "" : Str) = Str.empty := by decide +kernel
  rw [e]
  unfold Txt.join
  rw [StrLaws.glued_eq_join]
  induction cs with
  | nil => rfl
  | cons c r ih =>
    cases r with
    | nil => rfl
    | cons d r =>
      show ((⟨#[c]⟩ ++ Str.empty) ++ Str.join Str.empty ((d :: r).map fun c => (⟨#[c]⟩ : Str))).cps.toList = _
      rw [cps_app, cps_app, ih]
      rfl
/-- a name that was drawn, the i-th one -/
def GoodName (i : Nat) (x : Str) : Prop := ∃ (c0 : Nat) (cs : List Nat), x.cps.toList = c0 :: (cs ++ [97 + i]) ∧ c0 ∈ lettersS.cps.toList ∧ (∀ c ∈ cs, c ∈ signsS.cps.toList) ∧ cs.length ≤ 9 ∧ cs.length ≠ 5
theorem GoodName.inj {i j : Nat} {x : Str} (h : GoodName i x) (h2 : GoodName j x) : i = j := by
  obtain ⟨c0, cs, e, _⟩ := h
  obtain ⟨d0, ds, e2, _⟩ := h2
  rw [e] at e2
  have e3 := congrArg List.getLast? e2
  rw [← List.cons_append, ← List.cons_append, List.getLast?_concat, List.getLast?_concat] at e3
  have := Option.some.inj e3
  omega
theorem GoodName.small {i : Nat} {x : Str} (h : GoodName i x) : x.length ≤ sizeLine := by
  obtain ⟨c0, cs, e, _, _, h9, _⟩ := h
  rw [str_len, e, sizeLine_eq]
  simp
  omega
theorem GoodName.name {i : Nat} {x : Str} (hi : i < 14) (h : GoodName i x) : fNameS x = true := by
  obtain ⟨c0, cs, e, h0, hs, h9, h5⟩ := h
  have hl : x.length = cs.length + 2 := by rw [str_len, e]; simp
  have sub : ∀ c, c ∈ lettersS.cps.toList → okSign c = true := by decide +kernel
  have last : okSign (97 + i) = true := by
    have all : ∀ j : Fin 14, okSign (97 + j.val) = true := by decide +kernel
    exact all ⟨i, hi⟩
  have ne : ∀ y : Str, y.cps.toList ≠ c0 :: (cs ++ [97 + i]) → (y == x) = false := fun y hy => by
    rw [beq_eq_false_iff_ne]
    intro z
    exact hy (by rw [z, e])
  have ends : ∀ (l : List Nat) (z : Nat), l.getLast? = some z → z ≠ 97 + i → l ≠ c0 :: (cs ++ [97 + i]) := fun l z h1 h2 h3 => by
    rw [h3, ← List.cons_append, List.getLast?_concat] at h1
    exact h2 (Option.some.inj h1).symm
  have lens : ∀ (l : List Nat), l.length ≠ cs.length + 2 → l ≠ c0 :: (cs ++ [97 + i]) := fun l h1 h3 => h1 (by rw [h3]; simp)
  have res : inV (.str x) reservedV = false := by
    show ((eqV (.str "kinds") (.str x)) || ((eqV (.str "nothing") (.str x)) || ((eqV (.str "endless") (.str x)) || ((eqV (.str "x") (.str x)) || false)))) = false
    have k1 : eqV (.str "kinds") (.str x) = false := ne "kinds" (ends _ 115 (by decide +kernel) (by omega))
    have n7 : (Str.ofString "nothing").cps.toList.length = 7 := by decide +kernel
    have n1 : (Str.ofString "x").cps.toList.length = 1 := by decide +kernel
    have k2 : eqV (.str "nothing") (.str x) = false := ne "nothing" (lens _ (by rw [n7]; omega))
    have k3 : eqV (.str "endless") (.str x) = false := ne "endless" (ends _ 115 (by decide +kernel) (by omega))
    have k4 : eqV (.str "x") (.str x) = false := ne "x" (lens _ (by rw [n1]; omega))
    rw [k1, k2, k3, k4]
    rfl
  unfold fNameS
  rw [e, res, hl, decide_eq_true (by omega), decide_eq_true (by omega)]
  simp only [Bool.not_false, Bool.and_true, Bool.true_and]
  rw [decide_eq_true h0, Bool.true_and, List.all_cons, sub c0 h0, Bool.true_and, List.all_append, List.all_cons, last]
  simp only [List.all_nil, Bool.and_true]
  exact List.all_eq_true.mpr fun c hc => decide_eq_true (hs c hc)
def spNamed : Sp := fun vs H Q _ => ∃ (d p0 : Addr), vs = [.ref d] ∧ Draw H d p0 ∧ ∀ (H' : Hp) (p : Addr) (xs : List Str), ExtL H H' → Draw H' d p0 → H p = none → H' p = some (.lst (xs.map V.str)) → xs.length = 14 → (∀ i x, xs[i]? = some x → GoodName i x) → Q (.ref p) H'
abbrev sNamed : Stmt := top 30
theorem scNamed : FnScope ["draws", "small", "names", "k", "size", "rest", "n"] ["draws"] (defScope sNamed) := ⟨rfl, rfl, rfl, by decide +kernel, rfl, by decide +kernel, by decide +kernel⟩
section
variable {P : Program} {w : World} {K : PySem.W.Frag} {mg : Str → Option Value} {base : Heap} {f T : Addr} {fd : FuncData}
theorem ok_named (F : Fun K "_law_named" "_law_named" sNamed f fd) (G : Glb mg) (DT : Def P w K mg base "_law_take" 1 ["draws", "bound"] spTake) : FnOk P w K mg base CX0 2 f fd ["draws"] spNamed := by
  refine F.ok scNamed (fun vs H Q E h => ?_) (fun cdv A outer s H vs Q E hr h => ?_)
  · obtain ⟨d, p0, rfl, _⟩ := h
    rfl
  obtain ⟨d, p0, rfl, hD, q⟩ := h
  have nd := scNamed.nd
  refine ⟨_, (pss_cons (ps_set (i := 1) nd rfl (Or.inr rfl) pe_str)
    (pss_cons (ps_set (i := 2) nd rfl (Or.inl rfl) (pe_lst pa_nil))
    (pss_cons (ps_for PassesOwn.never rfl (pi_range1 rfl G.range (pa_cons pe_int pa_nil)) (pg_name (i := 3) nd rfl (Or.inl rfl)) (pss_cons (ps_set (i := 4) nd rfl (Or.inl rfl) (pe_ix ix_list (pe_lst (pa_cons pe_int (pa_cons pe_int (pa_cons pe_int (pa_cons pe_int (pa_cons pe_int pa_nil)))))) (pe_c DT (hr) (pa_cons (pv 0) (pa_cons pe_int pa_nil))) (fun _ _ => rfl)))
    (pss_cons (ps_set (i := 5) nd rfl (Or.inl rfl) (pe_join pe_str (pe_lc (own := [("n", 6)]) (g := gName 6) (te := tOp rIxS (tOp (fun x y H Q => ∃ i j, x = V.str i ∧ y = V.str j ∧ i.length + j.length ≤ sizeLine ∧ Q (V.str (i ++ j)) H) (tVar 1) (tC (.str "0123456789"))) (tCall spTake [] E0 (tCons (tVar 0) (tCons (tC (.int 36)) tNil))))  rfl nd (pi_range1 rfl G.range (pa_cons (pv 4) pa_nil)) (blkOk_by (own := [("n", 6)]) (N := ["draws", "small", "names", "k", "size", "rest", "n"]) (sc := defScope sNamed) (by decide +kernel)) (fun _ _ _ _ _ => (pg_name (i := 6) nd rfl (Or.inl rfl))) (fun _ _ _ _ _ => pts_nil) (fun _ _ _ _ _ => (pe_ix ix_str (pe_op op_add_str (pv 1) pe_str) (pe_c DT (hr) (pa_cons (pv 0) (pa_cons pe_int pa_nil))) (fun _ _ => rfl))))))
    (pss_one (ps_expr (pe_bm PySem.F.plainAttrs_list PySem.F.slot_list_append PySem.F.type_list_append mt_append (pv 2) (pa_cons (pe_op op_add_str (pe_op op_add_str (pe_ix ix_str (pv 1) (pe_c DT (hr) (pa_cons (pv 0) (pa_cons pe_int pa_nil))) (fun _ _ => rfl)) (pv 5)) (pe_ix ix_str pe_str (pv 3) (fun _ _ => rfl))) pa_nil)))))))
    (pss_one (ps_ret (pv 2)))))), ?_⟩
  refine ⟨Nat.zero_le _, fun l hl => ?_⟩
  have e0 : ExtL H (upd H l (.lst [])) := Ext.new hl _
  have hsz : ∀ n : Nat, n ≤ 1000 → n ≤ sizeLine := fun n hn => Nat.le_of_lt (small1000 hn)
  have lS : lettersS.cps.toList.length = 26 := by decide +kernel
  have lC : (lettersS ++ (Str.ofString "0123456789")).cps.toList = signsS.cps.toList := by decide +kernel
  have lD : signsS.cps.toList.length = 36 := by decide +kernel
  have tail : ∀ j : Fin 14, atI (Str.ofString "abcdefghijklmn").cps.toList (0 + (j.val : Int)) = some (97 + j.val) := by decide +kernel
  refine ⟨14, rfl, by decide, by decide, ?_⟩
  refine for_range (lo := 0) (n := 14) (fun i σ H' => ∃ (o3 o4 o5 : Option V) (xs : List Str), σ = [some (.ref d), some (.str lettersS), some (.ref l), o3, o4, o5, none] ∧ ExtL H H' ∧ Draw H' d p0 ∧ H' l = some (.lst (xs.map V.str)) ∧ xs.length = i ∧ ∀ j x, xs[j]? = some x → GoodName j x)
    ⟨none, none, none, [], rfl, e0, hD.new hl, upd_same, rfl, fun j x hx => by simp at hx⟩ (fun i σ H' hi ⟨o3, o4, o5, xs, eσ, e1, hD1, hl1, hlen, hxs⟩ => ?_) fun σ H' ⟨o3, o4, o5, xs, eσ, e1, hD1, hl1, hlen, hxs⟩ => ?_
  · subst eσ
    refine ⟨hsz 5 (by decide), fun p hp => ?_⟩
    refine ⟨_, rfl, d, p0, 5, rfl, hD1.new hp, by decide, fun H2 i5 e2 hD2 h50 h51 => ?_⟩
    have hp2 : H2 p = some (.lst [.int 0, .int 0, .int 1, .int 2, .int 9]) := e2.obj _ _ rfl upd_same
    obtain ⟨x, hx, hmem⟩ := atI_mem (xs := [V.int 0, .int 0, .int 1, .int 2, .int 9]) h50 (by simpa using h51)
    have hxi : ∃ e : Nat, x = .int (e : Int) ∧ e ≤ 9 ∧ e ≠ 5 := by
      simp at hmem
      rcases hmem with z | z | z | z
      · exact ⟨0, z, by decide⟩
      · exact ⟨1, z, by decide⟩
      · exact ⟨2, z, by decide⟩
      · exact ⟨9, z, by decide⟩
    obtain ⟨sz, rfl, hz9, hz5⟩ := hxi
    have e02 : ExtL H' H2 := (Ext.new hp _).trans e2
    refine ⟨p, _, i5, .int sz, rfl, rfl, SqL.of hp2, hx, ?_⟩
    -- rest
    refine ⟨⟨_, rfl⟩, _, rfl, (sz : Int), rfl, by omega, by omega, fun D hD0 => ?_⟩
    have zt : ((sz : Int)).toNat = sz := Int.toNat_natCast sz
    rw [zt]
    refine lc_range (lo := 0) (n := sz) (fun j H3 => ExtL H2 H3 ∧ Draw H3 d p0 ∧ ∃ cs : List Nat, H3 D = some (.lst ((cs.map fun c => (⟨#[c]⟩ : Str)).map V.str)) ∧ cs.length = j ∧ ∀ c ∈ cs, c ∈ signsS.cps.toList) ⟨Ext.new hD0 _, hD2.new hD0, [], upd_same, rfl, fun c hc => by cases hc⟩ (fun j H3 hj ⟨e3, hD3, cs, hcs, hcl, hcm⟩ => ?_) fun H3 ⟨e3, hD3, cs, hcs, hcl, hcm⟩ => ?_
    · refine ⟨rfl, _, rfl, lettersS, Str.ofString "0123456789", rfl, rfl, (by rw [str_len, str_len, lS]; exact hsz _ (by decide +kernel)), _, rfl, d, p0, 36, rfl, hD3, by decide, fun H4 v e4 hD4 hv0 hv1 => ?_⟩
      obtain ⟨c, hc, hcm2⟩ := atI_mem (xs := signsS.cps.toList) hv0 (by rw [lD]; exact hv1)
      have hcs4 : H4 D = some (.lst ((cs.map fun c => (⟨#[c]⟩ : Str)).map V.str)) := e4.obj _ _ rfl hcs
      refine ⟨_, v, c, rfl, rfl, (by rw [str_len, lC, lD]; exact hsz _ (by decide)), (by rw [lC]; exact hc), _, hcs4, ?_, (e3.trans e4).upd_new hD0, hD4.upd hD2 hD0, cs ++ [c], ?_, ?_, fun y hy => ?_⟩
      · rw [List.length_map, List.length_map]
        exact small1000 (by omega)
      · rw [upd_same, List.map_append, List.map_append]
        rfl
      · rw [List.length_append, hcl]
        rfl
      · rcases List.mem_append.mp hy with z | z
        · exact hcm y z
        · rw [List.mem_singleton.mp z]; exact hcm2
    refine ⟨_, D, _, rfl, rfl, .inl (SqL.of hcs), ?_, ?_⟩
    · have : ∀ l : List Nat, ((l.map fun c => (⟨#[c]⟩ : Str)).map (·.length)).sum = l.length := by
        intro l
        induction l with
        | nil => rfl
        | cons c r ih =>
          rw [List.map_cons, List.map_cons, List.sum_cons, ih, List.length_cons]
          show 1 + r.length = _
          omega
      have z0 : (Str.ofString "").length = 0 := by decide +kernel
      rw [this, z0]
      omega
    -- the name
    refine ⟨_, rfl, .inl ⟨rfl, _, SqL.of (e3.obj _ _ rfl (e02.obj _ _ rfl hl1))⟩, _, rfl, _, rfl, d, p0, 26, rfl, hD3, by decide, fun H4 v e4 hD4 hv0 hv1 => ?_⟩
    obtain ⟨c0, hc0, hm0⟩ := atI_mem (xs := lettersS.cps.toList) hv0 (by rw [lS]; exact hv1)
    have ej := join_signs cs
    have lj : (Txt.join "" (cs.map fun c => ⟨#[c]⟩)).length = cs.length := by rw [str_len, ej]
    have e14 : ExtL H' H4 := (e02.trans e3).trans e4
    have hl4 : H4 l = some (.lst (xs.map V.str)) := e14.obj _ _ rfl hl1
    refine ⟨lettersS, v, c0, rfl, rfl, (by rw [str_len, lS]; exact hsz _ (by decide)), hc0, _, rfl, ⟨#[c0]⟩, _, rfl, rfl, ?_, _, rfl, _, _, 97 + i, rfl, rfl, ?_, tail ⟨i, hi⟩, _, _, rfl, rfl, ?_, l, _, _, rfl, rfl, hl4, ?_, ?_⟩
    · rw [lj]
      exact hsz _ (by show 1 + cs.length ≤ 1000; omega)
    · have l14 : (Str.ofString "abcdefghijklmn").length = 14 := by decide +kernel
      rw [l14]
      exact hsz _ (by decide)
    · rw [str_len, cps_app, List.length_append, ej]
      exact hsz _ (by show (1 + cs.length) + 1 ≤ 1000; omega)
    · rw [List.length_map]
      exact small1000 (by omega)
    have gn : GoodName i ((⟨#[c0]⟩ ++ Txt.join "" (cs.map fun c => ⟨#[c]⟩)) ++ ⟨#[97 + i]⟩) := by
      refine ⟨c0, cs, ?_, hm0, hcm, by omega, by omega⟩
      rw [cps_app, cps_app, ej]
      rfl
    refine ⟨_, _, _, xs ++ [_], rfl, (e1.trans e14).upd_new hl, hD4.upd hD hl, by rw [upd_same, List.map_append]; rfl, by rw [List.length_append, hlen]; rfl, fun j x hx => ?_⟩
    rcases Nat.lt_or_ge j xs.length with h | h
    · rw [List.getElem?_append_left h] at hx
      exact hxs j x hx
    · rw [List.getElem?_append_right h] at hx
      have hj : j - xs.length = 0 := by
        have := (List.getElem?_eq_some_iff.mp hx).1
        simp at this
        omega
      rw [hj] at hx
      have ex : _ = x := Option.some.inj hx
      rw [← ex, show j = i by omega]
      exact gn
  · subst eσ
    exact ⟨_, rfl, q _ l xs e1 hD1 hl hl1 hlen hxs⟩
end
end Mint


namespace Mint
open PySem PySem.Spec PyProof.Rows L2 GxR Gx RZ

/-! ### _law_book -/
theorem cut_upto (xs : List V) (k : Nat) : cutV xs none (some (k : Int)) = xs.take k := by
  unfold cutV
  rw [HT.sIx_none, HT.sIx_nat, List.drop_zero, Nat.sub_zero]
  rcases Nat.le_total k xs.length with h | h
  · rw [Nat.min_eq_left h]
  · rw [Nat.min_eq_right h, List.take_of_length_le (Nat.le_refl _), List.take_of_length_le h]
abbrev intsD (es : List Int) : PyData := .tuple (es.map PyData.int)
structure Mv where
  name : Str
  take : List Int
  low : List Int
  high : List Int
def moveD (m : Mv) : PyData := .tuple [.str m.name, intsD m.take, intsD m.low, intsD m.high]
def Small (n : Nat) (top : Int) (es : List Int) : Prop := es.length = n ∧ ∀ e ∈ es, 0 ≤ e ∧ e ≤ top
structure GoodMv (n j : Nat) (m : Mv) : Prop where
  name : GoodName (6 + j) m.name
  take : Small n 1000 m.take
  low : Small n 1000 m.low
  high : Small n 1000 m.high
  le : (List.zipWith (fun a b => decide (a ≤ b)) m.low m.high).all id = true
structure GoodBk (kn : List Str) (mv : List Mv) : Prop where
  one : 1 ≤ kn.length
  six : kn.length ≤ 6
  eight : mv.length ≤ 8
  kinds : ∀ i x, kn[i]? = some x → GoodName i x
  moves : ∀ j m, mv[j]? = some m → GoodMv kn.length j m
abbrev bkD (kn : List Str) (mv : List Mv) : PyData := bookD (kn.map PyData.str) (mv.map moveD)
theorem dp_ints {K : PySem.W.Frag} {H : Hp} : ∀ es : List Int, DpAll K H (es.map V.int) (es.map PyData.int)
  | [] => .nil
  | e :: r => .cons (.int e) (dp_ints r)
theorem dp_strs {K : PySem.W.Frag} {H : Hp} : ∀ es : List Str, DpAll K H (es.map V.str) (es.map PyData.str)
  | [] => .nil
  | e :: r => .cons (.str e) (dp_strs r)
theorem dp_app {K : PySem.W.Frag} {H : Hp} : ∀ {xs ys : List V} {ds es : List PyData}, DpAll K H xs ds → DpAll K H ys es → DpAll K H (xs ++ ys) (ds ++ es)
  | _, _, _, _, .nil, h => h
  | _, _, _, _, .cons a t, h => .cons a (dp_app t h)
mutual
def noLst : PyData → Bool
  | .list _ => false
  | .tuple ds => noLsts ds
  | _ => true
def noLsts : List PyData → Bool
  | [] => true
  | d :: r => noLst d && noLsts r
end
section
variable {K : PySem.W.Frag} {H : Hp} {l : Addr} {xs : List V} {o : HO}
theorem sqT_upd {a : Addr} {ys : List V} (hl : H l = some (.lst xs)) (h : SqT K H a ys) : SqT K (upd H l o) a ys := by
  rcases h with (h | ⟨ob, h⟩) | h
  · exact .inl (.inl ((upd_ne (ne_of h hl fun z => by cases z)).trans h))
  · exact .inl (.inr ⟨ob, (upd_ne (ne_of h hl fun z => by cases z)).trans h⟩)
  · exact .inr h
mutual
theorem dp_upd (hl : H l = some (.lst xs)) : ∀ {d : PyData} {v : V}, noLst d = true → Dp K H v d → Dp K (upd H l o) v d
  | _, _, _, .non => .non
  | _, _, _, .bl b => .bl b
  | _, _, _, .int i => .int i
  | _, _, _, .str x => .str x
  | _, _, n, .lst h t => by cases n
  | _, _, n, .tup h t => .tup (sqT_upd hl h) (dps_upd hl n t)
theorem dps_upd (hl : H l = some (.lst xs)) : ∀ {ds : List PyData} {vs : List V}, noLsts ds = true → DpAll K H vs ds → DpAll K (upd H l o) vs ds
  | _, _, _, .nil => .nil
  | _, _, n, .cons h t => by
    have n' : noLst _ = true ∧ noLsts _ = true := Bool.and_eq_true_iff.mp n
    exact .cons (dp_upd hl n'.1 h) (dps_upd hl n'.2 t)
end
end
theorem noLsts_ints : ∀ es : List Int, noLsts (es.map PyData.int) = true
  | [] => rfl
  | _ :: r => noLsts_ints r
theorem noLsts_strs : ∀ es : List Str, noLsts (es.map PyData.str) = true
  | [] => rfl
  | _ :: r => noLsts_strs r
theorem noLst_move (m : Mv) : noLst (moveD m) = true := by
  show (noLst (.str m.name) && (noLst (intsD m.take) && (noLst (intsD m.low) && (noLst (intsD m.high) && true)))) = true
  have h : ∀ es, noLst (intsD es) = true := noLsts_ints
  rw [h, h, h]
  rfl
theorem noLsts_moves : ∀ mv : List Mv, noLsts (mv.map moveD) = true
  | [] => rfl
  | m :: r => by
    show (noLst (moveD m) && noLsts (r.map moveD)) = true
    rw [noLst_move, noLsts_moves r]
    rfl
theorem zip_self (es : List Int) : (List.zipWith (fun a b => decide (a ≤ b)) es es).all id = true := by
  induction es with
  | nil => rfl
  | cons a r ih => simp [ih]
theorem zip_le : ∀ (xs ys : List Int), (∀ (u : Nat) (a b : Int), xs[u]? = some a → ys[u]? = some b → a ≤ b) → (List.zipWith (fun a b => decide (a ≤ b)) xs ys).all id = true
  | [], _, _ => by simp
  | _ :: _, [], _ => by simp
  | x :: xs, y :: ys, h => by
    rw [List.zipWith_cons_cons, List.all_cons, zip_le xs ys fun u a b ha hb => h (u + 1) a b (by simpa using ha) (by simpa using hb)]
    simp only [id_eq, Bool.and_true, decide_eq_true_eq]
    exact h 0 x y rfl rfl
def spBookL (K : PySem.W.Frag) : Sp := fun vs H Q _ => ∃ (d p0 : Addr) (m : Int), vs = [.ref d, .int m] ∧ Draw H d p0 ∧ 0 ≤ m ∧ m ≤ 1000 ∧
  ∀ (H' : Hp) (b : V) (kn : List Str) (mv : List Mv), ExtL H H' → Draw H' d p0 → Dp K H' b (bkD kn mv) → GoodBk kn mv → Q b H'
abbrev sBookL : Stmt := top 32
theorem scBookL : FnScope ["draws", "most", "names", "n", "moves", "k", "take", "high", "low", "entry"] ["draws", "most"] (defScope sBookL) := ⟨rfl, rfl, rfl, by decide +kernel, rfl, by decide +kernel, by decide +kernel⟩
section
variable {P : Program} {w : World} {K : PySem.W.Frag} {mg : Str → Option Value} {base : Heap} {f T : Addr} {fd : FuncData}
theorem ok_bookL (F : Fun K "_law_book" "_law_book" sBookL f fd) (G : Glb mg) (DT : Def P w K mg base "_law_take" 1 ["draws", "bound"] spTake) (DN : Def P w K mg base "_law_named" 2 ["draws"] spNamed) (DS : Def P w K mg base "_law_stock" 2 ["draws", "n", "most"] spStockL) :
    FnOk P w K mg base CX0 3 f fd ["draws", "most"] (spBookL K) := by
  refine F.ok scBookL (fun vs H Q E h => ?_) (fun cdv A outer s H vs Q E hr h => ?_)
  · obtain ⟨d, p0, m, rfl, _⟩ := h
    rfl
  obtain ⟨d, p0, m, rfl, hD, hm0, hm1, q⟩ := h
  have nd := scBookL.nd
  refine ⟨_, (pss_cons (ps_set (i := 2) nd rfl (Or.inl rfl) (pe_c DN (hr) (pa_cons (pv 0) pa_nil)))
    (pss_cons (ps_set (i := 3) nd rfl (Or.inl rfl) (pe_op op_add pe_int (pe_c DT (hr.mono (by decide)) (pa_cons (pv 0) (pa_cons pe_int pa_nil)))))
    (pss_cons (ps_set (i := 4) nd rfl (Or.inl rfl) (pe_lst pa_nil))
    (pss_cons (ps_for PassesOwn.never rfl (pi_range1 rfl G.range (pa_cons (pe_c DT (hr.mono (by decide)) (pa_cons (pv 0) (pa_cons pe_int pa_nil))) pa_nil)) (pg_name (i := 5) nd rfl (Or.inl rfl)) (pss_cons (ps_set (i := 6) nd rfl (Or.inl rfl) (pe_c DS (hr) (pa_cons (pv 0) (pa_cons (pv 3) (pa_cons (pv 1) pa_nil)))))
    (pss_cons (ps_set (i := 7) nd rfl (Or.inl rfl) (pe_c DS (hr) (pa_cons (pv 0) (pa_cons (pv 3) (pa_cons (pv 1) pa_nil)))))
    (pss_cons (ps_set (i := 8) nd rfl (Or.inl rfl) (pv 7))
    (pss_cons (ps_if (pt_cmpR op_eq (pe_c DT (hr.mono (by decide)) (pa_cons (pv 0) (pa_cons pe_int pa_nil))) pe_int (nomark _)) (pss_one (ps_set (i := 8) nd rfl (Or.inl rfl) (pe_callTy call_tuple_of rfl G.tuple (by decide +kernel) (pa_cons (pe_lc (own := [("entry", 9)]) (g := gName 9) (te := tCall spTake [] E0 (tCons (tVar 0) (tCons (tOp (rI0 fun i j => .int (i + j)) (tVar 9) (tC (.int 1))) tNil)))  rfl nd (pi_tup (pv 7)) (blkOk_by (own := [("entry", 9)]) (N := ["draws", "most", "names", "n", "moves", "k", "take", "high", "low", "entry"]) (sc := defScope sBookL) (by decide +kernel)) (fun _ _ _ _ _ => (pg_name (i := 9) nd rfl (Or.inl rfl))) (fun _ _ _ _ _ => pts_nil) (fun _ _ _ _ _ => (pe_c DT (hr.mono (by decide)) (pa_cons (pv 0) (pa_cons (pe_op op_add (pv 9) pe_int) pa_nil))))) pa_nil)))) pss_nil)
    (pss_one (ps_expr (pe_bm PySem.F.plainAttrs_list PySem.F.slot_list_append PySem.F.type_list_append mt_append (pv 4) (pa_cons (pe_tup (pa_cons (pe_ix ix_list (pv 2) (pe_op op_add pe_int (pv 5)) (fun _ _ => rfl)) (pa_cons (pv 6) (pa_cons (pv 8) (pa_cons (pv 7) pa_nil))))) pa_nil)))))))))
    (pss_one (ps_ret (pe_tup (pa_cons (pe_callTy call_tuple_of rfl G.tuple (by decide +kernel) (pa_cons (pe_slice sl_list (pv 2) po_none (po_some (pv 3))) pa_nil)) (pa_cons (pe_callTy call_tuple_of rfl G.tuple (by decide +kernel) (pa_cons (pv 4) pa_nil)) pa_nil))))))))), ?_⟩
  refine ⟨_, rfl, d, p0, rfl, hD, fun H1 pn xs e1 hD1 hpn hnm hx14 hxs => ?_⟩
  refine ⟨_, rfl, d, p0, 6, rfl, hD1, by decide, fun H2 v6 e2 hD2 hv0 hv1 => ?_⟩
  refine ⟨1, v6, rfl, rfl, ?_⟩
  obtain ⟨n, hn⟩ : ∃ n : Nat, 1 + v6 = (n : Int) := ⟨(1 + v6).toNat, by omega⟩
  show gName 3 (V.int (1 + v6)) _ _ _
  rw [hn]
  have hn1 : 1 ≤ n := by omega
  have hn6 : n ≤ 6 := by omega
  refine ⟨Nat.zero_le _, fun l hl => ?_⟩
  have e02 : ExtL H H2 := e1.trans e2
  have hlH : H l = none := e02.non l hl
  have e03 : ExtL H (upd H2 l (.lst [])) := e02.trans (Ext.new hl _)
  have hnm2 : H2 pn = some (.lst (xs.map V.str)) := e2.obj _ _ rfl hnm
  refine ⟨_, rfl, d, p0, 9, rfl, hD2.new hl, by decide, fun H3 v9 e3 hD3 hw0 hw1 => ⟨v9, rfl, by omega, by omega, ?_⟩⟩
  obtain ⟨c9, hc9⟩ : ∃ c : Nat, v9 = (c : Int) := ⟨v9.toNat, by omega⟩
  have hc8 : c9 ≤ 8 := by omega
  subst hc9
  rw [Int.toNat_natCast]
  refine for_range (lo := 0) (n := c9) (fun i σ H' => ∃ (o5 o6 o7 o8 : Option V) (rs : List V) (mv : List Mv), σ = [some (.ref d), some (.int m), some (.ref pn), some (.int n), some (.ref l), o5, o6, o7, o8, none] ∧ ExtL H2 H' ∧ Draw H' d p0 ∧ H' l = some (.lst rs) ∧ DpAll K H' rs (mv.map moveD) ∧ mv.length = i ∧ (∀ j m, mv[j]? = some m → GoodMv n j m))
    ⟨none, none, none, none, [], [], rfl, (Ext.new hl _).trans e3, hD3, e3.obj _ _ rfl upd_same, .nil, rfl, fun j m hj => by simp at hj⟩ (fun i σ H' hi ⟨o5, o6, o7, o8, rs, mv, eσ, e4, hD4, hl4, hdp, hlen, hmv⟩ => ?_) fun σ H' ⟨o5, o6, o7, o8, rs, mv, eσ, e4, hD4, hl4, hdp, hlen, hmv⟩ => ?_
  · subst eσ
    have hll : H2 l = none := hl
    refine ⟨_, rfl, _, rfl, _, rfl, d, p0, n, m, rfl, hD4, by omega, hm0, fun H5 pt ts e5 hD5 hpt ht1 ht2 ht3 => ?_⟩
    refine ⟨_, rfl, _, rfl, _, rfl, d, p0, n, m, rfl, hD5, by omega, hm0, fun H6 ph hs e6 hD6 hph hh1 hh2 hh3 => ?_⟩
    refine ⟨_, rfl, ?_⟩
    refine ⟨_, rfl, d, p0, 3, rfl, hD6, by decide, fun H7 v3 e7 hD7 hv30 hv31 => ⟨rfl, _, rfl, ?_⟩⟩
    have e47 : ExtL H' H7 := (e5.trans e6).trans e7
    have eAll : ExtL H H7 := (e02.trans e4).trans e47
    have tk7 : H7 pt = some (.tup (ts.map V.int)) := (e6.trans e7).obj _ _ rfl ht1
    have hg7 : H7 ph = some (.tup (hs.map V.int)) := e7.obj _ _ rfl hh1
    have sT : Small n 1000 ts := ⟨ht2, fun e he => ⟨(ht3 e he).1, Int.le_trans (ht3 e he).2 hm1⟩⟩
    have sH : Small n 1000 hs := ⟨hh2, fun e he => ⟨(hh3 e he).1, Int.le_trans (hh3 e he).2 hm1⟩⟩
    -- what the turn ends with, once low is there
    have fin : ∀ (H8 : Hp) (pl : Addr) (ls : List Int), ExtL H7 H8 → Draw H8 d p0 → H8 pl = some (.tup (ls.map V.int)) → Small n 1000 ls → (List.zipWith (fun a b => decide (a ≤ b)) ls hs).all id = true → ∀ (R : Hp → Prop),
        (∀ H9 r, ExtL H7 H9 → Draw H9 d p0 → H9 l = some (.lst rs) → Dp K H9 (.ref r) (moveD ⟨(xs.getD (6 + i) Str.empty), ts, ls, hs⟩) → R (upd H9 l (.lst (rs ++ [.ref r])))) → ∃ y, atI (xs.map V.str) (6 + (0 + (i : Int))) = some y ∧ ∀ r, H8 r = none → R (upd (upd H8 r (.tup [y, .ref pt, .ref pl, .ref ph])) l (.lst (rs ++ [.ref r]))) := by
      intro H8 pl ls e8 hD8 hpl sL hle R hR
      have h14 : 6 + i < xs.length := by omega
      have hx : xs[6 + i]? = some (xs.getD (6 + i) Str.empty) := by rw [List.getD_eq_getElem?_getD, List.getElem?_eq_getElem h14]; rfl
      refine ⟨.str (xs.getD (6 + i) Str.empty), ?_, fun r hr => ?_⟩
      · have := atI_nat (xs := xs.map V.str) (j := 6 + i) (v := .str (xs.getD (6 + i) Str.empty)) (by rw [List.getElem?_map, hx]; rfl)
        rw [show (6 + (0 + (i : Int)) : Int) = ((6 + i : Nat) : Int) by omega]
        exact this
      · have e9 : ExtL H8 (upd H8 r (.tup [.str (xs.getD (6 + i) Str.empty), .ref pt, .ref pl, .ref ph])) := Ext.new hr _
        have e79 := e8.trans e9
        refine hR _ r e79 (hD8.new hr) ((e47.trans e79).obj _ _ rfl hl4) ?_
        exact .tup (SqT.of upd_same) (.cons (.str _) (.cons (.tup (SqT.of (e79.obj _ _ rfl tk7)) (dp_ints ts)) (.cons (.tup (SqT.of (e9.obj _ _ rfl hpl)) (dp_ints ls)) (.cons (.tup (SqT.of (e79.obj _ _ rfl hg7)) (dp_ints hs)) .nil))))
    have h14 : 6 + i < xs.length := by omega
    have hx : xs[6 + i]? = some (xs.getD (6 + i) Str.empty) := by rw [List.getD_eq_getElem?_getD, List.getElem?_eq_getElem h14]; rfl
    have hl7 : H7 l = some (.lst rs) := e47.obj _ _ rfl hl4
    have hn7 : H7 pn = some (.lst (xs.map V.str)) := (e4.trans e47).obj _ _ rfl hnm2
    -- the new state
    have next : ∀ (ls : List Int), Small n 1000 ls → (List.zipWith (fun a b => decide (a ≤ b)) ls hs).all id = true → ∀ (o8 : Option V) (H9 : Hp) (r : Addr), ExtL H7 H9 → Draw H9 d p0 → H9 l = some (.lst rs) → Dp K H9 (.ref r) (moveD ⟨(xs.getD (6 + i) Str.empty), ts, ls, hs⟩) →
        (fun Hx : Hp => ∃ (o5 o6 o7 o8' : Option V) (rs' : List V) (mv' : List Mv), ([some (V.ref d), some (.int m), some (.ref pn), some (.int n), some (.ref l), some (.int (0 + (i : Int))), some (.ref pt), some (.ref ph), o8, none] : L2.St) = [some (.ref d), some (.int m), some (.ref pn), some (.int n), some (.ref l), o5, o6, o7, o8', none] ∧ ExtL H2 Hx ∧ Draw Hx d p0 ∧ Hx l = some (.lst rs') ∧ DpAll K Hx rs' (mv'.map moveD) ∧ mv'.length = i + 1 ∧ (∀ j m, mv'[j]? = some m → GoodMv n j m)) (upd H9 l (.lst (rs ++ [.ref r]))) := by
      intro ls sL hle o8 H9 r e9 hD9 hl9 hd9
      refine ⟨_, _, _, _, rs ++ [.ref r], mv ++ [⟨(xs.getD (6 + i) Str.empty), ts, ls, hs⟩], rfl, ((e4.trans e47).trans e9).upd_new hl, hD9.upd hD hlH, upd_same, ?_, by rw [List.length_append, hlen]; rfl, fun j m hj => ?_⟩
      · rw [List.map_append]
        exact dp_app (dps_upd hl9 (noLsts_moves mv) ((e47.trans e9).dps hdp)) (.cons (dp_upd hl9 (noLst_move _) hd9) .nil)
      · rcases Nat.lt_or_ge j mv.length with h | h
        · rw [List.getElem?_append_left h] at hj
          exact hmv j m hj
        · rw [List.getElem?_append_right h] at hj
          have hz : j - mv.length = 0 := by
            have := (List.getElem?_eq_some_iff.mp hj).1
            simp at this
            omega
          rw [hz] at hj
          have em : _ = m := Option.some.inj hj
          rw [← em, show j = i by omega]
          exact ⟨hxs _ _ hx, sT, sL, sH, hle⟩
    refine ite2 (fun c1 => ?_) (fun c1 => ?_)
    · refine ⟨_, rfl, ph, rfl, ⟨_, SqT.of hg7⟩, fun D hD0 => ?_⟩
      refine lc_tup (xs := hs.map V.int) (fun j H3 => ExtL H7 H3 ∧ Draw H3 d p0 ∧ ∃ ls : List Int, H3 D = some (.lst (ls.map V.int)) ∧ ls.length = j ∧ ∀ (u : Nat) (a b : Int), ls[u]? = some a → hs[u]? = some b → 0 ≤ a ∧ a ≤ b) ⟨Ext.new hD0 _, hD7.new hD0, [], upd_same, rfl, fun u a b hu => by simp at hu⟩ (fun j H3 _ p => p.1.sqT (SqT.of hg7)) (fun j x H3 hx ⟨e8, hD8, ls, hls, hll8, hle8⟩ => ?_) fun H3 ⟨e8, hD8, ls, hls, hll8, hle8⟩ => ?_
      · rw [List.getElem?_map, Option.map_eq_some_iff] at hx
        obtain ⟨b, hb, rfl⟩ := hx
        have hbm : b ∈ hs := List.mem_of_getElem? hb
        have hb0 := (hh3 b hbm).1
        refine ⟨rfl, _, rfl, _, rfl, b, 1, rfl, rfl, d, p0, b + 1, rfl, hD8, by omega, fun H4 v e9 hD9 hv0 hv1 => ?_⟩
        have hls9 : H4 D = some (.lst (ls.map V.int)) := e9.obj _ _ rfl hls
        refine ⟨_, hls9, ?_, (e8.trans e9).upd_new hD0, hD9.upd hD7 hD0, ls ++ [v], ?_, ?_, fun u a b' ha hb' => ?_⟩
        · rw [List.length_map]
          have : j < hs.length := (List.getElem?_eq_some_iff.mp hb).1
          exact small1000 (by omega)
        · rw [upd_same, List.map_append]
          rfl
        · rw [List.length_append, hll8]
          rfl
        · rcases Nat.lt_or_ge u ls.length with h | h
          · rw [List.getElem?_append_left h] at ha
            exact hle8 u a b' ha hb'
          · rw [List.getElem?_append_right h] at ha
            have hz : u - ls.length = 0 := by
              have := (List.getElem?_eq_some_iff.mp ha).1
              simp at this
              omega
            rw [hz] at ha
            have em : v = a := Option.some.inj ha
            rw [show u = j by omega, hb] at hb'
            have eb : b = b' := Option.some.inj hb'
            omega
      · rw [List.length_map] at hll8
        have sL : Small n 1000 ls := by
          refine ⟨by rw [hll8, hh2], fun a ha => ?_⟩
          obtain ⟨u, hu, ea⟩ := List.getElem_of_mem ha
          have hu2 : u < hs.length := by omega
          have := hle8 u a hs[u] (by rw [List.getElem?_eq_getElem hu, ea]) (List.getElem?_eq_getElem hu2)
          have h3 := sH.2 hs[u] (List.getElem_mem hu2)
          exact ⟨this.1, Int.le_trans this.2 h3.2⟩
        have hle : (List.zipWith (fun a b => decide (a ≤ b)) ls hs).all id = true := zip_le ls hs fun u a b ha hb => (hle8 u a b ha hb).2
        refine ⟨D, _, rfl, .inl ⟨SqL.of hls, fun pl hpl => ?_⟩⟩
        have e8' : ExtL H7 (upd H3 pl (.tup (ls.map V.int))) := e8.trans (Ext.new hpl _)
        obtain ⟨y, hy, hR⟩ := fin (upd H3 pl (.tup (ls.map V.int))) pl ls e8' (hD8.new hpl) upd_same sL hle (fun Hx => ∃ (o5 o6 o7 o8' : Option V) (rs' : List V) (mv' : List Mv), ([some (V.ref d), some (.int m), some (.ref pn), some (.int n), some (.ref l), some (.int (0 + (i : Int))), some (.ref pt), some (.ref ph), some (.ref pl), none] : L2.St) = [some (.ref d), some (.int m), some (.ref pn), some (.int n), some (.ref l), o5, o6, o7, o8', none] ∧ ExtL H2 Hx ∧ Draw Hx d p0 ∧ Hx l = some (.lst rs') ∧ DpAll K Hx rs' (mv'.map moveD) ∧ mv'.length = i + 1 ∧ (∀ j m, mv'[j]? = some m → GoodMv n j m)) (next ls sL hle (some (.ref pl)))
        have hl8 := e8'.obj _ _ rfl hl7
        have hn8 := e8'.obj _ _ rfl hn7
        refine ⟨_, rfl, .inl ⟨rfl, _, SqL.of hl8⟩, _, rfl, _, rfl, 6, 0 + (i : Int), rfl, rfl, pn, _, _, y, rfl, rfl, SqL.of hn8, hy, _, rfl, _, rfl, _, rfl, (by show 4 ≤ sizeLine; decide), fun r hr => ⟨l, rs, .ref r, rfl, rfl, (Ext.new (dk := true) hr _).obj _ _ rfl hl8, ?_, hR r hr⟩⟩
        rw [dpAll_len hdp, List.length_map]
        exact small1000 (by omega)
    · obtain ⟨y, hy, hR⟩ := fin H7 ph hs (Ext.refl false H7) hD7 hg7 sH (zip_self hs) (fun Hx => ∃ (o5 o6 o7 o8' : Option V) (rs' : List V) (mv' : List Mv), ([some (V.ref d), some (.int m), some (.ref pn), some (.int n), some (.ref l), some (.int (0 + (i : Int))), some (.ref pt), some (.ref ph), some (.ref ph), none] : L2.St) = [some (.ref d), some (.int m), some (.ref pn), some (.int n), some (.ref l), o5, o6, o7, o8', none] ∧ ExtL H2 Hx ∧ Draw Hx d p0 ∧ Hx l = some (.lst rs') ∧ DpAll K Hx rs' (mv'.map moveD) ∧ mv'.length = i + 1 ∧ (∀ j m, mv'[j]? = some m → GoodMv n j m)) (next hs sH (zip_self hs) (some (.ref ph)))
      · have hl8 := hl7; have hn8 := hn7
        refine ⟨_, rfl, .inl ⟨rfl, _, SqL.of hl8⟩, _, rfl, _, rfl, 6, 0 + (i : Int), rfl, rfl, pn, _, _, y, rfl, rfl, SqL.of hn8, hy, _, rfl, _, rfl, _, rfl, (by show 4 ≤ sizeLine; decide), fun r hr => ⟨l, rs, .ref r, rfl, rfl, (Ext.new (dk := true) hr _).obj _ _ rfl hl8, ?_, hR r hr⟩⟩
        rw [dpAll_len hdp, List.length_map]
        exact small1000 (by omega)

  · subst eσ
    have hpn4 : H' pn = some (.lst (xs.map V.str)) := e4.obj _ _ rfl hnm2
    have hl40 := hl4
    refine ⟨_, rfl, _, rfl, n, rfl, pn, _, rfl, SqL.of hpn4, fun p2 hp2 => ⟨p2, _, rfl, .inl ⟨SqL.of upd_same, fun pk hpk => ?_⟩⟩⟩
    have eb : ExtL H' (upd (upd H' p2 (.lst (cutV (xs.map V.str) none (some (n : Int))))) pk (.tup (cutV (xs.map V.str) none (some (n : Int))))) := (Ext.new hp2 _).trans (Ext.new hpk _)
    refine ⟨_, rfl, l, rs, rfl, .inl ⟨SqL.of (eb.obj _ _ rfl hl40), fun pm hpm => ⟨(by show 2 ≤ sizeLine; decide), fun r hr => ?_⟩⟩⟩
    have ec := eb.trans (Ext.new hpm (.tup rs))
    have ed := ec.trans (Ext.new hr (.tup [.ref pk, .ref pm]))
    have hk : (upd (upd H' p2 (.lst (cutV (xs.map V.str) none (some (n : Int))))) pk (.tup (cutV (xs.map V.str) none (some (n : Int))))) pk = some (.tup ((xs.take n).map V.str)) := by
      rw [upd_same, cut_upto, List.map_take]
    have hpk2 := (Ext.new (dk := false) hpm (.tup rs)).obj _ _ rfl hk
    have hpk3 := (Ext.new (dk := false) hr (.tup [.ref pk, .ref pm])).obj _ _ rfl hpk2
    have hpm3 := (Ext.new (dk := false) hr (.tup [.ref pk, .ref pm])).obj _ _ rfl (upd_same (a := pm) (o := .tup rs))
    have gb : GoodBk (xs.take n) mv := by
      have hl : (xs.take n).length = n := by rw [List.length_take]; omega
      refine ⟨by omega, by omega, by omega, fun j x hx => ?_, fun j m hj => ?_⟩
      · have hj : j < n := by
          have := (List.getElem?_eq_some_iff.mp hx).1
          omega
        rw [List.getElem?_take_of_lt hj] at hx
        exact hxs j x hx
      · rw [hl]
        exact hmv j m hj
    have ed' : ExtL H' (upd (upd (upd (upd H' p2 (.lst (cutV (xs.map V.str) none (some (n : Int))))) pk (.tup (cutV (xs.map V.str) none (some (n : Int))))) pm (.tup rs)) r (.tup [.ref pk, .ref pm])) := ed
    exact q _ _ (xs.take n) mv ((e02.trans e4).trans ed') ((((hD4.new hp2).new hpk).new hpm).new hr) (.tup (SqT.of upd_same) (.cons (.tup (SqT.of hpk3) (dp_strs _)) (.cons (.tup (SqT.of hpm3) (ed'.dps hdp)) .nil))) gb
end
end Mint


namespace Mint
open PySem PySem.Spec PyProof.Rows L2 GxR Gx RZ

/-! ### _law_run -/
structure StepG (nm : Int) (k : Nat) (x : PyData) : Prop where
  ok : ∀ M, k ≤ M → stepOf nm (fRunW nm M) x = true
  no : noLst x = true
  lay : x.canLay0 = true
  deep : x.depth ≤ 2 * k + 1
structure RunG (nm : Int) (k : Nat) (d : PyData) : Prop where
  ok : ∀ M, k ≤ M → fRunW nm M d = true
  no : noLst d = true
  lay : d.canLay0 = true
  deep : d.depth ≤ 2 * k
theorem RunG.shaped {nm : Int} {k : Nat} {d : PyData} (h : RunG nm k d) (hk : k ≤ 32) : SeqAt.shaped d = true := by
  have := h.deep
  unfold SeqAt.shaped
  rw [h.lay, decide_eq_true (by omega)]
  rfl
theorem noLsts_of : ∀ {ds : List PyData}, (∀ x ∈ ds, noLst x = true) → noLsts ds = true
  | [], _ => rfl
  | x :: r, h => by
    show (noLst x && noLsts r) = true
    rw [h x List.mem_cons_self, noLsts_of fun y hy => h y (List.mem_cons_of_mem _ hy)]
    rfl
theorem lays_of : ∀ {ds : List PyData}, (∀ x ∈ ds, x.canLay0 = true) → PyData.canLayAll0 ds = true
  | [], _ => by simp [PyData.canLayAll0]
  | x :: r, h => by
    simp only [PyData.canLayAll0]
    rw [h x List.mem_cons_self, lays_of fun y hy => h y (List.mem_cons_of_mem _ hy)]
    rfl
theorem deeps_of {n : Nat} : ∀ {ds : List PyData}, (∀ x ∈ ds, x.depth ≤ n) → PyData.depthAll ds ≤ n
  | [], _ => by simp [PyData.depthAll]
  | x :: r, h => by
    simp only [PyData.depthAll]
    have h1 := h x List.mem_cons_self
    have h2 := deeps_of fun y hy => h y (List.mem_cons_of_mem _ hy)
    omega
theorem RunG.mk' {nm : Int} {k : Nat} {ds : List PyData} (h : ∀ x ∈ ds, StepG nm k x) : RunG nm (k + 1) (.tuple ds) := by
  refine ⟨fun M hM => ?_, noLsts_of fun x hx => (h x hx).no, ?_, ?_⟩
  · obtain ⟨m, rfl⟩ : ∃ m, M = m + 1 := ⟨M - 1, by omega⟩
    show ds.all (stepOf nm (fRunW nm m)) = true
    exact List.all_eq_true.mpr fun x hx => (h x hx).ok m (by omega)
  · simp only [PyData.canLay0]
    exact lays_of fun x hx => (h x hx).lay
  · simp only [PyData.depth]
    have := deeps_of (n := 2 * k + 1) fun x hx => (h x hx).deep
    omega
theorem step_do {nm : Int} {k : Nat} {i : Int} (h0 : 0 ≤ i) (h1 : i < nm) : StepG nm k (.tuple [.str "do", .int i]) := by
  have l : (PyData.str "do").canLay0 = true := by decide +kernel
  refine ⟨fun M _ => ?_, rfl, ?_, ?_⟩
  · have e : PyData.eqv (.str "do") (.str "do") = true := by decide +kernel
    show (PyData.eqv (.str "do") (.str "do") && (fInteger (.int i) && (decide (0 ≤ i) && decide (i < nm)))) = true
    rw [e, decide_eq_true h0, decide_eq_true h1]
    rfl
  · simp only [PyData.canLay0, PyData.canLayAll0] at l ⊢
    rw [l]
    rfl
  · simp [PyData.depth, PyData.depthAll]
theorem step_rep {nm : Int} {k : Nat} {i : Int} {r : PyData} (h : RunG nm k r) (h1 : 1 ≤ i) (hr : PyData.eqv r (.tuple []) = false) : StepG nm k (.tuple [.str "rep", .int i, r]) := by
  have l : (PyData.str "rep").canLay0 = true := by decide +kernel
  refine ⟨fun M hM => ?_, ?_, ?_, ?_⟩
  · have e : PyData.eqv (.str "rep") (.str "rep") = true := by decide +kernel
    show (PyData.eqv (.str "rep") (.str "rep") && (fInteger (.int i) && ((!decide (i < 1)) && !PyData.eqv r (.tuple []))) && fRunW nm M r) = true
    rw [e, hr, h.ok M hM, decide_eq_false (show ¬ i < 1 by omega)]
    rfl
  · show (true && (true && (noLst r && true))) = true
    rw [h.no]
    rfl
  · have hl := h.lay
    simp only [PyData.canLay0, PyData.canLayAll0] at l ⊢
    rw [l, hl]
    rfl
  · have := h.deep
    simp only [PyData.depth, PyData.depthAll]
    omega
theorem alt_shaped {nm : Int} {k : Nat} {r : List PyData} (h : r = [] ∨ RunG nm k (.tuple r)) (hk : k ≤ 32) : SeqAt.shaped (.tuple r) = true := by
  rcases h with rfl | h
  · decide +kernel
  · exact h.shaped hk
theorem alt_good {nm : Int} {k : Nat} {r : List PyData} (h : r = [] ∨ RunG nm k (.tuple r)) (hr : PyData.eqv (.tuple r) (.tuple []) = false) : RunG nm k (.tuple r) := by
  rcases h with rfl | h
  · exact absurd hr (by decide +kernel)
  · exact h
theorem run_next {K : PySem.W.Frag} {nm : Int} {k : Nat} {H' Hx : Hp} {l r : Addr} {rs : List V} {ds : List PyData} {x : PyData} (hdp : DpAll K H' rs ds) (hds : ∀ y ∈ ds, StepG nm k y) (e : ExtL H' Hx) (hl : Hx l = some (.lst rs)) (hx : StepG nm k x) (hd : Dp K Hx (.ref r) x) :
    DpAll K (upd Hx l (.lst (rs ++ [.ref r]))) (rs ++ [.ref r]) (ds ++ [x]) ∧ ∀ y ∈ ds ++ [x], StepG nm k y := by
  refine ⟨dp_app (dps_upd hl (noLsts_of fun y hy => (hds y hy).no) (e.dps hdp)) (.cons (dp_upd hl hx.no hd) .nil), fun y hy => ?_⟩
  rcases List.mem_append.mp hy with h | h
  · exact hds y h
  · rw [List.mem_singleton.mp h]
    exact hx
def spRunL (K : PySem.W.Frag) (N : Nat) : Sp := fun vs H Q _ => ∃ (d p0 : Addr) (nm k : Nat) (t : Int), vs = [.ref d, .int nm, .int k, .int t] ∧ k < N ∧ k ≤ 30 ∧ Draw H d p0 ∧ 0 < t ∧
  ∀ (H' : Hp) (v : V) (r : List PyData), ExtL H H' → Draw H' d p0 → Dp K H' v (.tuple r) → RunG nm (k + 1) (.tuple r) → r.length ≤ 1000 → Q v H'
abbrev sRunL : Stmt := top 33
theorem scRunL : FnScope ["draws", "moves", "depth", "times", "steps", "k", "inner"] ["draws", "moves", "depth", "times"] (defScope sRunL) := ⟨rfl, rfl, rfl, by decide +kernel, rfl, by decide +kernel, by decide +kernel⟩
section
variable {P : Program} {w : World} {K : PySem.W.Frag} {mg : Str → Option Value} {base : Heap} {f T : Addr} {fd : FuncData}
theorem ok_runL {N lv : Nat} (F : Fun K "_law_run" "_law_run" sRunL f fd) (G : Glb mg) (hlv : 1 ≤ lv) (DT : Def P w K mg base "_law_take" 1 ["draws", "bound"] spTake) (DR : Def P w K mg base "_law_run" lv ["draws", "moves", "depth", "times"] (spRunL K N)) :
    FnOk P w K mg base CX0 (lv + 1) f fd ["draws", "moves", "depth", "times"] (spRunL K (N + 1)) := by
  refine F.ok scRunL (fun vs H Q E h => ?_) (fun cdv A outer s H vs Q E hr h => ?_)
  · obtain ⟨d, p0, nm, k, t, rfl, _⟩ := h
    rfl
  obtain ⟨d, p0, nm, k, t, rfl, hkN, hk30, hD, ht, q⟩ := h
  have nd := scRunL.nd
  refine ⟨_, (pss_cons (ps_set (i := 4) nd rfl (Or.inl rfl) (pe_lst pa_nil))
    (pss_cons (ps_for PassesOwn.never rfl (pi_range1 rfl G.range (pa_cons (pe_c DT (hr.mono hlv) (pa_cons (pv 0) (pa_cons pe_int pa_nil))) pa_nil)) (pg_name (i := 5) nd rfl (Or.inl rfl)) (pss_cons (ps_if (pt_cmpR op_eq (pv 1) pe_int (nomark _)) (pss_one (ps_ret (pe_tup pa_nil))) pss_nil)
    (pss_cons (ps_set (i := 6) nd rfl (Or.inl rfl) (pe_tup pa_nil))
    (pss_cons (ps_if (PW.pt (pw_and (pt_cmpR op_gt (pv 2) pe_int (nomark _)) (pw_and1 (pt_cmpR op_eq (pe_c DT (hr.mono hlv) (pa_cons (pv 0) (pa_cons pe_int pa_nil))) pe_int (nomark _))))) (pss_one (ps_set (i := 6) nd rfl (Or.inl rfl) (pe_c DR (hr) (pa_cons (pv 0) (pa_cons (pv 1) (pa_cons (pe_op op_sub (pv 2) pe_int) (pa_cons (pv 3) pa_nil))))))) pss_nil)
    (pss_one (ps_if (pt_cmpR (op_eqD hr.units) (pv 6) (pe_tup pa_nil) (nomark _)) (pss_one (ps_expr (pe_bm PySem.F.plainAttrs_list PySem.F.slot_list_append PySem.F.type_list_append mt_append (pv 4) (pa_cons (pe_tup (pa_cons pe_str (pa_cons (pe_c DT (hr.mono hlv) (pa_cons (pv 0) (pa_cons (pv 1) pa_nil))) pa_nil))) pa_nil)))) (pss_one (ps_expr (pe_bm PySem.F.plainAttrs_list PySem.F.slot_list_append PySem.F.type_list_append mt_append (pv 4) (pa_cons (pe_tup (pa_cons pe_str (pa_cons (pe_op op_add pe_int (pe_c DT (hr.mono hlv) (pa_cons (pv 0) (pa_cons (pv 3) pa_nil)))) (pa_cons (pv 6) pa_nil)))) pa_nil))))))))))
    (pss_one (ps_ret (pe_callTy call_tuple_of rfl G.tuple (by decide +kernel) (pa_cons (pv 4) pa_nil)))))), ?_⟩
  refine ⟨Nat.zero_le _, fun l hl => ?_⟩
  have e0 : ExtL H (upd H l (.lst [])) := Ext.new hl _
  refine ⟨_, rfl, d, p0, 4, rfl, hD.new hl, by decide, fun H3 v9 e3 hD3 hw0 hw1 => ⟨v9, rfl, by omega, by omega, ?_⟩⟩
  obtain ⟨c9, hc9⟩ : ∃ c : Nat, v9 = (c : Int) := ⟨v9.toNat, by omega⟩
  have hc8 : c9 ≤ 3 := by omega
  subst hc9
  rw [Int.toNat_natCast]
  have hl3 := e3.obj _ _ rfl (upd_same (H := H) (a := l) (o := .lst []))
  refine for_range (lo := 0) (n := c9) (fun i σ H' => ∃ (o5 o6 : Option V) (rs : List V) (ds : List PyData), σ = [some (.ref d), some (.int nm), some (.int k), some (.int t), some (.ref l), o5, o6] ∧ ExtL H H' ∧ Draw H' d p0 ∧ H' l = some (.lst rs) ∧ DpAll K H' rs ds ∧ ds.length = i ∧ ∀ x ∈ ds, StepG nm k x)
    ⟨none, none, [], [], rfl, e0.trans e3, hD3, hl3, .nil, rfl, fun x hx => by cases hx⟩ (fun i σ H' hi ⟨o5, o6, rs, ds, eσ, e4, hD4, hl4, hdp, hlen, hds⟩ => ?_) fun σ H' ⟨o5, o6, rs, ds, eσ, e4, hD4, hl4, hdp, hlen, hds⟩ => ?_
  · subst eσ
    refine ⟨_, rfl, rfl, _, rfl, ?_⟩
    refine ite2 (fun c1 => ?_) (fun c1 => ?_)
    · refine ⟨Nat.zero_le _, fun r0 hr0 => ?_⟩
      exact q _ _ [] (e4.trans (Ext.new hr0 _)) (hD4.new hr0) (.tup (SqT.of upd_same) .nil) (RunG.mk' fun x hx => by cases hx) (Nat.zero_le _)
    have hnm : (nm : Int) ≠ 0 := by simpa using c1
    refine ⟨Nat.zero_le _, fun r0 hr0 => ?_⟩
    have e5 : ExtL H' (upd H' r0 (.tup [])) := Ext.new hr0 _
    refine ⟨_, rfl, (k : Int), 0, rfl, rfl, _, rfl, ?_⟩
    refine ite2 (fun c2 => ?_) (fun c2 => ?_)
    · have c3 : (0 : Int) < k := of_decide_eq_true c2
      refine ⟨_, rfl, d, p0, 3, rfl, hD4.new hr0, by decide, fun H7 v3 e7 hD7 hv30 hv31 => ⟨rfl, _, rfl, ?_⟩⟩
      refine ite2 (fun c4 => ?_) (fun c4 => ?_)
      · obtain ⟨k', hk'⟩ : ∃ k' : Nat, k = k' + 1 := ⟨k - 1, by omega⟩
        refine ⟨_, rfl, _, rfl, _, rfl, (k : Int), 1, rfl, rfl, _, rfl, d, p0, nm, k', t, ?_, by omega, by omega, hD7, ht, fun H8 vi rr e8 hD8 hdp8 hg8 _ => ?_⟩
        · have e : (k : Int) - 1 = (k' : Int) := by omega
          exact congrArg (fun z => [V.ref d, V.int nm, V.int z, V.int t]) e
        rw [← hk'] at hg8
        have eB : ExtL H' _ := (e5.trans e7).trans e8
        have hDB := hD8
        have dpB := hdp8
        have shB : SeqAt.shaped (.tuple rr) = true := alt_shaped (nm := nm) (k := k) (.inr hg8) (by omega)
        refine ⟨_, rfl, Nat.zero_le _, fun z hz => ?_⟩
        have eZ : ExtL H' _ := eB.trans (Ext.new hz (.tup []))
        refine ⟨.tuple rr, .tuple [], (Ext.new (dk := false) hz (.tup [])).dp dpB, .tup (SqT.of upd_same) .nil, shB, by decide +kernel, _, rfl, ?_⟩
        refine ite2 (fun c9 => ?_) (fun c9 => ?_)
        · refine ⟨_, rfl, .inl ⟨rfl, _, SqL.of (eZ.obj _ _ rfl hl4)⟩, _, rfl, _, rfl, d, p0, nm, rfl, hDB.new hz, by omega, fun H9 v e9 hD9 hv0 hv1 => ⟨(by show 2 ≤ sizeLine; decide), fun r2 hr2 => ?_⟩⟩
          have eY : ExtL H' _ := (eZ.trans e9).trans (Ext.new hr2 (.tup [.str "do", .int v]))
          have nx := run_next (nm := nm) (k := k) hdp hds eY (eY.obj _ _ rfl hl4) (step_do hv0 hv1) (.tup (SqT.of upd_same) (.cons (.str _) (.cons (.int _) .nil)))
          refine ⟨l, rs, .ref r2, rfl, rfl, eY.obj _ _ rfl hl4, ?_, _, _, rs ++ [.ref r2], ds ++ [_], rfl, (e4.trans eY).upd_new hl, (hD9.new hr2).upd hD hl, upd_same, nx.1, by rw [List.length_append, hlen]; rfl, nx.2⟩
          rw [dpAll_len hdp]
          exact small1000 (by omega)
        · have c10 : PyData.eqv (.tuple rr) (.tuple []) = false := by simpa using c9
          have gB : RunG nm k (.tuple rr) := alt_good (.inr hg8) c10
          refine ⟨_, rfl, .inl ⟨rfl, _, SqL.of (eZ.obj _ _ rfl hl4)⟩, _, rfl, _, rfl, d, p0, t, rfl, hDB.new hz, ht, fun H9 v e9 hD9 hv0 hv1 => ⟨1, v, rfl, rfl, _, rfl, (by show 3 ≤ sizeLine; decide), fun r2 hr2 => ?_⟩⟩
          have dpY := (((Ext.new (dk := false) hz (.tup [])).trans e9).trans (Ext.new hr2 (.tup [.str "rep", .int (1 + v), vi]))).dp dpB
          have eY : ExtL H' _ := (eZ.trans e9).trans (Ext.new hr2 (.tup [.str "rep", .int (1 + v), vi]))
          have nx := run_next (nm := nm) (k := k) hdp hds eY (eY.obj _ _ rfl hl4) (step_rep gB (i := 1 + v) (by omega) c10) (.tup (SqT.of upd_same) (.cons (.str _) (.cons (.int _) (.cons dpY .nil))))
          refine ⟨l, rs, .ref r2, rfl, rfl, eY.obj _ _ rfl hl4, ?_, _, _, rs ++ [.ref r2], ds ++ [_], rfl, (e4.trans eY).upd_new hl, (hD9.new hr2).upd hD hl, upd_same, nx.1, by rw [List.length_append, hlen]; rfl, nx.2⟩
          rw [dpAll_len hdp]
          exact small1000 (by omega)
      · skip
        have eB : ExtL H' _ := e5.trans e7
        have hDB := hD7
        have dpB := (Dp.tup (SqT.of (e7.obj _ _ rfl upd_same)) .nil : Dp K H7 (.ref r0) (.tuple []))
        have shB : SeqAt.shaped (.tuple []) = true := alt_shaped (nm := nm) (k := k) (.inl rfl) (by omega)
        refine ⟨_, rfl, Nat.zero_le _, fun z hz => ?_⟩
        have eZ : ExtL H' _ := eB.trans (Ext.new hz (.tup []))
        refine ⟨.tuple [], .tuple [], (Ext.new (dk := false) hz (.tup [])).dp dpB, .tup (SqT.of upd_same) .nil, shB, by decide +kernel, _, rfl, ?_⟩
        refine ite2 (fun c9 => ?_) (fun c9 => ?_)
        · refine ⟨_, rfl, .inl ⟨rfl, _, SqL.of (eZ.obj _ _ rfl hl4)⟩, _, rfl, _, rfl, d, p0, nm, rfl, hDB.new hz, by omega, fun H9 v e9 hD9 hv0 hv1 => ⟨(by show 2 ≤ sizeLine; decide), fun r2 hr2 => ?_⟩⟩
          have eY : ExtL H' _ := (eZ.trans e9).trans (Ext.new hr2 (.tup [.str "do", .int v]))
          have nx := run_next (nm := nm) (k := k) hdp hds eY (eY.obj _ _ rfl hl4) (step_do hv0 hv1) (.tup (SqT.of upd_same) (.cons (.str _) (.cons (.int _) .nil)))
          refine ⟨l, rs, .ref r2, rfl, rfl, eY.obj _ _ rfl hl4, ?_, _, _, rs ++ [.ref r2], ds ++ [_], rfl, (e4.trans eY).upd_new hl, (hD9.new hr2).upd hD hl, upd_same, nx.1, by rw [List.length_append, hlen]; rfl, nx.2⟩
          rw [dpAll_len hdp]
          exact small1000 (by omega)
        · have c10 : PyData.eqv (.tuple []) (.tuple []) = false := by simpa using c9
          have gB : RunG nm k (.tuple []) := alt_good (.inl rfl) c10
          refine ⟨_, rfl, .inl ⟨rfl, _, SqL.of (eZ.obj _ _ rfl hl4)⟩, _, rfl, _, rfl, d, p0, t, rfl, hDB.new hz, ht, fun H9 v e9 hD9 hv0 hv1 => ⟨1, v, rfl, rfl, _, rfl, (by show 3 ≤ sizeLine; decide), fun r2 hr2 => ?_⟩⟩
          have dpY := (((Ext.new (dk := false) hz (.tup [])).trans e9).trans (Ext.new hr2 (.tup [.str "rep", .int (1 + v), (V.ref r0)]))).dp dpB
          have eY : ExtL H' _ := (eZ.trans e9).trans (Ext.new hr2 (.tup [.str "rep", .int (1 + v), (V.ref r0)]))
          have nx := run_next (nm := nm) (k := k) hdp hds eY (eY.obj _ _ rfl hl4) (step_rep gB (i := 1 + v) (by omega) c10) (.tup (SqT.of upd_same) (.cons (.str _) (.cons (.int _) (.cons dpY .nil))))
          refine ⟨l, rs, .ref r2, rfl, rfl, eY.obj _ _ rfl hl4, ?_, _, _, rs ++ [.ref r2], ds ++ [_], rfl, (e4.trans eY).upd_new hl, (hD9.new hr2).upd hD hl, upd_same, nx.1, by rw [List.length_append, hlen]; rfl, nx.2⟩
          rw [dpAll_len hdp]
          exact small1000 (by omega)
    · skip
      have eB : ExtL H' _ := e5
      have hDB := (show Draw (upd H' r0 (.tup [])) d p0 from hD4.new hr0)
      have dpB := (Dp.tup (SqT.of upd_same) .nil : Dp K (upd H' r0 (.tup [])) (.ref r0) (.tuple []))
      have shB : SeqAt.shaped (.tuple []) = true := alt_shaped (nm := nm) (k := k) (.inl rfl) (by omega)
      refine ⟨_, rfl, Nat.zero_le _, fun z hz => ?_⟩
      have eZ : ExtL H' _ := eB.trans (Ext.new hz (.tup []))
      refine ⟨.tuple [], .tuple [], (Ext.new (dk := false) hz (.tup [])).dp dpB, .tup (SqT.of upd_same) .nil, shB, by decide +kernel, _, rfl, ?_⟩
      refine ite2 (fun c9 => ?_) (fun c9 => ?_)
      · refine ⟨_, rfl, .inl ⟨rfl, _, SqL.of (eZ.obj _ _ rfl hl4)⟩, _, rfl, _, rfl, d, p0, nm, rfl, hDB.new hz, by omega, fun H9 v e9 hD9 hv0 hv1 => ⟨(by show 2 ≤ sizeLine; decide), fun r2 hr2 => ?_⟩⟩
        have eY : ExtL H' _ := (eZ.trans e9).trans (Ext.new hr2 (.tup [.str "do", .int v]))
        have nx := run_next (nm := nm) (k := k) hdp hds eY (eY.obj _ _ rfl hl4) (step_do hv0 hv1) (.tup (SqT.of upd_same) (.cons (.str _) (.cons (.int _) .nil)))
        refine ⟨l, rs, .ref r2, rfl, rfl, eY.obj _ _ rfl hl4, ?_, _, _, rs ++ [.ref r2], ds ++ [_], rfl, (e4.trans eY).upd_new hl, (hD9.new hr2).upd hD hl, upd_same, nx.1, by rw [List.length_append, hlen]; rfl, nx.2⟩
        rw [dpAll_len hdp]
        exact small1000 (by omega)
      · have c10 : PyData.eqv (.tuple []) (.tuple []) = false := by simpa using c9
        have gB : RunG nm k (.tuple []) := alt_good (.inl rfl) c10
        refine ⟨_, rfl, .inl ⟨rfl, _, SqL.of (eZ.obj _ _ rfl hl4)⟩, _, rfl, _, rfl, d, p0, t, rfl, hDB.new hz, ht, fun H9 v e9 hD9 hv0 hv1 => ⟨1, v, rfl, rfl, _, rfl, (by show 3 ≤ sizeLine; decide), fun r2 hr2 => ?_⟩⟩
        have dpY := (((Ext.new (dk := false) hz (.tup [])).trans e9).trans (Ext.new hr2 (.tup [.str "rep", .int (1 + v), (V.ref r0)]))).dp dpB
        have eY : ExtL H' _ := (eZ.trans e9).trans (Ext.new hr2 (.tup [.str "rep", .int (1 + v), (V.ref r0)]))
        have nx := run_next (nm := nm) (k := k) hdp hds eY (eY.obj _ _ rfl hl4) (step_rep gB (i := 1 + v) (by omega) c10) (.tup (SqT.of upd_same) (.cons (.str _) (.cons (.int _) (.cons dpY .nil))))
        refine ⟨l, rs, .ref r2, rfl, rfl, eY.obj _ _ rfl hl4, ?_, _, _, rs ++ [.ref r2], ds ++ [_], rfl, (e4.trans eY).upd_new hl, (hD9.new hr2).upd hD hl, upd_same, nx.1, by rw [List.length_append, hlen]; rfl, nx.2⟩
        rw [dpAll_len hdp]
        exact small1000 (by omega)
  · subst eσ
    refine ⟨_, rfl, l, rs, rfl, .inl ⟨SqL.of hl4, fun pr hpr => ?_⟩⟩
    exact q _ _ ds (e4.trans (Ext.new hpr _)) (hD4.new hpr) (.tup (SqT.of upd_same) ((Ext.new (dk := true) hpr _).dps hdp)) (RunG.mk' hds) (by rw [hlen]; omega)
theorem ok_runsL (F : Fun K "_law_run" "_law_run" sRunL f fd) (mF : mg "_law_run" = some (.ref f)) (bF : Binds K fd ["draws", "moves", "depth", "times"] []) (G : Glb mg) (DT : Def P w K mg base "_law_take" 1 ["draws", "bound"] spTake) : ∀ N : Nat, Def P w K mg base "_law_run" (N + 1) ["draws", "moves", "depth", "times"] (spRunL K N)
  | 0 => by
    have no : ∀ vs H Q E, ¬ spRunL K 0 vs H Q E := fun vs H Q E h => by
      obtain ⟨_, _, nm, k, t, _, hn, _⟩ := h
      omega
    exact ⟨f, fd, ⟨fun vs H Q E h => absurd h (no vs H Q E), fun A outer s H args us vs Q E _ _ _ _ h => absurd h (no vs H Q E)⟩, mF, F.kp, bF⟩
  | N + 1 => ⟨f, fd, ok_runL F G (by omega) DT (ok_runsL F mF bF G DT N), mF, F.kp, bF⟩
end
end Mint


namespace Mint
open PySem PySem.Spec PyProof.Rows L2 GxR Gx RZ

/-! ### a tuple, taken once -/
theorem tuple_mulOne (l : Addr) (items : Array Value) (n : Nat) (dd : Option Addr) (sl : Array (Option Value)) (u : Tok) :
    Meets (Builtin.«tuple.__mul__» ⟨[.ref l, .int 1 u], []⟩) (fun _ R s => s.heap.get? l = some { cls := .type "tuple", dict := dd, data := .seq items n, slots := sl } ∧
      R (.ok (.ret (Value.ref l))) { s with heap := s.heap, toks := s.toks }) :=
  .of_wp fun prog w A R s h => by
    obtain ⟨hp, g, d, tk, os⟩ := s
    obtain ⟨hl, h⟩ := h
    have f1 := AutoSeq1.idx_int
    have c0 : (decide ((1 : Int) < -(2 ^ 63)) || decide ((1 : Int) ≥ 2 ^ 63)) = false := by decide
    have c1 : (items.isEmpty || (1 : Int) == 1) = true := by rw [show ((1 : Int) == 1) = true from rfl, Bool.or_true]
    wp_walk using wpAny_loadPart' hl
    repeat (first
      | (refine wpAny_ite_false (decide_eq_false (by rw [c0]; exact Bool.false_ne_true)) ?_; wp_walk using wpAny_loadPart' hl)
      | (refine wpAny_ite_true (decide_eq_true c1) ?_; wp_walk using wpAny_loadPart' hl))
    exact ⟨_, rfl, h⟩
/-- t * k, k from 1 on -/
def rRepA (K : PySem.W.Frag) : R2 := fun x y H Q => ∃ l k xs, x = .ref l ∧ y = .int k ∧ SqT K H l xs ∧ xs ≠ [] ∧ 1 ≤ k ∧ k ≤ 1000 ∧ xs.length ≤ 1000 ∧ (k = 1 → Q (.ref l) H) ∧ (k ≠ 1 → ∀ p, H p = none → Q (.ref p) (upd H p (.tup (List.replicate k.toNat xs).flatten)))
section
variable {X : Cx}
theorem op_repA : OpR X (binaryOp .Mult) (rRepA X.K) := by
  intro pins s σ H x y v u Q I rx ry h
  obtain ⟨l, k, xs, ex, ey, hT, hne, h1, h2, hz, q1, q2⟩ := h
  by_cases hk : k = 1
  · subst hk ex ey
    cases rx
    obtain ⟨t, rfl⟩ := ry
    obtain ⟨its, r, ⟨⟨cls, dd, data, sl⟩, ho, hc, n, hd⟩, hs⟩ := I.tuple hT
    simp only at hc hd
    subst hc hd
    refine wpAny_binaryOp_repeat_ref (T := "tuple") (U := "int") (by decide) ⟨_, ho, rfl⟩ (fun s' => typeIs_int s' 1 t) noFill_tuple_mul F.fills_int_mul F.slot_int_rmul repeat_tuple F.slot_int_index.lookup
      (call_meets F.slot_int_rmul (typeIs_int s 1 t) F.entry_int_rmul (F.args_int_rmul_2 _ _) (int_rmul_tuple 1 t l its.toArray n dd sl)
        ⟨ho, rfl, ⟨_, ho, rfl⟩, call_meets F.slot_tuple_mul ⟨_, ho, rfl⟩ F.entry_tuple_mul (F.args_tuple_mul_2 _ _) (tuple_mulOne l its.toArray n dd sl t) ⟨ho, ?_⟩⟩)
    exact ⟨.ref l, H, I, rfl, q1 rfl⟩
  · exact op_repT pins s σ H x y v u Q I rx ry ⟨l, k, xs, ex, ey, hT, hne, by omega, h2, hz, q2 hk⟩
end
end Mint


namespace Mint
open PySem PySem.Spec PyProof.Rows L2 GxR Gx RZ

/-! ### expressions that build tuples, and what they build -/
theorem dpAll_app {K : PySem.W.Frag} {H : Hp} : ∀ {xs ys : List V} {ds es : List PyData}, DpAll K H xs ds → DpAll K H ys es → DpAll K H (xs ++ ys) (ds ++ es)
  | _, _, _, _, .nil, h => h
  | _, _, _, _, .cons a t, h => .cons a (dpAll_app t h)
theorem dpAll_drop {K : PySem.W.Frag} {H : Hp} : ∀ {xs : List V} {ds : List PyData} (n : Nat), DpAll K H xs ds → DpAll K H (xs.drop n) (ds.drop n)
  | _, _, 0, h => h
  | _, _, _ + 1, .nil => .nil
  | _, _, n + 1, .cons _ t => dpAll_drop n t
theorem dpAll_take {K : PySem.W.Frag} {H : Hp} : ∀ {xs : List V} {ds : List PyData} (n : Nat), DpAll K H xs ds → DpAll K H (xs.take n) (ds.take n)
  | _, _, 0, h => .nil
  | _, _, _ + 1, .nil => .nil
  | _, _, n + 1, .cons a t => .cons a (dpAll_take n t)
theorem dpAll_rep {K : PySem.W.Frag} {H : Hp} {xs : List V} {ds : List PyData} (h : DpAll K H xs ds) : ∀ n : Nat, DpAll K H (List.replicate n xs).flatten (List.replicate n ds).flatten
  | 0 => .nil
  | n + 1 => by
    rw [List.replicate_succ, List.replicate_succ, List.flatten_cons, List.flatten_cons]
    exact dpAll_app h (dpAll_rep h n)
def cutD (ds : List PyData) (lo hi : Option Int) : List PyData := (ds.drop (HT.sIx ds.length 0 lo)).take (HT.sIx ds.length ds.length hi - HT.sIx ds.length 0 lo)
theorem dpAll_cut {K : PySem.W.Frag} {H : Hp} {xs : List V} {ds : List PyData} (h : DpAll K H xs ds) (lo hi : Option Int) : DpAll K H (cutV xs lo hi) (cutD ds lo hi) := by
  unfold cutV cutD
  rw [dpAll_len h]
  exact dpAll_take _ (dpAll_drop _ h)
theorem cutD_whole {ds : List PyData} {lo hi : Option Int} (h : HT.sIx ds.length 0 lo = 0 ∧ HT.sIx ds.length ds.length hi = ds.length) : cutD ds lo hi = ds := by
  unfold cutD
  rw [h.1, h.2, List.drop_zero, Nat.sub_zero, List.take_length]
theorem dp_tup_inv {K : PySem.W.Frag} {H : Hp} {v : V} {ds : List PyData} (h : Dp K H v (.tuple ds)) : ∃ a xs, v = .ref a ∧ SqT K H a xs ∧ DpAll K H xs ds := by
  cases h with
  | @tup a xs _ hS hD => exact ⟨a, xs, rfl, hS, hD⟩
/-- te builds d -/
def Gv (K : PySem.W.Frag) (σ : L2.St) (H0 : Hp) (te : TE) (d : PyData) : Prop := ∀ (H : Hp) (Q : VK), ExtP H0 H → (∀ H' v, ExtP H H' → Dp K H' v d → Q v H') → te σ H Q
def Gvs (K : PySem.W.Frag) (σ : L2.St) (H0 : Hp) (t : TA) (ds : List PyData) : Prop := ∀ (H : Hp) (Q : List V → Hp → Prop), ExtP H0 H → (∀ H' vs, ExtP H H' → DpAll K H' vs ds → Q vs H') → t σ H Q
section
variable {K : PySem.W.Frag} {σ : L2.St} {H0 : Hp} {te t1 t2 : TE} {ta : TA} {d d1 d2 : PyData} {ds es : List PyData}
theorem gv_var {i : Nat} {v : V} (hi : σ[i]? = some (some v)) (h : Dp K H0 v d) : Gv K σ H0 (tVar i) d := fun H Q e q => ⟨v, hi, q H v (Ext.refl true H) (e.dp h)⟩
theorem gv_int {i : Int} : Gv K σ H0 (tC (.int i)) (.int i) := fun H Q e q => q H _ (Ext.refl true H) (.int i)
theorem gv_bl {b : Bool} : Gv K σ H0 (tC (.bl b)) (.bool b) := fun H Q e q => q H _ (Ext.refl true H) (.bl b)
theorem gv_str {x : Str} : Gv K σ H0 (tC (.str x)) (.str x) := fun H Q e q => q H _ (Ext.refl true H) (.str x)
theorem gv_non : Gv K σ H0 (tC .non) .none := fun H Q e q => q H _ (Ext.refl true H) .non
theorem gvs_nil : Gvs K σ H0 tNil [] := fun H Q e q => q H [] (Ext.refl true H) .nil
theorem gvs_cons (h : Gv K σ H0 te d) (t : Gvs K σ H0 ta ds) : Gvs K σ H0 (tCons te ta) (d :: ds) := fun H Q e q =>
  h H _ e fun H1 v e1 hd => t H1 _ (e.trans e1) fun H2 vs e2 hds => q H2 (v :: vs) (e1.trans e2) (.cons (e2.dp hd) hds)
theorem gv_tup (h : Gvs K σ H0 ta ds) (hl : ds.length ≤ 1000) : Gv K σ H0 (tTup ta) (.tuple ds) := fun H Q e q =>
  h H _ e fun H1 vs e1 hds => ⟨by rw [dpAll_len hds, sizeLine_eq]; omega, fun p hp => q _ _ (e1.trans (Ext.new hp _)) (.tup (SqT.of upd_same) ((Ext.new (dk := true) hp _).dps hds))⟩
theorem gv_cat (h1 : Gv K σ H0 t1 (.tuple ds)) (h2 : Gv K σ H0 t2 (.tuple es)) (hl : ds.length + es.length ≤ 1000) : Gv K σ H0 (tOp (rCatA K) t1 t2) (.tuple (ds ++ es)) := fun H Q e q =>
  h1 H _ e fun H1 v1 e1 hd1 => h2 H1 _ (e.trans e1) fun H2 v2 e2 hd2 => by
    have k1 := e2.dp hd1
    obtain ⟨a, xs, rfl, sa, da⟩ := dp_tup_inv k1
    obtain ⟨b, ys, rfl, sb, db⟩ := dp_tup_inv hd2
    have lx := dpAll_len da
    have ly := dpAll_len db
    have e12 := e1.trans e2
    refine ⟨a, b, xs, ys, rfl, rfl, sa, sb, by rw [lx, ly, sizeLine_eq]; omega, fun z => ?_, fun _ z => ?_, fun _ _ p hp => ?_⟩
    · subst z
      have : ds = [] := List.eq_nil_of_length_eq_zero lx.symm
      subst this
      exact q H2 _ e12 hd2
    · subst z
      have : es = [] := List.eq_nil_of_length_eq_zero ly.symm
      subst this
      rw [List.append_nil] at q
      exact q H2 _ e12 k1
    · exact q _ _ (e12.trans (Ext.new hp _)) (.tup (SqT.of upd_same) ((Ext.new (dk := true) hp _).dps (dpAll_app da db)))
theorem gv_rep {k : Int} (h1 : Gv K σ H0 t1 (.tuple ds)) (h2 : Gv K σ H0 t2 (.int k)) (hne : ds ≠ []) (k1 : 1 ≤ k) (k2 : k ≤ 1000) (hl : ds.length ≤ 1000) : Gv K σ H0 (tOp (rRepA K) t1 t2) (.tuple (List.replicate k.toNat ds).flatten) := fun H Q e q =>
  h1 H _ e fun H1 v1 e1 hd1 => h2 H1 _ (e.trans e1) fun H2 v2 e2 hd2 => by
    have kk := e2.dp hd1
    obtain ⟨a, xs, rfl, sa, da⟩ := dp_tup_inv kk
    cases hd2
    have lx := dpAll_len da
    have e12 := e1.trans e2
    refine ⟨a, k, xs, rfl, rfl, sa, fun z => hne (List.eq_nil_of_length_eq_zero (by rw [← lx, z]; rfl)), k1, k2, by omega, fun z => ?_, fun _ p hp => ?_⟩
    · subst z
      have e1' : (List.replicate (1 : Int).toNat ds).flatten = ds := by simp
      rw [e1'] at q
      exact q H2 _ e12 kk
    · exact q _ _ (e12.trans (Ext.new hp _)) (.tup (SqT.of upd_same) ((Ext.new (dk := true) hp _).dps (dpAll_rep da _)))
/-- a part of a slice -/
def Go (σ : L2.St) (t : TO) (i : Option Int) : Prop := ∀ (H : Hp) (Q : Option Int → Hp → Prop), Q i H → t σ H Q
theorem go_none : Go σ tNoPart none := fun H Q q => q
theorem go_int {i : Int} : Go σ (tPart (tC (.int i))) (some i) := fun H Q q => ⟨i, rfl, q⟩
theorem go_neg {i : Int} : Go σ (tPart (tUn (rU fun i => .int (-i)) (tC (.int i)))) (some (-i)) := fun H Q q => ⟨i, rfl, -i, rfl, q⟩
theorem gv_neg {i : Int} : Gv K σ H0 (tUn (rU fun i => .int (-i)) (tC (.int i))) (.int (-i)) := fun H Q e q => ⟨i, rfl, q H _ (Ext.refl true H) (.int _)⟩
theorem gv_cut {tl th : TO} {lo hi : Option Int} (h1 : Gv K σ H0 t1 (.tuple ds)) (hl : Go σ tl lo) (hh : Go σ th hi) : Gv K σ H0 (tSl (rSlA K) t1 tl th) (.tuple (cutD ds lo hi)) := fun H Q e q =>
  h1 H _ e fun H1 v1 e1 hd1 => hl H1 _ (hh H1 _ (by
    obtain ⟨a, xs, rfl, sa, da⟩ := dp_tup_inv hd1
    have lx := dpAll_len da
    refine ⟨a, xs, rfl, sa, fun z => ?_, fun _ p hp => ?_⟩
    · rw [lx] at z
      rw [cutD_whole z] at q
      exact q H1 _ e1 hd1
    · exact q _ _ (e1.trans (Ext.new hp _)) (.tup (SqT.of upd_same) ((Ext.new (dk := true) hp _).dps (dpAll_cut da lo hi)))))
theorem gv_ix {k : Nat} (h1 : Gv K σ H0 t1 (.tuple ds)) (hk : ds[k]? = some d) (h2 : Gv K σ H0 t2 (.int k)) : Gv K σ H0 (tOp (rIxT K) t1 t2) d := fun H Q e q =>
  h1 H _ e fun H1 v1 e1 hd1 => h2 H1 _ (e.trans e1) fun H2 v2 e2 hd2 => by
    have kk := e2.dp hd1
    obtain ⟨a, xs, rfl, sa, da⟩ := dp_tup_inv kk
    cases hd2
    obtain ⟨v, hv, hd⟩ := dpAll_at da hk
    exact ⟨a, xs, k, v, rfl, rfl, sa, atI_nat hv, q H2 v (e1.trans e2) hd⟩
end
end Mint


namespace Mint
open PySem PySem.Spec PyProof.Rows L2 GxR Gx RZ

/-! ### _law_nested -/
def nestD : Nat → PyData → PyData
  | 0, d => d
  | i + 1, d => .tuple [.tuple [.str "rep", .int 2, nestD i d]]
def spNested (K : PySem.W.Frag) : Sp := fun vs H Q _ => ∃ (v : V) (n : Nat) (d : PyData), vs = [v, .int n] ∧ n ≤ 1000 ∧ Dp K H v d ∧ ∀ H' v', ExtP H H' → Dp K H' v' (nestD n d) → Q v' H'
abbrev sNested : Stmt := top 35
theorem scNested : FnScope ["run", "depth", "k"] ["run", "depth"] (defScope sNested) := ⟨rfl, rfl, rfl, by decide +kernel, rfl, by decide +kernel, by decide +kernel⟩
abbrev sBadL : Stmt := top 34
theorem scBadL : FnScope ["draws", "book", "kinds", "moves", "n", "zero", "good", "bad", "k"] ["draws", "book"] (defScope sBadL) := ⟨rfl, rfl, rfl, by decide +kernel, rfl, by decide +kernel, by decide +kernel⟩
section
variable {P : Program} {w : World} {K : PySem.W.Frag} {mg : Str → Option Value} {base : Heap} {f T : Addr} {fd : FuncData}
theorem ok_nested (F : Fun K "_law_nested" "_law_nested" sNested f fd) (G : Glb mg) : FnOk P w K mg base CX0 1 f fd ["run", "depth"] (spNested K) := by
  refine F.ok scNested (fun vs H Q E h => ?_) (fun cdv A outer s H vs Q E hr h => ?_)
  · obtain ⟨v, n, d, rfl, _⟩ := h
    rfl
  obtain ⟨v, n, d, rfl, hn, hd, q⟩ := h
  have nd := scNested.nd
  refine ⟨_, (pss_cons (ps_for PassesOwn.never rfl (pi_range1 rfl G.range (pa_cons (pv 1) pa_nil)) (pg_name (i := 2) nd rfl (Or.inl rfl)) (pss_one (ps_set (i := 0) nd rfl (Or.inl rfl) (pe_tup (pa_cons (pe_tup (pa_cons pe_str (pa_cons pe_int (pa_cons (pv 0) pa_nil)))) pa_nil)))))
    (pss_one (ps_ret (pv 0)))), ?_⟩
  refine ⟨_, rfl, (n : Int), rfl, by omega, by omega, ?_⟩
  rw [Int.toNat_natCast]
  refine for_range (lo := 0) (n := n) (fun i σ H' => ∃ (v' : V) (o2 : Option V), σ = [some v', some (.int n), o2] ∧ ExtP H H' ∧ Dp K H' v' (nestD i d)) ⟨v, none, rfl, Ext.refl true H, hd⟩
    (fun i σ H' hi ⟨v', o2, eσ, e, hd'⟩ => ?_) fun σ H' ⟨v', o2, eσ, e, hd'⟩ => ?_
  · subst eσ
    refine ⟨_, rfl, (by show 3 ≤ sizeLine; decide), fun p hp => ⟨(by show 1 ≤ sizeLine; decide), fun p2 hp2 => ?_⟩⟩
    have e1 : ExtP H' (upd H' p (.tup [.str "rep", .int 2, v'])) := Ext.new hp _
    have e2 : ExtP (upd H' p (.tup [.str "rep", .int 2, v'])) (upd (upd H' p (.tup [.str "rep", .int 2, v'])) p2 (.tup [.ref p])) := Ext.new hp2 _
    have sp := e2.sqT (K := K) (SqT.of (upd_same (H := H') (a := p) (o := .tup [.str "rep", .int 2, v'])))
    exact ⟨.ref p2, _, rfl, (e.trans e1).trans e2, .tup (SqT.of upd_same) (.cons (.tup sp (.cons (.str _) (.cons (.int _) (.cons ((e1.trans e2).dp hd') .nil)))) .nil)⟩
  · subst eσ
    exact ⟨_, rfl, q _ _ e hd'⟩
end
end Mint


namespace Mint
open PySem PySem.Spec PyProof.Rows L2 GxR Gx RZ

/-! ### which books are none -/
theorem any_mem {σ : List Str} {v : Str} : σ.any (· == v) = true ↔ v ∈ σ := by
  rw [List.any_eq_true]
  constructor
  · rintro ⟨x, hx, e⟩
    rw [beq_iff_eq] at e
    rw [← e]; exact hx
  · exact fun h => ⟨v, h, by rw [beq_iff_eq]⟩
theorem ddS_mem {σ : List Str} {x : Str} (h : x ∈ σ) : ddS σ x = σ := by
  unfold ddS
  rw [if_pos (any_mem.mpr h)]
theorem ddS_not {σ : List Str} {x : Str} (h : x ∉ σ) : ddS σ x = σ ++ [x] := by
  unfold ddS
  rw [if_neg fun z => h (any_mem.mp z)]
theorem fold_nodup : ∀ (xs σ : List Str), (xs.foldl ddS σ).length = σ.length + xs.length → xs.Nodup ∧ ∀ x ∈ xs, x ∉ σ
  | [], _, _ => ⟨List.nodup_nil, fun x hx => by cases hx⟩
  | x :: xs, σ, h => by
    rw [List.foldl_cons, List.length_cons] at h
    by_cases hx : x ∈ σ
    · rw [ddS_mem hx] at h
      have := fold_le xs σ
      omega
    · rw [ddS_not hx] at h
      obtain ⟨a, b⟩ := fold_nodup xs (σ ++ [x]) (by rw [h, List.length_append]; simp; omega)
      refine ⟨List.nodup_cons.mpr ⟨fun z => b x z (List.mem_append_right _ List.mem_cons_self), a⟩, fun y hy => ?_⟩
      rcases List.mem_cons.mp hy with e | hy
      · rw [e]; exact hx
      · exact fun z => b y hy (List.mem_append_left _ z)
theorem nodup_fold : ∀ (xs σ : List Str), xs.Nodup → (∀ x ∈ xs, x ∉ σ) → (xs.foldl ddS σ).length = σ.length + xs.length
  | [], _, _, _ => rfl
  | x :: xs, σ, h, hs => by
    rw [List.foldl_cons, ddS_not (hs x List.mem_cons_self)]
    obtain ⟨h1, h2⟩ := List.nodup_cons.mp h
    rw [nodup_fold xs (σ ++ [x]) h2 fun y hy z => ?_]
    · rw [List.length_append, List.length_cons]; simp; omega
    · rcases List.mem_append.mp z with z | z
      · exact hs y (List.mem_cons_of_mem _ hy) z
      · rw [List.mem_singleton.mp z] at hy
        exact h1 hy
theorem dedup_nodup {xs : List Str} (h : (dedup xs).length = xs.length) : xs.Nodup := (fold_nodup xs [] (by rw [List.length_nil, Nat.zero_add]; exact h)).1
theorem nodup_dedup {xs : List Str} (h : xs.Nodup) : (dedup xs).length = xs.length := by
  have := nodup_fold xs [] h fun x _ z => by cases z
  rw [List.length_nil, Nat.zero_add] at this
  exact this
theorem book_nodup {k m : PyData} (h : fBook (.tuple [k, m]) = true) : (namesOf k m).Nodup := by
  have e : fBook (.tuple [k, m]) = (fKinds k && fMoves m (itemsOf k).length && decide (((dedup (namesOf k m)).length : Int) = (namesOf k m).length)) := rfl
  rw [e, Bool.and_eq_true] at h
  exact dedup_nodup (Int.ofNat.inj (of_decide_eq_true h.2))
theorem book_twice {k m : PyData} (h : ¬ (namesOf k m).Nodup) : fBook (.tuple [k, m]) = false := by
  cases e : fBook (.tuple [k, m]) with
  | false => rfl
  | true => exact absurd (book_nodup e) h
theorem book_kinds {k m : PyData} (h : fKinds k = false) : fBook (.tuple [k, m]) = false := by
  show (fKinds k && fMoves m (itemsOf k).length && _) = false
  rw [h]
  rfl
theorem book_moves {k m : PyData} (h : fMoves m (itemsOf k).length = false) : fBook (.tuple [k, m]) = false := by
  show (fKinds k && fMoves m (itemsOf k).length && _) = false
  rw [h, Bool.and_false]
  rfl
theorem moves_one {ms : List PyData} {m : PyData} {w : Int} (hm : m ∈ ms) (h : fMove m w = false) : fMoves (.tuple ms) w = false := by
  show (!decide ((8 : Int) < ms.length) && ms.all (fun m => fMove m w)) = false
  have : ms.all (fun m => fMove m w) = false := by
    rw [List.all_eq_false]
    exact ⟨m, hm, by rw [h]; simp⟩
  rw [this, Bool.and_false]
theorem move_nm {x : Str} {a b c : PyData} {w : Int} (h : fNameS x = false) : fMove (.tuple [.str x, a, b, c]) w = false := by
  show ((fNameS x && _) && _) = false
  rw [h]
  rfl
theorem move_take {x a b c : PyData} {w : Int} (h : fUnits a w = false) : fMove (.tuple [x, a, b, c]) w = false := by
  show ((fName x && (fUnits a w && _)) && _) = false
  rw [h, Bool.false_and, Bool.and_false]
  rfl
theorem move_low {x a b c : PyData} {w : Int} (h : fUnits b w = false) : fMove (.tuple [x, a, b, c]) w = false := by
  show ((fName x && (fUnits a w && (fUnits b w && _))) && _) = false
  rw [h, Bool.false_and, Bool.and_false, Bool.and_false]
  rfl
theorem move_le {x a b c : PyData} {w : Int} (h : leAll b c = false) : fMove (.tuple [x, a, b, c]) w = false := by
  show (_ && leAll b c) = false
  rw [h, Bool.and_false]
theorem units_len {ds : List PyData} {w : Int} (h : (ds.length : Int) ≠ w) : fUnits (.tuple ds) w = false := by
  show ((decide ((ds.length : Int) = w) && _) && _) = false
  rw [decide_eq_false h]
  rfl
theorem units_most {d : PyData} {ds : List PyData} {w : Int} (h : okMost d = false) : fUnits (.tuple (d :: ds)) w = false := by
  show (_ && (okMost d && _)) = false
  rw [h, Bool.false_and, Bool.and_false]
theorem units_entry {d : PyData} {ds : List PyData} {w : Int} (h : okEntry 0 d = false) : fUnits (.tuple (d :: ds)) w = false := by
  show ((_ && (okEntry 0 d && _)) && _) = false
  rw [h, Bool.false_and, Bool.and_false]
  rfl
theorem cutD_tail {d : PyData} {ds : List PyData} : cutD (d :: ds) (some 1) none = ds := by
  unfold cutD
  rw [HT.sIx_none]
  have : HT.sIx (d :: ds).length 0 (some 1) = 1 := by
    have := HT.sIx_nat (d :: ds).length 0 1
    rw [List.length_cons] at this ⊢
    rw [show (some (1 : Int)) = some ((1 : Nat) : Int) from rfl, this]
    omega
  rw [this]
  simp
theorem cutD_upto (ds : List PyData) (k : Nat) : cutD ds none (some (k : Int)) = ds.take k := by
  unfold cutD
  rw [HT.sIx_none, HT.sIx_nat, List.drop_zero, Nat.sub_zero]
  rcases Nat.le_total k ds.length with h | h
  · rw [Nat.min_eq_left h]
  · rw [Nat.min_eq_right h, List.take_of_length_le (Nat.le_refl _), List.take_of_length_le h]
theorem cutD_len (ds : List PyData) (lo hi : Option Int) : (cutD ds lo hi).length ≤ ds.length := by
  unfold cutD
  rw [List.length_take, List.length_drop]
  omega
theorem flat_one (d : PyData) : ∀ n : Nat, (List.replicate n [d]).flatten = List.replicate n d
  | 0 => rfl
  | n + 1 => by rw [List.replicate_succ, List.flatten_cons, flat_one d n, List.replicate_succ]; rfl

/-! ### the good book is one -/
theorem ints_all {es : List Int} (h : ∀ e ∈ es, 0 ≤ e ∧ e ≤ 1000) : (es.map PyData.int).all (okEntry 0) = true ∧ (es.map PyData.int).all okMost = true := by
  constructor <;> rw [List.all_eq_true] <;> intro d hd <;> obtain ⟨e, he, rfl⟩ := List.mem_map.mp hd
  · exact decide_eq_true (h e he).1
  · exact decide_eq_true (h e he).2
theorem small_units {n : Nat} {es : List Int} (h : Small n 1000 es) : fUnits (intsD es) n = true := by
  obtain ⟨a, b⟩ := ints_all h.2
  show ((decide (((es.map PyData.int).length : Int) = n) && (es.map PyData.int).all (okEntry 0)) && (es.map PyData.int).all okMost) = true
  rw [a, b, List.length_map, h.1, decide_eq_true rfl]
  rfl
theorem GoodMv.move {n j : Nat} {m : Mv} (hj : 6 + j < 14) (h : GoodMv n j m) : fMove (moveD m) n = true := by
  show ((fNameS m.name && (fUnits (intsD m.take) n && (fUnits (intsD m.low) n && (fUnits (intsD m.high) n && true)))) && leAll (intsD m.low) (intsD m.high)) = true
  rw [h.name.name hj, small_units h.take, small_units h.low, small_units h.high, show leAll (intsD m.low) (intsD m.high) = true from (leAll_ints m.low m.high).trans h.le]
  rfl
theorem GoodBk.kindsOk {kn : List Str} {mv : List Mv} (h : GoodBk kn mv) : fKinds (.tuple (kn.map PyData.str)) = true := by
  show ((decide ((1 : Int) ≤ (kn.map PyData.str).length) && decide (((kn.map PyData.str).length : Int) ≤ 6)) && (kn.map PyData.str).all fName) = true
  have h1 := h.one
  have h6 := h.six
  rw [List.length_map, decide_eq_true (by omega), decide_eq_true (by omega)]
  rw [Bool.true_and, Bool.true_and, List.all_eq_true]
  intro d hd
  obtain ⟨x, hx, rfl⟩ := List.mem_map.mp hd
  obtain ⟨i, hi, e⟩ := List.getElem_of_mem hx
  exact (h.kinds i x (by rw [List.getElem?_eq_getElem hi, e])).name (by omega)
theorem GoodBk.movesOk {kn : List Str} {mv : List Mv} (h : GoodBk kn mv) : fMoves (.tuple (mv.map moveD)) kn.length = true := by
  show (!decide ((8 : Int) < (mv.map moveD).length) && (mv.map moveD).all (fun m => fMove m kn.length)) = true
  have h8 := h.eight
  rw [List.length_map, decide_eq_false (by omega), Bool.not_false, Bool.true_and, List.all_eq_true]
  intro d hd
  obtain ⟨m, hm, rfl⟩ := List.mem_map.mp hd
  obtain ⟨j, hj, e⟩ := List.getElem_of_mem hm
  exact (h.moves j m (by rw [List.getElem?_eq_getElem hj, e])).move (by omega)
theorem names_bk (kn : List Str) (mv : List Mv) : namesOf (.tuple (kn.map PyData.str)) (.tuple (mv.map moveD)) = kn ++ mv.map (·.name) := by
  show (kn.map PyData.str).map strOf ++ (mv.map moveD).map nameOf = _
  rw [List.map_map, List.map_map]
  congr 1
  exact List.map_id kn
theorem GoodBk.nodup {kn : List Str} {mv : List Mv} (h : GoodBk kn mv) : (kn ++ mv.map (·.name)).Nodup := by
  have h6 := h.six
  rw [List.nodup_append]
  refine ⟨?_, ?_, ?_⟩
  · rw [List.nodup_iff_pairwise_ne] <;> skip
    rw [List.pairwise_iff_getElem]
    intro i j hi hj hij e
    have a := h.kinds i _ (List.getElem?_eq_getElem hi)
    rw [e] at a
    have := a.inj (h.kinds j _ (List.getElem?_eq_getElem hj))
    omega
  · rw [List.nodup_iff_pairwise_ne] <;> skip
    rw [List.pairwise_iff_getElem]
    intro i j hi hj hij e
    rw [List.length_map] at hi hj
    have a := (h.moves i _ (List.getElem?_eq_getElem hi)).name
    have b := (h.moves j _ (List.getElem?_eq_getElem hj)).name
    rw [List.getElem_map, List.getElem_map] at e
    rw [e] at a
    have := a.inj b
    omega
  · intro x hx y hy e
    subst e
    obtain ⟨i, hi, ei⟩ := List.getElem_of_mem hx
    obtain ⟨m, hm, em⟩ := List.mem_map.mp hy
    obtain ⟨j, hj, ej⟩ := List.getElem_of_mem hm
    have a := h.kinds i x (by rw [List.getElem?_eq_getElem hi, ei])
    have b := (h.moves j m (by rw [List.getElem?_eq_getElem hj, ej])).name
    rw [em] at b
    have := a.inj b
    omega
theorem GoodBk.isBook {kn : List Str} {mv : List Mv} (h : GoodBk kn mv) : fBook (bkD kn mv) = true := by
  show (fKinds (.tuple (kn.map PyData.str)) && fMoves (.tuple (mv.map moveD)) ((kn.map PyData.str).length : Nat) && decide (((dedup (namesOf (.tuple (kn.map PyData.str)) (.tuple (mv.map moveD)))).length : Int) = (namesOf (.tuple (kn.map PyData.str)) (.tuple (mv.map moveD))).length)) = true
  rw [names_bk, nodup_dedup h.nodup, List.length_map, h.kindsOk, h.movesOk, decide_eq_true rfl]
  rfl
end Mint


namespace Mint
open PySem PySem.Spec PyProof.Rows L2 GxR Gx RZ

/-! ### the spoilt books -/
def zN (k : Int) : Str := Str.ofString "z" ++ (Str.ofString (toString k))
def goodD (Z : PyData) : PyData := .tuple [.str "zz", Z, Z, Z]
def manyD (Z : PyData) (n : Nat) : List PyData := (List.range n).map fun (k : Nat) => .tuple [.str (zN k), Z, Z, Z]
def badDs (ks ms zs : List PyData) (k0 : PyData) : List PyData :=
  [.tuple [.tuple (ks ++ cutD ks none (some 1)), .tuple ms],
   .tuple [.tuple [], .tuple []],
   .tuple [.tuple ks, .tuple (ms ++ (List.replicate (2 : Int).toNat [goodD (.tuple zs)]).flatten)],
   .tuple [.tuple ks, .tuple (ms ++ [.tuple [.str "x", .tuple zs, .tuple zs, .tuple zs]])],
   .tuple [.tuple ks, .tuple [.tuple [.str "zz", .tuple (zs ++ [.int 0]), .tuple zs, .tuple zs]]],
   .tuple [.tuple ks, .tuple [.tuple [.str "zz", .tuple ([.int 1001] ++ cutD zs (some 1) none), .tuple zs, .tuple zs]]],
   .tuple [.tuple ks, .tuple [.tuple [.str "zz", .tuple zs, .tuple ([.int 1] ++ cutD zs (some 1) none), .tuple zs]]],
   .tuple [.tuple ks, .tuple [.tuple [.str "zz", .tuple ([.int (-1)] ++ cutD zs (some 1) none), .tuple zs, .tuple zs]]],
   .tuple [.tuple ks, .tuple [.tuple [.str "zz", .tuple zs, .tuple ([.bool false] ++ cutD zs (some 1) none), .tuple zs]]],
   .tuple [.tuple ks, .tuple [.tuple (cutD [.str "zz", .tuple zs, .tuple zs, .tuple zs] none (some 3))]],
   .tuple [.tuple ks, .tuple [.tuple ([k0] ++ cutD [.str "zz", .tuple zs, .tuple zs, .tuple zs] (some 1) none)]],
   .tuple [k0, .tuple ms],
   .tuple [.tuple [.str "aa", .str "ab", .str "ac", .str "ad", .str "ae", .str "af", .str "ag"], .tuple []],
   .tuple ks, .none, .int 7,
   .tuple [.tuple ks, .tuple (manyD (.tuple zs) 9)],
   .tuple [.tuple [.str "Aa"], .tuple []],
   .tuple [.tuple [.str "endless"], .tuple []]]
def AllB (p : PyData → Prop) : List PyData → Prop
  | [] => True
  | d :: r => p d ∧ AllB p r
theorem allB_mem {p : PyData → Prop} : ∀ {l : List PyData} {d : PyData}, AllB p l → d ∈ l → p d
  | _ :: _, _, h, hd => by
    rcases List.mem_cons.mp hd with e | hd
    · rw [e]; exact h.1
    · exact allB_mem h.2 hd
structure BadB (D : PyData) : Prop where
  small : SmallBook D
  no : fBook D = false
theorem small_pair {a b : PyData} (h1 : SmallStrs a) (h2 : SmallMoves b) : SmallBook (.tuple [a, b]) := by
  intro k m e
  cases e
  exact ⟨h1, h2⟩
theorem small_lit {x : Str} (h : x.length ≤ 1000) : SmallStr (.str x) := by
  show x.length ≤ sizeLine
  rw [sizeLine_eq]
  omega
theorem moves_app {a b : List PyData} (h1 : SmallMoves (.tuple a)) (h2 : SmallMoves (.tuple b)) : SmallMoves (.tuple (a ++ b)) := fun d hd => by
  rcases List.mem_append.mp hd with h | h
  · exact h1 d h
  · exact h2 d h
theorem moves_lit {n : PyData} {r : List PyData} (h : SmallStr n) : SmallMoves (.tuple [.tuple (n :: r)]) := fun d hd => by
  rw [List.mem_singleton.mp hd]
  exact h
theorem GoodBk.smallK {kn : List Str} {mv : List Mv} (h : GoodBk kn mv) : SmallStrs (.tuple (kn.map PyData.str)) := fun d hd => by
  obtain ⟨x, hx, rfl⟩ := List.mem_map.mp hd
  obtain ⟨i, hi, e⟩ := List.getElem_of_mem hx
  exact (h.kinds i x (by rw [List.getElem?_eq_getElem hi, e])).small
theorem GoodBk.smallM {kn : List Str} {mv : List Mv} (h : GoodBk kn mv) : SmallMoves (.tuple (mv.map moveD)) := fun d hd => by
  obtain ⟨m, hm, rfl⟩ := List.mem_map.mp hd
  obtain ⟨j, hj, e⟩ := List.getElem_of_mem hm
  exact (h.moves j m (by rw [List.getElem?_eq_getElem hj, e])).name.small
theorem GoodBk.small {kn : List Str} {mv : List Mv} (h : GoodBk kn mv) : SmallBook (bkD kn mv) := small_pair h.smallK h.smallM
theorem zN_small : ∀ k : Fin 9, (zN (k.val : Int)).length ≤ 1000 := by decide +kernel
theorem twice_app {a b : List Str} {x : Str} (ha : x ∈ a) (hb : x ∈ b) : ¬ (a ++ b).Nodup := fun h => (List.nodup_append.mp h).2.2 x ha x hb rfl
theorem bad_all {kn : List Str} {mv : List Mv} (h : GoodBk kn mv) {k0 : Str} {kr : List Str} (hk : kn = k0 :: kr) {zs : List PyData} (hz : zs = List.replicate kn.length (.int 0)) : AllB BadB (badDs (kn.map PyData.str) (mv.map moveD) zs (.str k0)) := by
  have hlz : zs.length = kn.length := by rw [hz, List.length_replicate]
  have hlk : (kn.map PyData.str).length = kn.length := List.length_map ..
  obtain ⟨zr, hzr⟩ : ∃ zr, zs = .int 0 :: zr := ⟨List.replicate kr.length (.int 0), by rw [hz, hk]; rfl⟩
  have ct : cutD zs (some 1) none = zr := by rw [hzr]; exact cutD_tail
  have zz : SmallStr (.str "zz") := small_lit (by decide +kernel)
  have hk0 : k0 ∈ kn := by rw [hk]; exact List.mem_cons_self
  have sk0 : SmallStr (.str k0) := h.smallK _ (List.mem_map.mpr ⟨k0, hk0, rfl⟩)
  unfold badDs
  rw [ct]
  refine ⟨⟨small_pair (fun d hd => ?_) h.smallM, book_twice ?_⟩, ⟨small_pair (fun d hd => by cases hd) (fun d hd => by cases hd), by decide +kernel⟩, ⟨small_pair h.smallK (moves_app h.smallM fun d hd => ?_), book_twice ?_⟩,
    ⟨small_pair h.smallK (moves_app h.smallM (moves_lit (small_lit (by decide +kernel)))), book_moves (moves_one (List.mem_append_right _ List.mem_cons_self) (move_nm (by decide +kernel)))⟩,
    ⟨small_pair h.smallK (moves_lit zz), book_moves (moves_one List.mem_cons_self (move_take (units_len ?_)))⟩,
    ⟨small_pair h.smallK (moves_lit zz), book_moves (moves_one List.mem_cons_self (move_take (units_most rfl)))⟩,
    ⟨small_pair h.smallK (moves_lit zz), book_moves (moves_one List.mem_cons_self (move_le ?_))⟩,
    ⟨small_pair h.smallK (moves_lit zz), book_moves (moves_one List.mem_cons_self (move_take (units_entry rfl)))⟩,
    ⟨small_pair h.smallK (moves_lit zz), book_moves (moves_one List.mem_cons_self (move_low (units_entry rfl)))⟩,
    ⟨small_pair h.smallK ?_, book_moves (moves_one List.mem_cons_self (fMove_ne ?_))⟩,
    ⟨small_pair h.smallK ?_, ?_⟩,
    ⟨small_pair trivial h.smallM, book_kinds rfl⟩,
    ⟨small_pair (fun d hd => ?_) (fun d hd => by cases hd), book_kinds (by decide +kernel)⟩,
    ⟨fun a b e => ?_, ?_⟩, ⟨fun a b e => (by cases e), rfl⟩, ⟨fun a b e => (by cases e), rfl⟩,
    ⟨small_pair h.smallK (fun d hd => ?_), book_moves ?_⟩,
    ⟨small_pair (fun d hd => ?_) (fun d hd => by cases hd), book_kinds (by decide +kernel)⟩,
    ⟨small_pair (fun d hd => ?_) (fun d hd => by cases hd), book_kinds (by decide +kernel)⟩, trivial⟩
  · rcases List.mem_append.mp hd with z | z
    · exact h.smallK d z
    · rw [show (some (1 : Int)) = some ((1 : Nat) : Int) from rfl, cutD_upto] at z
      exact h.smallK d (List.mem_of_mem_take z)
  · rw [show (some (1 : Int)) = some ((1 : Nat) : Int) from rfl, cutD_upto]
    show ¬ (((kn.map PyData.str ++ (kn.map PyData.str).take 1).map strOf) ++ _).Nodup
    rw [List.map_append]
    intro z
    refine twice_app (x := k0) ?_ ?_ (List.nodup_append.mp z).1
    · rw [hk]; exact List.mem_cons_self
    · rw [hk]; exact List.mem_cons_self
  · have : d = goodD (.tuple zs) := by
      have e : (List.replicate (2 : Int).toNat [goodD (.tuple zs)]).flatten = [goodD (.tuple zs), goodD (.tuple zs)] := rfl
      rw [e] at hd
      rcases List.mem_cons.mp hd with e | hd
      · exact e
      · exact List.mem_singleton.mp hd
    rw [this]
    exact zz
  · have e : (List.replicate (2 : Int).toNat [goodD (.tuple zs)]).flatten = [goodD (.tuple zs), goodD (.tuple zs)] := rfl
    rw [e]
    show ¬ (_ ++ (mv.map moveD ++ [goodD (.tuple zs), goodD (.tuple zs)]).map nameOf).Nodup
    rw [List.map_append]
    intro z
    have z1 := (List.nodup_append.mp (List.nodup_append.mp z).2.1).2.1
    have : ¬ ([Str.ofString "zz", Str.ofString "zz"] : List Str).Nodup := by simp
    exact this z1
  · rw [List.length_append, hlz]
    show ¬ (((kn.length + 1 : Nat) : Int) = ((kn.map PyData.str).length : Nat))
    rw [hlk]
    omega
  · rw [hzr]
    rfl
  · rw [show (some (3 : Int)) = some ((3 : Nat) : Int) from rfl, cutD_upto]
    exact moves_lit zz
  · rw [show (some (3 : Int)) = some ((3 : Nat) : Int) from rfl, cutD_upto]
    show (3 : Nat) ≠ 4
    decide
  · rw [cutD_tail]
    exact moves_lit sk0
  · rw [cutD_tail]
    refine book_twice (twice_app (x := k0) ?_ ?_)
    · exact List.mem_map.mpr ⟨.str k0, List.mem_map.mpr ⟨k0, hk0, rfl⟩, rfl⟩
    · exact List.mem_cons_self
  · have : ∀ x ∈ ([.str "aa", .str "ab", .str "ac", .str "ad", .str "ae", .str "af", .str "ag"] : List PyData), SmallStr x := by
      intro x hx
      simp only [List.mem_cons, List.not_mem_nil, or_false] at hx
      rcases hx with rfl | rfl | rfl | rfl | rfl | rfl | rfl <;> exact small_lit (by decide +kernel)
    exact this d hd
  · have e' : kn.map PyData.str = [a, b] := PyData.tuple.inj e
    have ha : a ∈ kn.map PyData.str := by rw [e']; simp
    have hb : b ∈ kn.map PyData.str := by rw [e']; simp
    obtain ⟨x, _, rfl⟩ := List.mem_map.mp ha
    obtain ⟨y, _, rfl⟩ := List.mem_map.mp hb
    exact ⟨trivial, trivial⟩
  · by_cases hl : (kn.map PyData.str).length = 2
    · match hkn : kn.map PyData.str, hl with
      | [a, b], _ =>
        have ha : a ∈ kn.map PyData.str := by rw [hkn]; simp
        obtain ⟨x, _, rfl⟩ := List.mem_map.mp ha
        exact book_kinds rfl
    · exact fBook_ne hl
  · obtain ⟨k, hk, rfl⟩ := List.mem_map.mp hd
    exact small_lit (zN_small ⟨k, List.mem_range.mp hk⟩)
  · rfl
  · rw [List.mem_singleton.mp hd]
    exact small_lit (by decide +kernel)
  · rw [List.mem_singleton.mp hd]
    exact small_lit (by decide +kernel)
end Mint


namespace Mint
open PySem PySem.Spec PyProof.Rows L2 GxR Gx RZ

/-! ### _law_bad_book -/
def spBadL (K : PySem.W.Frag) : Sp := fun vs H Q _ => ∃ (d p0 : Addr) (b : V) (kn : List Str) (mv : List Mv), vs = [.ref d, b] ∧ Draw H d p0 ∧ Dp K H b (bkD kn mv) ∧ GoodBk kn mv ∧
  ∀ (H' : Hp) (v : V) (D : PyData), ExtL H H' → Draw H' d p0 → Dp K H' v D → BadB D → Q v H'
theorem go_set {te : TE} {i : Nat} {t2 : TS} {D : Ends} {σ : L2.St} {H : Hp} (h : te σ H fun v H' => t2 D (σ.set i (some v)) H') : tSeq (tAsg te (gName i)) t2 D σ H := h
theorem go_lst {K : PySem.W.Frag} {ta : TA} {ds : List PyData} {i : Nat} {t2 : TS} {D : Ends} {σ : L2.St} {H : Hp} (h : Gvs K σ H ta ds) (hl : ds.length ≤ 1000) (k : ∀ H' vs p, ExtP H H' → DpAll K H' vs ds → H' p = none → t2 D (σ.set i (some (.ref p))) (upd H' p (.lst vs))) : tSeq (tAsg (tLst ta) (gName i)) t2 D σ H :=
  h H _ (Ext.refl true H) fun H' vs e hv => ⟨by rw [dpAll_len hv, sizeLine_eq]; omega, fun p hp => k H' vs p e hv hp⟩
section
variable {P : Program} {w : World} {K : PySem.W.Frag} {mg : Str → Option Value} {base : Heap} {f T : Addr} {fd : FuncData}
theorem ok_badL (F : Fun K "_law_bad_book" "_law_bad_book" sBadL f fd) (G : Glb mg) (DT : Def P w K mg base "_law_take" 1 ["draws", "bound"] spTake) : FnOk P w K mg base CX0 2 f fd ["draws", "book"] (spBadL K) := by
  refine F.ok scBadL (fun vs H Q E h => ?_) (fun cdv A outer s H vs Q E hr h => ?_)
  · obtain ⟨d, p0, b, kn, mv, rfl, _⟩ := h
    rfl
  obtain ⟨d, p0, b, kn, mv, rfl, hD, hb, gb, q⟩ := h
  obtain ⟨a, a1, a2, x1, x2, rfl, hS, s1, d1, s2, d2⟩ := book_parts hb
  have nd := scBadL.nd
  refine ⟨_, (pss_cons (ps_asg (pv 1) (pg_tup (n := 2) (by rfl) (pgs_cons (pg_name (i := 2) nd rfl (Or.inl rfl)) (pgs_cons (pg_name (i := 3) nd rfl (Or.inl rfl)) pgs_nil))))
    (pss_cons (ps_set (i := 4) nd rfl (Or.inl rfl) (pe_callB call_len rfl G.len PySem.boot_len (pa_cons (pv 2) pa_nil)))
    (pss_cons (ps_set (i := 5) nd rfl (Or.inr rfl) (pe_op op_repA (pe_tup (pa_cons pe_int pa_nil)) (pv 4)))
    (pss_cons (ps_set (i := 6) nd rfl (Or.inl rfl) (pe_tup (pa_cons pe_str (pa_cons (pv 5) (pa_cons (pv 5) (pa_cons (pv 5) pa_nil))))))
    (pss_cons (ps_set (i := 7) nd rfl (Or.inl rfl) (pe_lst (pa_cons (pe_tup (pa_cons (pe_op op_catA (pv 2) (pe_slice sl_tupA (pv 2) po_none (po_some pe_int))) (pa_cons (pv 3) pa_nil))) (pa_cons (pe_tup (pa_cons (pe_tup pa_nil) (pa_cons (pe_tup pa_nil) pa_nil))) (pa_cons (pe_tup (pa_cons (pv 2) (pa_cons (pe_op op_catA (pv 3) (pe_op op_repA (pe_tup (pa_cons (pv 6) pa_nil)) pe_int)) pa_nil))) (pa_cons (pe_tup (pa_cons (pv 2) (pa_cons (pe_op op_catA (pv 3) (pe_tup (pa_cons (pe_tup (pa_cons pe_str (pa_cons (pv 5) (pa_cons (pv 5) (pa_cons (pv 5) pa_nil))))) pa_nil))) pa_nil))) (pa_cons (pe_tup (pa_cons (pv 2) (pa_cons (pe_tup (pa_cons (pe_tup (pa_cons pe_str (pa_cons (pe_op op_catA (pv 5) (pe_tup (pa_cons pe_int pa_nil))) (pa_cons (pv 5) (pa_cons (pv 5) pa_nil))))) pa_nil)) pa_nil))) (pa_cons (pe_tup (pa_cons (pv 2) (pa_cons (pe_tup (pa_cons (pe_tup (pa_cons pe_str (pa_cons (pe_op op_catA (pe_tup (pa_cons pe_int pa_nil)) (pe_slice sl_tupA (pv 5) (po_some pe_int) po_none)) (pa_cons (pv 5) (pa_cons (pv 5) pa_nil))))) pa_nil)) pa_nil))) (pa_cons (pe_tup (pa_cons (pv 2) (pa_cons (pe_tup (pa_cons (pe_tup (pa_cons pe_str (pa_cons (pv 5) (pa_cons (pe_op op_catA (pe_tup (pa_cons pe_int pa_nil)) (pe_slice sl_tupA (pv 5) (po_some pe_int) po_none)) (pa_cons (pv 5) pa_nil))))) pa_nil)) pa_nil))) (pa_cons (pe_tup (pa_cons (pv 2) (pa_cons (pe_tup (pa_cons (pe_tup (pa_cons pe_str (pa_cons (pe_op op_catA (pe_tup (pa_cons (pe_un un_neg pe_int) pa_nil)) (pe_slice sl_tupA (pv 5) (po_some pe_int) po_none)) (pa_cons (pv 5) (pa_cons (pv 5) pa_nil))))) pa_nil)) pa_nil))) (pa_cons (pe_tup (pa_cons (pv 2) (pa_cons (pe_tup (pa_cons (pe_tup (pa_cons pe_str (pa_cons (pv 5) (pa_cons (pe_op op_catA (pe_tup (pa_cons pe_bl pa_nil)) (pe_slice sl_tupA (pv 5) (po_some pe_int) po_none)) (pa_cons (pv 5) pa_nil))))) pa_nil)) pa_nil))) (pa_cons (pe_tup (pa_cons (pv 2) (pa_cons (pe_tup (pa_cons (pe_slice sl_tupA (pv 6) po_none (po_some pe_int)) pa_nil)) pa_nil))) (pa_cons (pe_tup (pa_cons (pv 2) (pa_cons (pe_tup (pa_cons (pe_op op_catA (pe_tup (pa_cons (pe_ix ix_tup (pv 2) pe_int (fun _ _ => rfl)) pa_nil)) (pe_slice sl_tupA (pv 6) (po_some pe_int) po_none)) pa_nil)) pa_nil))) (pa_cons (pe_tup (pa_cons (pe_ix ix_tup (pv 2) pe_int (fun _ _ => rfl)) (pa_cons (pv 3) pa_nil))) (pa_cons (pe_tup (pa_cons (pe_tup (pa_cons pe_str (pa_cons pe_str (pa_cons pe_str (pa_cons pe_str (pa_cons pe_str (pa_cons pe_str (pa_cons pe_str pa_nil)))))))) (pa_cons (pe_tup pa_nil) pa_nil))) (pa_cons (pv 2) (pa_cons pe_non (pa_cons pe_int (pa_cons (pe_tup (pa_cons (pv 2) (pa_cons (pe_callTy call_tuple_of rfl G.tuple (by decide +kernel) (pa_cons (pe_lc (own := [("k", 8)]) (g := gName 8) (te := tTup (tCons (tOp (fun x y H Q => ∃ i j, x = V.str i ∧ y = V.str j ∧ i.length + j.length ≤ sizeLine ∧ Q (V.str (i ++ j)) H) (tC (.str "z")) (tCB (fun xs H Q => ∃ i, xs = [.int i] ∧ i.natAbs.log2 < 1920 ∧ Q (.str (toString i)) H) (tCons (tVar 8) tNil))) (tCons (tVar 5) (tCons (tVar 5) (tCons (tVar 5) tNil)))))  rfl nd (pi_range1 rfl G.range (pa_cons pe_int pa_nil)) (blkOk_by (own := [("k", 8)]) (N := ["draws", "book", "kinds", "moves", "n", "zero", "good", "bad", "k"]) (sc := defScope sBadL) (by decide +kernel)) (fun _ _ _ _ _ => (pg_name (i := 8) nd rfl (Or.inl rfl))) (fun _ _ _ _ _ => pts_nil) (fun _ _ _ _ _ => (pe_tup (pa_cons (pe_op op_add_str pe_str (pe_callTy call_str_int rfl G.str (by decide +kernel) (pa_cons (pv 8) pa_nil))) (pa_cons (pv 5) (pa_cons (pv 5) (pa_cons (pv 5) pa_nil))))))) pa_nil)) pa_nil))) (pa_cons (pe_tup (pa_cons (pe_tup (pa_cons pe_str pa_nil)) (pa_cons (pe_tup pa_nil) pa_nil))) (pa_cons (pe_tup (pa_cons (pe_tup (pa_cons pe_str pa_nil)) (pa_cons (pe_tup pa_nil) pa_nil))) pa_nil)))))))))))))))))))))
    (pss_one (ps_ret (pe_ix ix_list (pv 7) (pe_c DT (hr) (pa_cons (pv 0) (pa_cons (pe_callB call_len rfl G.len PySem.boot_len (pa_cons (pv 7) pa_nil)) pa_nil))) (fun _ _ => rfl))))))))), ?_⟩
  refine ⟨_, rfl, a, [.ref a1, .ref a2], rfl, hS, rfl, _, _, rfl, _, _, rfl, rfl, ?_⟩
  refine ⟨_, rfl, _, _, rfl, .inr ⟨x1, s1, rfl⟩, ?_⟩
  have lx1 : x1.length = kn.length := (dpAll_len d1).trans (List.length_map ..)
  have lms : (mv.map moveD).length ≤ 8 := by rw [List.length_map]; exact gb.eight
  have lks : (kn.map PyData.str).length ≤ 6 := by rw [List.length_map]; exact gb.six
  have h16 := gb.one
  have h66 := gb.six
  rw [lx1]
  refine go_set ((gv_rep (K := K) (gv_tup (gvs_cons gv_int gvs_nil) (by decide)) (gv_var rfl (.int _)) (by simp) (by omega) (by omega) (by decide)) H _ (Ext.refl true H) fun H1 vz e1 hz => ?_)
  rw [Int.toNat_natCast, flat_one] at hz
  obtain ⟨zs, ezs⟩ : ∃ zs, zs = List.replicate kn.length (PyData.int 0) := ⟨_, rfl⟩
  rw [← ezs] at hz
  have lzs : zs.length ≤ 6 := by rw [ezs, List.length_replicate]; exact h66
  refine go_set ((gv_tup (K := K) (gvs_cons gv_str (gvs_cons (gv_var rfl hz) (gvs_cons (gv_var rfl hz) (gvs_cons (gv_var rfl hz) gvs_nil)))) (by show 4 ≤ 1000; decide)) H1 _ (Ext.refl true H1) fun H2 vg e2 hG => ?_)
  have hZ := e2.dp hz
  have e02 := e1.trans e2
  have hK : Dp K H2 (.ref a1) (.tuple (kn.map PyData.str)) := e02.dp (.tup s1 d1)
  have hM : Dp K H2 (.ref a2) (.tuple (mv.map moveD)) := e02.dp (.tup s2 d2)
  obtain ⟨k0, kr, hkn⟩ : ∃ k0 kr, kn = k0 :: kr := by
    cases kn with
    | nil => exact absurd h16 (by decide)
    | cons a b => exact ⟨a, b, rfl⟩
  have hk0at : (kn.map PyData.str)[0]? = some (.str k0) := by rw [hkn]; rfl
  have c1 := cutD_len (kn.map PyData.str) none (some 1)
  have c2 := cutD_len zs (some 1) none
  have hD2 : Draw H2 d p0 := hD.ext e02
  have all := bad_all gb hkn ezs
  have c3 : (cutD [.str "zz", .tuple zs, .tuple zs, .tuple zs] (some 1) none).length ≤ 4 := cutD_len _ _ _
  refine go_lst (K := K) (ds := badDs (kn.map PyData.str) (mv.map moveD) zs (.str k0)) (gvs_cons (gv_tup (gvs_cons (gv_cat (gv_var rfl hK) (gv_cut (gv_var rfl hK) go_none go_int) (by (first | omega | (simp only [List.length_append, List.length_cons, List.length_nil, List.length_flatten, List.map_replicate, List.sum_replicate_nat]; omega)))) (gvs_cons (gv_var rfl hM) gvs_nil)) (by show 2 ≤ 1000; decide)) (gvs_cons (gv_tup (gvs_cons (gv_tup gvs_nil (by show 0 ≤ 1000; decide)) (gvs_cons (gv_tup gvs_nil (by show 0 ≤ 1000; decide)) gvs_nil)) (by show 2 ≤ 1000; decide)) (gvs_cons (gv_tup (gvs_cons (gv_var rfl hK) (gvs_cons (gv_cat (gv_var rfl hM) (gv_rep (gv_tup (gvs_cons (gv_var rfl hG) gvs_nil) (by show 1 ≤ 1000; decide)) gv_int (by simp) (by decide) (by decide) (by show 1 ≤ 1000; decide)) (by (first | omega | (simp only [List.length_append, List.length_cons, List.length_nil, List.length_flatten, List.map_replicate, List.sum_replicate_nat]; omega)))) gvs_nil)) (by show 2 ≤ 1000; decide)) (gvs_cons (gv_tup (gvs_cons (gv_var rfl hK) (gvs_cons (gv_cat (gv_var rfl hM) (gv_tup (gvs_cons (gv_tup (gvs_cons gv_str (gvs_cons (gv_var rfl hZ) (gvs_cons (gv_var rfl hZ) (gvs_cons (gv_var rfl hZ) gvs_nil)))) (by show 4 ≤ 1000; decide)) gvs_nil) (by show 1 ≤ 1000; decide)) (by (first | omega | (simp only [List.length_append, List.length_cons, List.length_nil, List.length_flatten, List.map_replicate, List.sum_replicate_nat]; omega)))) gvs_nil)) (by show 2 ≤ 1000; decide)) (gvs_cons (gv_tup (gvs_cons (gv_var rfl hK) (gvs_cons (gv_tup (gvs_cons (gv_tup (gvs_cons gv_str (gvs_cons (gv_cat (gv_var rfl hZ) (gv_tup (gvs_cons gv_int gvs_nil) (by show 1 ≤ 1000; decide)) (by (first | omega | (simp only [List.length_append, List.length_cons, List.length_nil, List.length_flatten, List.map_replicate, List.sum_replicate_nat]; omega)))) (gvs_cons (gv_var rfl hZ) (gvs_cons (gv_var rfl hZ) gvs_nil)))) (by show 4 ≤ 1000; decide)) gvs_nil) (by show 1 ≤ 1000; decide)) gvs_nil)) (by show 2 ≤ 1000; decide)) (gvs_cons (gv_tup (gvs_cons (gv_var rfl hK) (gvs_cons (gv_tup (gvs_cons (gv_tup (gvs_cons gv_str (gvs_cons (gv_cat (gv_tup (gvs_cons gv_int gvs_nil) (by show 1 ≤ 1000; decide)) (gv_cut (gv_var rfl hZ) go_int go_none) (by (first | omega | (simp only [List.length_append, List.length_cons, List.length_nil, List.length_flatten, List.map_replicate, List.sum_replicate_nat]; omega)))) (gvs_cons (gv_var rfl hZ) (gvs_cons (gv_var rfl hZ) gvs_nil)))) (by show 4 ≤ 1000; decide)) gvs_nil) (by show 1 ≤ 1000; decide)) gvs_nil)) (by show 2 ≤ 1000; decide)) (gvs_cons (gv_tup (gvs_cons (gv_var rfl hK) (gvs_cons (gv_tup (gvs_cons (gv_tup (gvs_cons gv_str (gvs_cons (gv_var rfl hZ) (gvs_cons (gv_cat (gv_tup (gvs_cons gv_int gvs_nil) (by show 1 ≤ 1000; decide)) (gv_cut (gv_var rfl hZ) go_int go_none) (by (first | omega | (simp only [List.length_append, List.length_cons, List.length_nil, List.length_flatten, List.map_replicate, List.sum_replicate_nat]; omega)))) (gvs_cons (gv_var rfl hZ) gvs_nil)))) (by show 4 ≤ 1000; decide)) gvs_nil) (by show 1 ≤ 1000; decide)) gvs_nil)) (by show 2 ≤ 1000; decide)) (gvs_cons (gv_tup (gvs_cons (gv_var rfl hK) (gvs_cons (gv_tup (gvs_cons (gv_tup (gvs_cons gv_str (gvs_cons (gv_cat (gv_tup (gvs_cons gv_neg gvs_nil) (by show 1 ≤ 1000; decide)) (gv_cut (gv_var rfl hZ) go_int go_none) (by (first | omega | (simp only [List.length_append, List.length_cons, List.length_nil, List.length_flatten, List.map_replicate, List.sum_replicate_nat]; omega)))) (gvs_cons (gv_var rfl hZ) (gvs_cons (gv_var rfl hZ) gvs_nil)))) (by show 4 ≤ 1000; decide)) gvs_nil) (by show 1 ≤ 1000; decide)) gvs_nil)) (by show 2 ≤ 1000; decide)) (gvs_cons (gv_tup (gvs_cons (gv_var rfl hK) (gvs_cons (gv_tup (gvs_cons (gv_tup (gvs_cons gv_str (gvs_cons (gv_var rfl hZ) (gvs_cons (gv_cat (gv_tup (gvs_cons gv_bl gvs_nil) (by show 1 ≤ 1000; decide)) (gv_cut (gv_var rfl hZ) go_int go_none) (by (first | omega | (simp only [List.length_append, List.length_cons, List.length_nil, List.length_flatten, List.map_replicate, List.sum_replicate_nat]; omega)))) (gvs_cons (gv_var rfl hZ) gvs_nil)))) (by show 4 ≤ 1000; decide)) gvs_nil) (by show 1 ≤ 1000; decide)) gvs_nil)) (by show 2 ≤ 1000; decide)) (gvs_cons (gv_tup (gvs_cons (gv_var rfl hK) (gvs_cons (gv_tup (gvs_cons (gv_cut (gv_var rfl hG) go_none go_int) gvs_nil) (by show 1 ≤ 1000; decide)) gvs_nil)) (by show 2 ≤ 1000; decide)) (gvs_cons (gv_tup (gvs_cons (gv_var rfl hK) (gvs_cons (gv_tup (gvs_cons (gv_cat (gv_tup (gvs_cons (gv_ix (k := 0) (gv_var rfl hK) hk0at gv_int) gvs_nil) (by show 1 ≤ 1000; decide)) (gv_cut (gv_var rfl hG) go_int go_none) (by (first | omega | (simp only [List.length_append, List.length_cons, List.length_nil, List.length_flatten, List.map_replicate, List.sum_replicate_nat]; omega)))) gvs_nil) (by show 1 ≤ 1000; decide)) gvs_nil)) (by show 2 ≤ 1000; decide)) (gvs_cons (gv_tup (gvs_cons (gv_ix (k := 0) (gv_var rfl hK) hk0at gv_int) (gvs_cons (gv_var rfl hM) gvs_nil)) (by show 2 ≤ 1000; decide)) (gvs_cons (gv_tup (gvs_cons (gv_tup (gvs_cons gv_str (gvs_cons gv_str (gvs_cons gv_str (gvs_cons gv_str (gvs_cons gv_str (gvs_cons gv_str (gvs_cons gv_str gvs_nil))))))) (by show 7 ≤ 1000; decide)) (gvs_cons (gv_tup gvs_nil (by show 0 ≤ 1000; decide)) gvs_nil)) (by show 2 ≤ 1000; decide)) (gvs_cons (gv_var rfl hK) (gvs_cons gv_non (gvs_cons gv_int (gvs_cons (gv_tup (gvs_cons (gv_var rfl hK) (gvs_cons (?_) gvs_nil)) (by show 2 ≤ 1000; decide)) (gvs_cons (gv_tup (gvs_cons (gv_tup (gvs_cons gv_str gvs_nil) (by show 1 ≤ 1000; decide)) (gvs_cons (gv_tup gvs_nil (by show 0 ≤ 1000; decide)) gvs_nil)) (by show 2 ≤ 1000; decide)) (gvs_cons (gv_tup (gvs_cons (gv_tup (gvs_cons gv_str gvs_nil) (by show 1 ≤ 1000; decide)) (gvs_cons (gv_tup gvs_nil (by show 0 ≤ 1000; decide)) gvs_nil)) (by show 2 ≤ 1000; decide)) gvs_nil))))))))))))))))))) (by show 19 ≤ 1000; decide) fun H3 vs p e3 hvs hp => ?_
  · -- the nine moves
    intro HA QA eA qA
    refine ⟨(9 : Int), rfl, by decide, by decide, fun D hD0 => ?_⟩
    have hZA : Dp K HA vz (.tuple zs) := eA.dp hZ
    have nZ : noLst (.tuple zs) = true := noLsts_of fun x hx => by
      rw [ezs] at hx
      rw [(List.mem_replicate.mp hx).2]
      rfl
    refine lc_range (lo := 0) (n := 9) (fun j H3 => ExtP HA H3 ∧ ∃ vs, H3 D = some (.lst vs) ∧ DpAll K H3 vs (manyD (.tuple zs) j)) ⟨Ext.new hD0 _, [], upd_same, .nil⟩ (fun j H3 hj ⟨e3, vs, hvs, hdv⟩ => ?_) fun H3 ⟨e3, vs, hvs, hdv⟩ => ?_
    · refine ⟨rfl, ?_⟩
      have l1 : (Str.ofString "z" : Str).length = 1 := by decide +kernel
      have lj : ∀ j : Fin 9, (Str.ofString (toString (0 + (j.val : Int)))).length ≤ 10 ∧ (0 + (j.val : Int)).natAbs.log2 < 1920 ∧ Str.ofString "z" ++ Str.ofString (toString (0 + (j.val : Int))) = zN j.val := by decide +kernel
      obtain ⟨l2, l3, l4⟩ := lj ⟨j, hj⟩
      have l2' : (Str.ofString (toString (0 + (j : Int)))).length ≤ 10 := l2
      refine ⟨_, rfl, _, rfl, l3, _, _, rfl, rfl, (by rw [l1, sizeLine_eq]; omega), vz, rfl, vz, rfl, vz, rfl, (by show 4 ≤ sizeLine; decide), fun p hp => ?_⟩
      have e4 : ExtP H3 _ := Ext.new hp (.tup [.str (Str.ofString "z" ++ Str.ofString (toString (0 + (j : Int)))), vz, vz, vz])
      have hv4 := e4.obj _ _ rfl hvs
      refine ⟨vs, hv4, ?_, (e3.trans e4).upd_new hD0, vs ++ [.ref p], upd_same, ?_⟩
      · rw [dpAll_len hdv]
        show ((List.range j).map _).length < sizeLine
        rw [List.length_map, List.length_range]
        exact small1000 (by omega)
      · have em : manyD (.tuple zs) (j + 1) = manyD (.tuple zs) j ++ [.tuple [.str (zN j), .tuple zs, .tuple zs, .tuple zs]] := by
          unfold manyD
          rw [List.range_succ, List.map_append]
          rfl
        have nM : ∀ x ∈ manyD (.tuple zs) j, noLst x = true := fun x hx => by
          obtain ⟨k, _, rfl⟩ := List.mem_map.mp hx
          show (true && (noLst (.tuple zs) && (noLst (.tuple zs) && (noLst (.tuple zs) && true)))) = true
          rw [nZ]
          rfl
        have hz4 := (e3.trans e4).dp hZA
        rw [em]
        refine dp_app (dps_upd hv4 (noLsts_of nM) (e4.dps hdv)) (.cons (dp_upd hv4 ?_ (.tup (SqT.of upd_same) (.cons ?_ (.cons hz4 (.cons hz4 (.cons hz4 .nil)))))) .nil)
        · show (true && (noLst (.tuple zs) && (noLst (.tuple zs) && (noLst (.tuple zs) && true)))) = true
          rw [nZ]
          rfl
        · have l4' : Str.ofString "z" ++ Str.ofString (toString (0 + (j : Int))) = zN j := l4
          rw [l4']
          exact .str _
    · exact ⟨D, vs, rfl, .inl ⟨SqL.of hvs, fun p hp => qA _ _ (e3.trans (Ext.new hp _)) (.tup (SqT.of upd_same) ((Ext.new (dk := true) hp _).dps hdv))⟩⟩
  · have e4 : ExtP H3 (upd H3 p (.lst vs)) := Ext.new hp _
    have lvs : vs.length = 19 := (dpAll_len hvs).trans rfl
    have e24 : ExtP H (upd H3 p (.lst vs)) := (e02.trans e3).trans e4
    refine ⟨_, rfl, _, rfl, _, rfl, _, _, rfl, .inl ⟨vs, SqL.of upd_same, rfl⟩, d, p0, (vs.length : Int), rfl, hD.ext e24, by omega, fun H5 v e5 hD5 hv0 hv1 => ?_⟩
    obtain ⟨x, hx, hmem⟩ := atI_mem (xs := vs) hv0 hv1
    obtain ⟨i, hi, ei⟩ := List.getElem_of_mem hmem
    obtain ⟨DD, hDD, hdp⟩ := dpAll_get hvs (List.getElem?_eq_some_iff.mpr ⟨hi, ei⟩)
    refine ⟨p, vs, v, x, rfl, rfl, SqL.of (e5.obj _ _ rfl upd_same), hx, ?_⟩
    exact q H5 x DD (e24.weak.trans e5) hD5 (e5.dp (e4.dp hdp)) (allB_mem all (List.mem_of_getElem? hDD))
end
end Mint


namespace Mint
open PySem PySem.Spec PyProof.Rows L2 GxR Gx RZ

/-! ### law -/
def spLaw (K : PySem.W.Frag) (Ps : List Addr) : Sp := fun vs H Q _ => ∃ (a : Addr) (zs : List Int), vs = [.ref a] ∧ SqL K H a (zs.map V.int) ∧ zs.length ≤ 63 ∧ Tabs Ps H ∧ ∀ H', ExtL H H' → Q (.bl true) H'
abbrev sLaw : Stmt := top 36
theorem scLaw : FnScope ["script", "draws", "book", "n", "name", "due", "answer", "stock", "wrong", "endless", "k", "run", "bad", "last"] ["script"] (defScope sLaw) := ⟨rfl, rfl, rfl, by decide +kernel, rfl, by decide +kernel, by decide +kernel⟩
theorem go_forL {K : PySem.W.Frag} {ta : TA} {ds : List PyData} {g : TG} {tb t2 : TS} {D : Ends} {σ : L2.St} {H : Hp} (h : Gvs K σ H ta ds) (hl : ds.length ≤ 1000)
    (k : ∀ H' vs p, ExtP H H' → DpAll K H' vs ds → H' p = none → ∃ W : Nat → Nat → L2.St → Hp → Prop, (∃ m, W 0 m σ (upd H' p (.lst vs))) ∧ ∀ i m σ H, W i m σ H →
      ((Itl K p).stop i H ∧ (Ends.mk (t2 D) D.rt D.bk D.ct).nx σ H) ∨ ((Itl K p).go i H ∧ ∃ N : L2.St → Hp → Prop, (∀ σ' H', N σ' H' → ∃ m', m' < m ∧ W (i + 1) m' σ' H') ∧ ∀ x H', (Itl K p).yld i H x H' → g x σ H' fun σ2 H2 => tb { (Ends.mk (t2 D) D.rt D.bk D.ct) with nx := N, ct := N, bk := (Ends.mk (t2 D) D.rt D.bk D.ct).nx } σ2 H2)) : tSeq (tFor (iList K (tLst ta)) g tb) t2 D σ H :=
  h H _ (Ext.refl true H) fun H' vs e hv => ⟨by rw [dpAll_len hv, sizeLine_eq]; omega, fun p hp => ⟨p, rfl, ⟨_, SqL.of upd_same⟩, k H' vs p e hv hp⟩⟩
theorem go_pick {K : PySem.W.Frag} {ta : TA} {tb : TE} {ds : List PyData} {i : Nat} {t2 : TS} {D : Ends} {σ : L2.St} {H : Hp} (h : Gvs K σ H ta ds) (hl : ds.length ≤ 1000)
    (k : ∀ H' vs p, ExtP H H' → DpAll K H' vs ds → H' p = none → tb σ (upd H' p (.lst vs)) fun y H2 => rIxL K (.ref p) y H2 fun v H3 => t2 D (σ.set i (some v)) H3) : tSeq (tAsg (tOp (rIxL K) (tLst ta) tb) (gName i)) t2 D σ H :=
  h H _ (Ext.refl true H) fun H' vs e hv => ⟨by rw [dpAll_len hv, sizeLine_eq]; omega, fun p hp => k H' vs p e hv hp⟩
theorem cutD_init (ds : List PyData) : cutD ds none (some (-1)) = ds.take (ds.length - 1) := by
  unfold cutD
  rw [HT.sIx_none, List.drop_zero, Nat.sub_zero]
  have : HT.sIx ds.length ds.length (some (-1)) = ds.length - 1 := by
    show (if (-1 : Int) < 0 then ((-1 : Int) + (ds.length : Int)).toNat else min (-1 : Int).toNat ds.length) = _
    rw [if_pos (by decide)]
    omega
  rw [this]
def NoStock (n : Nat) (D : PyData) : Prop := fEntries D n 0 = false ∧ fEntries D n (-1) = false
theorem entries_len {ds : List PyData} {w l : Int} (h : (ds.length : Int) ≠ w) : fEntries (.tuple ds) w l = false := by
  show (decide ((ds.length : Int) = w) && _) = false
  rw [decide_eq_false h]
  rfl
theorem entries_last {ds : List PyData} {d : PyData} {w l : Int} (h : okEntry l d = false) : fEntries (.tuple (ds ++ [d])) w l = false := by
  show (_ && (ds ++ [d]).all (okEntry l)) = false
  rw [List.all_append, List.all_cons, h, Bool.false_and, Bool.and_false, Bool.and_false]
theorem wrong_all {es : List Int} {n : Nat} (h : es.length = n) (h1 : 1 ≤ n) : AllB (NoStock n) [.tuple (es.map PyData.int ++ [PyData.int 0]), .tuple (cutD (es.map PyData.int) none (some (-1)) ++ [PyData.int (-2)]), .tuple (cutD (es.map PyData.int) none (some (-1)) ++ [PyData.bool true]), .tuple (cutD (es.map PyData.int) none (some (-1))), .none] := by
  rw [cutD_init, List.length_map]
  have a1 : ((es.map PyData.int ++ [PyData.int 0]).length : Int) ≠ n := by
    rw [List.length_append, List.length_map]
    simp only [List.length_cons, List.length_nil]
    omega
  have a2 : (((es.map PyData.int).take (es.length - 1)).length : Int) ≠ n := by
    rw [List.length_take, List.length_map]
    omega
  exact ⟨⟨entries_len a1, entries_len a1⟩, ⟨entries_last rfl, entries_last rfl⟩, ⟨entries_last rfl, entries_last rfl⟩, ⟨entries_len a2, entries_len a2⟩, ⟨rfl, rfl⟩, trivial⟩
theorem endless_is {es : List Int} {n : Nat} {m : Int} (h : es.length = n) (h1 : 1 ≤ n) (h2 : ∀ e ∈ es, 0 ≤ e ∧ e ≤ m) : fEntries (.tuple (cutD (es.map PyData.int) none (some (-1)) ++ [PyData.int (-1)])) n 0 = false ∧ fEntries (.tuple (cutD (es.map PyData.int) none (some (-1)) ++ [PyData.int (-1)])) n (-1) = true := by
  refine ⟨entries_last rfl, ?_⟩
  rw [cutD_init, List.length_map]
  show (decide ((((es.map PyData.int).take (es.length - 1) ++ [PyData.int (-1)]).length : Int) = n) && ((es.map PyData.int).take (es.length - 1) ++ [PyData.int (-1)]).all (okEntry (-1))) = true
  have hl : (((es.map PyData.int).take (es.length - 1) ++ [PyData.int (-1)]).length : Int) = n := by
    rw [List.length_append, List.length_take, List.length_map]
    simp only [List.length_cons, List.length_nil]
    omega
  rw [decide_eq_true hl, Bool.true_and, List.all_append, Bool.and_eq_true]
  refine ⟨?_, rfl⟩
  rw [List.all_eq_true]
  intro D hD
  obtain ⟨e, he, rfl⟩ := List.mem_map.mp (List.mem_of_mem_take hD)
  have := (h2 e he).1
  exact decide_eq_true (by omega)
theorem idx_some {x : Str} {ms : List PyData} {i : Nat} {m : PyData} (hm : ms[i]? = some m) (no : ∀ j m', j < i → ms[j]? = some m' → nameOf m' ≠ x) (e : nameOf m = x) : idxOf x ms 0 = some i := by
  have := idx_step ms i 0 _ hm no e
  rw [Nat.zero_add] at this
  exact this
theorem GoodBk.place {kn : List Str} {mv : List Mv} (h : GoodBk kn mv) {i : Nat} {m : Mv} (hm : mv[i]? = some m) : idxOf m.name (mv.map moveD) 0 = some i := by
  refine idx_some (m := moveD m) (by rw [List.getElem?_map, hm]; rfl) (fun j m' hj hm' e => ?_) rfl
  rw [List.getElem?_map, Option.map_eq_some_iff] at hm'
  obtain ⟨m2, hm2, rfl⟩ := hm'
  have e' : m2.name = m.name := e
  have a := (h.moves j m2 hm2).name
  rw [e'] at a
  have := a.inj (h.moves i m hm).name
  omega
theorem GoodBk.noKind {kn : List Str} {mv : List Mv} (h : GoodBk kn mv) {x : Str} (hx : kn[0]? = some x) : idxOf x (mv.map moveD) 0 = none := by
  refine idx_none _ _ fun m hm e => ?_
  obtain ⟨m2, hm2, rfl⟩ := List.mem_map.mp hm
  obtain ⟨j, hj, ej⟩ := List.getElem_of_mem hm2
  have e' : m2.name = x := e
  have a := (h.moves j m2 (by rw [List.getElem?_eq_getElem hj, ej])).name
  rw [e'] at a
  have := a.inj (h.kinds 0 x hx)
  omega
theorem GoodBk.noX {kn : List Str} {mv : List Mv} (h : GoodBk kn mv) : idxOf (Str.ofString "x") (mv.map moveD) 0 = none := by
  refine idx_none _ _ fun m hm e => ?_
  obtain ⟨m2, hm2, rfl⟩ := List.mem_map.mp hm
  obtain ⟨j, hj, ej⟩ := List.getElem_of_mem hm2
  have e' : m2.name = Str.ofString "x" := e
  have a := (h.moves j m2 (by rw [List.getElem?_eq_getElem hj, ej])).name.name (by have := h.eight; omega)
  rw [e'] at a
  exact absurd a (by decide +kernel)
theorem go_next {nx : L2.St → Hp → Prop} {rt : VK} {bk ct : L2.St → Hp → Prop} {σ : L2.St} {H : Hp} (h : nx σ H) : tNext (Ends.mk nx rt bk ct) σ H := h
theorem catA_of {K : PySem.W.Frag} {H : Hp} {Q : VK} {x y : V} {ds es : List PyData} (h1 : Dp K H x (.tuple ds)) (h2 : Dp K H y (.tuple es)) (hl : ds.length + es.length ≤ sizeLine) (q : ∀ H' v, ExtP H H' → Dp K H' v (.tuple (ds ++ es)) → Q v H') : rCatA K x y H Q := by
  obtain ⟨a, xs, rfl, sa, da⟩ := dp_tup_inv h1
  obtain ⟨b, ys, rfl, sb, db⟩ := dp_tup_inv h2
  have lx := dpAll_len da
  have ly := dpAll_len db
  refine ⟨a, b, xs, ys, rfl, rfl, sa, sb, by rw [lx, ly]; exact hl, fun z => ?_, fun _ z => ?_, fun _ _ p hp => ?_⟩
  · subst z
    have : ds = [] := List.eq_nil_of_length_eq_zero lx.symm
    subst this
    exact q H _ (Ext.refl true H) h2
  · subst z
    have : es = [] := List.eq_nil_of_length_eq_zero ly.symm
    subst this
    rw [List.append_nil] at q
    exact q H _ (Ext.refl true H) h1
  · exact q _ _ (Ext.new hp _) (.tup (SqT.of upd_same) ((Ext.new (dk := true) hp _).dps (dpAll_app da db)))
def badSteps (n : Nat) : List PyData := [.tuple [.str "do", .int n], .tuple [.str "do", .int (-1)], .tuple [.str "do", .bool true], .tuple [.str "rep", .int 0, .tuple [.tuple [.str "do", .int 0]]], .tuple [.str "rep", .int 2, .tuple []], .tuple [.str "rep", .int 2], .tuple [.str "go", .int 0], .tuple []]
def NoStep (n : Nat) (D : PyData) : Prop := stepOf n (fRunW n 29) D = false ∧ D.canLay0 = true ∧ D.depth ≤ 3
theorem badSteps_all (n : Nat) : AllB (NoStep n) (badSteps n) := by
  have l : ∀ x : Str, (PyData.str x).canLay0 = true → ∀ r, PyData.canLayAll0 r = true → (PyData.tuple (.str x :: r)).canLay0 = true := fun x hx r hr => by
    show ((PyData.str x).canLay0 && PyData.canLayAll0 r) = true
    rw [hx, hr]
    rfl
  have ed : PyData.eqv (.str "do") (.str "do") = true := by decide +kernel
  have er : PyData.eqv (.str "rep") (.str "rep") = true := by decide +kernel
  have en : PyData.eqv (.str "rep") (.str "do") = false := by decide +kernel
  have eg : PyData.eqv (.str "go") (.str "do") = false := by decide +kernel
  refine ⟨⟨?_, l _ (by decide +kernel) _ rfl, by simp [PyData.depth, PyData.depthAll]⟩, ⟨?_, by decide +kernel, by decide +kernel⟩, ⟨?_, by decide +kernel, by decide +kernel⟩, ⟨?_, by decide +kernel, by decide +kernel⟩, ⟨?_, by decide +kernel, by decide +kernel⟩, ⟨?_, by decide +kernel, by decide +kernel⟩, ⟨?_, by decide +kernel, by decide +kernel⟩, ⟨rfl, by decide +kernel, by decide +kernel⟩, trivial⟩
  · show (PyData.eqv (.str "do") (.str "do") && (true && (decide (0 ≤ (n : Int)) && decide ((n : Int) < n)))) = false
    rw [decide_eq_false (show ¬ (n : Int) < n by omega), Bool.and_false, Bool.and_false, Bool.and_false]
  · show (PyData.eqv (.str "do") (.str "do") && (true && (decide (0 ≤ (-1 : Int)) && decide ((-1 : Int) < n)))) = false
    rw [decide_eq_false (by decide), Bool.false_and, Bool.and_false, Bool.and_false]
  · rw [show stepOf n (fRunW n 29) (.tuple [.str "do", .bool true]) = (PyData.eqv (.str "do") (.str "do") && false) from rfl, Bool.and_false]
  · rw [show stepOf n (fRunW n 29) (.tuple [.str "rep", .int 0, .tuple [.tuple [.str "do", .int 0]]]) = ((PyData.eqv (.str "rep") (.str "rep") && false) && fRunW n 29 (.tuple [.tuple [.str "do", .int 0]])) from rfl, Bool.and_false, Bool.false_and]
  · show ((PyData.eqv (.str "rep") (.str "rep") && (true && (true && !PyData.eqv (.tuple []) (.tuple [])))) && fRunW n 29 (.tuple [])) = false
    rw [show PyData.eqv (.tuple []) (.tuple []) = true by decide +kernel]
    rw [Bool.not_true, Bool.and_false, Bool.and_false, Bool.and_false, Bool.false_and]
  · show (PyData.eqv (.str "rep") (.str "do") && (true && inRange n (.int 2))) = false
    rw [en, Bool.false_and]
  · show (PyData.eqv (.str "go") (.str "do") && (true && inRange n (.int 0))) = false
    rw [eg, Bool.false_and]
def lastD : PyData := .tuple [.tuple [.str "do", .int 0]]
theorem nest_ne (i : Nat) : PyData.eqv (nestD i lastD) (.tuple []) = false := by
  cases i with
  | zero => simp [nestD, lastD, PyData.eqv, PyData.eqvAll]
  | succ i => simp [nestD, PyData.eqv, PyData.eqvAll]
theorem nest_run (nm : Int) (M : Nat) : ∀ i, fRunW nm (M + i) (nestD i lastD) = fRunW nm M lastD
  | 0 => rfl
  | i + 1 => by
    have er : PyData.eqv (.str "rep") (.str "rep") = true := by decide +kernel
    show (((PyData.eqv (.str "rep") (.str "rep") && (true && (true && !PyData.eqv (nestD i lastD) (.tuple [])))) && fRunW nm (M + i) (nestD i lastD)) && true) = fRunW nm M lastD
    rw [er, nest_ne i, nest_run nm M i, Bool.and_true]
    rfl
theorem nest_29 {nm : Int} (h : 0 < nm) : fRunW nm 30 (nestD 29 lastD) = true := by
  rw [show (30 : Nat) = 1 + 29 from rfl, nest_run]
  show ((PyData.eqv (.str "do") (.str "do") && (true && (decide ((0 : Int) ≤ 0) && decide (0 < nm)))) && true) = true
  rw [show PyData.eqv (.str "do") (.str "do") = true by decide +kernel, decide_eq_true h]
  rfl
theorem nest_30 (nm : Int) : fRunW nm 30 (nestD 30 lastD) = false := by
  rw [show (30 : Nat) = 0 + 30 from rfl, nest_run]
  rfl
theorem lays_app : ∀ {a b : List PyData}, PyData.canLayAll0 a = true → PyData.canLayAll0 b = true → PyData.canLayAll0 (a ++ b) = true
  | [], _, _, h => h
  | x :: r, b, h1, h2 => by
    have h : (x.canLay0 && PyData.canLayAll0 r) = true := h1
    rw [Bool.and_eq_true] at h
    show (x.canLay0 && PyData.canLayAll0 (r ++ b)) = true
    rw [h.1, lays_app h.2 h2]
    rfl
theorem deeps_app {n : Nat} : ∀ {a b : List PyData}, PyData.depthAll a ≤ n → PyData.depthAll b ≤ n → PyData.depthAll (a ++ b) ≤ n
  | [], _, _, h => h
  | x :: r, b, h1, h2 => by
    have h : max x.depth (PyData.depthAll r) ≤ n := h1
    show max x.depth (PyData.depthAll (r ++ b)) ≤ n
    have := deeps_app (a := r) (b := b) (n := n) (by omega) h2
    omega
theorem run_more {nm : Int} {rs : List PyData} {D : PyData} (g : RunG nm 4 (.tuple rs)) (h1 : D.canLay0 = true) (h2 : D.depth ≤ 3) : SeqAt.shaped (.tuple (rs ++ [D])) = true := by
  have l : PyData.canLayAll0 rs = true := g.lay
  have d : PyData.depthAll rs + 1 ≤ 8 := g.deep
  unfold SeqAt.shaped
  rw [Bool.and_eq_true]
  constructor
  · show PyData.canLayAll0 (rs ++ [D]) = true
    refine lays_app l ?_
    show (D.canLay0 && true) = true
    rw [h1]
    rfl
  · have := deeps_app (a := rs) (b := [D]) (n := 8) (by omega) (by show max D.depth 0 ≤ 8; omega)
    refine decide_eq_true ?_
    show PyData.depthAll (rs ++ [D]) + 1 ≤ 64
    omega
theorem run_bad {nm : Int} {rs : List PyData} {D : PyData} (h : stepOf nm (fRunW nm 29) D = false) : fRunW nm 30 (.tuple (rs ++ [D])) = false := by
  show (rs ++ [D]).all (stepOf nm (fRunW nm 29)) = false
  rw [List.all_append, List.all_cons, h, Bool.false_and, Bool.and_false]
def NameDue (D : PyData) : Prop := ∃ nm b, D = .tuple [nm, .bool b] ∧ SmallStr nm ∧ fName nm = b
def duesD : List PyData := [.tuple [.str "kinds", .bool false], .tuple [.str "x", .bool false], .tuple [.str "", .bool false], .tuple [.str "a", .bool true], .tuple [.str "1a", .bool false], .tuple [.str "abcdefghijkl", .bool true], .tuple [.str "abcdefghijklm", .bool false], .tuple [.str "aB", .bool false], .tuple [.int 7, .bool false], .tuple [.str "x1", .bool true], .tuple [.none, .bool false]]
theorem dues_all : AllB NameDue duesD := by
  have lit : ∀ {x : Str} {b : Bool}, x.length ≤ 1000 → fNameS x = b → NameDue (.tuple [.str x, .bool b]) := fun h1 h2 => ⟨_, _, rfl, small_lit h1, h2⟩
  exact ⟨lit (by decide +kernel) (by decide +kernel), lit (by decide +kernel) (by decide +kernel), lit (by decide +kernel) (by decide +kernel), lit (by decide +kernel) (by decide +kernel), lit (by decide +kernel) (by decide +kernel), lit (by decide +kernel) (by decide +kernel), lit (by decide +kernel) (by decide +kernel), lit (by decide +kernel) (by decide +kernel), ⟨_, _, rfl, trivial, rfl⟩, lit (by decide +kernel) (by decide +kernel), ⟨_, _, rfl, trivial, rfl⟩, trivial⟩
section
variable {P : Program} {w : World} {K : PySem.W.Frag} {mg : Str → Option Value} {base : Heap} {f TN TE TR : Addr} {fd : FuncData} {Ps : List Addr}
theorem ok_law (F : Fun K "law" "law" sLaw f fd) (G : Glb mg) (hN : TN ∈ Ps) (hE : TE ∈ Ps) (hR : TR ∈ Ps)
    (DB : Def P w K mg base "is_book" 9 ["value"] (spBook K Ps)) (DN : Def P w K mg base "is_name" 2 ["value"] (spName K TN)) (DS : Def P w K mg base "is_stock" 4 ["book", "value"] (spStock K [TE] 0)) (DE : Def P w K mg base "is_extended" 4 ["book", "value"] (spStock K [TE] (-1)))
    (DR : Def P w K mg base "is_run" 94 ["book", "value"] (spRun K [TR])) (DI : Def P w K mg base "move_index" 1 ["book", "name"] (spIndex K)) (DD : Def P w K mg base "_law_draws" 3 ["script", "count"] (spDraws K)) (DT : Def P w K mg base "_law_take" 1 ["draws", "bound"] spTake)
    (DBL : Def P w K mg base "_law_book" 3 ["draws", "most"] (spBookL K)) (DSL : Def P w K mg base "_law_stock" 2 ["draws", "n", "most"] spStockL) (DBB : Def P w K mg base "_law_bad_book" 2 ["draws", "book"] (spBadL K)) (DRL : Def P w K mg base "_law_run" 5 ["draws", "moves", "depth", "times"] (spRunL K 4))
    (DNE : Def P w K mg base "_law_nested" 1 ["run", "depth"] (spNested K)) :
    FnOk P w K mg base CX0 95 f fd ["script"] (spLaw K Ps) := by
  refine F.ok scLaw (fun vs H Q E h => ?_) (fun cdv A outer s H vs Q E hr h => ?_)
  · obtain ⟨a, zs, rfl, _⟩ := h
    rfl
  obtain ⟨as, scr, rfl, hScr, h63, hT, q⟩ := h
  have nd := scLaw.nd
  refine ⟨_, (pss_cons (ps_set (i := 1) nd rfl (Or.inl rfl) (pe_c DD (hr.mono (by decide)) (pa_cons (pv 0) (pa_cons pe_int pa_nil))))
    (pss_cons (ps_set (i := 2) nd rfl (Or.inl rfl) (pe_c DBL (hr.mono (by decide)) (pa_cons (pv 1) (pa_cons pe_int pa_nil))))
    (pss_cons (ps_set (i := 3) nd rfl (Or.inl rfl) (pe_callB call_len rfl G.len PySem.boot_len (pa_cons (pe_ix ix_tup (pv 2) pe_int (fun _ _ => rfl)) pa_nil)))
    (pss_cons (ps_if (PW.pt (pw_or (pt_cmpR op_isnot_bl (pe_c DB (hr.mono (by decide)) (pa_cons (pv 2) pa_nil)) pe_bl (nomark _)) (pw_or1 (pt_cmpR op_isnot_bl (pe_c DB (hr.mono (by decide)) (pa_cons (pe_c DBB (hr.mono (by decide)) (pa_cons (pv 1) (pa_cons (pv 2) pa_nil))) pa_nil)) pe_bl (nomark _))))) (pss_one (ps_ret pe_bl)) pss_nil)
    (pss_cons (ps_for PassesOwn.never rfl (pi_list (pe_lst (pa_cons (pe_tup (pa_cons pe_str (pa_cons pe_bl pa_nil))) (pa_cons (pe_tup (pa_cons pe_str (pa_cons pe_bl pa_nil))) (pa_cons (pe_tup (pa_cons pe_str (pa_cons pe_bl pa_nil))) (pa_cons (pe_tup (pa_cons pe_str (pa_cons pe_bl pa_nil))) (pa_cons (pe_tup (pa_cons pe_str (pa_cons pe_bl pa_nil))) (pa_cons (pe_tup (pa_cons pe_str (pa_cons pe_bl pa_nil))) (pa_cons (pe_tup (pa_cons pe_str (pa_cons pe_bl pa_nil))) (pa_cons (pe_tup (pa_cons pe_str (pa_cons pe_bl pa_nil))) (pa_cons (pe_tup (pa_cons pe_int (pa_cons pe_bl pa_nil))) (pa_cons (pe_tup (pa_cons pe_str (pa_cons pe_bl pa_nil))) (pa_cons (pe_tup (pa_cons pe_non (pa_cons pe_bl pa_nil))) pa_nil))))))))))))) (pg_tup (n := 2) (by rfl) (pgs_cons (pg_name (i := 4) nd rfl (Or.inl rfl)) (pgs_cons (pg_name (i := 5) nd rfl (Or.inl rfl)) pgs_nil))) (pss_cons (ps_set (i := 6) nd rfl (Or.inl rfl) (pe_c DN (hr.mono (by decide)) (pa_cons (pv 4) pa_nil)))
    (pss_one (ps_if (PW.pt (pw_or (pt_not (pt_val (pe_isaBool G 6))) (pw_or1 (pt_cmpR op_ne (pv 6) (pv 5) (nomark _))))) (pss_one (ps_ret pe_bl)) pss_nil))))
    (pss_cons (ps_set (i := 7) nd rfl (Or.inl rfl) (pe_c DSL (hr.mono (by decide)) (pa_cons (pv 1) (pa_cons (pv 3) (pa_cons (pe_op op_pow pe_int pe_int) pa_nil)))))
    (pss_cons (ps_if (PW.pt (pw_or (pt_cmpR op_isnot_bl (pe_c DS (hr.mono (by decide)) (pa_cons (pv 2) (pa_cons (pv 7) pa_nil))) pe_bl (nomark _)) (pw_or1 (pt_cmpR op_isnot_bl (pe_c DE (hr.mono (by decide)) (pa_cons (pv 2) (pa_cons (pv 7) pa_nil))) pe_bl (nomark _))))) (pss_one (ps_ret pe_bl)) pss_nil)
    (pss_cons (ps_set (i := 8) nd rfl (Or.inl rfl) (pe_ix ix_list (pe_lst (pa_cons (pe_op op_catA (pv 7) (pe_tup (pa_cons pe_int pa_nil))) (pa_cons (pe_op op_catA (pe_slice sl_tupA (pv 7) po_none (po_some (pe_un un_neg pe_int))) (pe_tup (pa_cons (pe_un un_neg pe_int) pa_nil))) (pa_cons (pe_op op_catA (pe_slice sl_tupA (pv 7) po_none (po_some (pe_un un_neg pe_int))) (pe_tup (pa_cons pe_bl pa_nil))) (pa_cons (pe_slice sl_tupA (pv 7) po_none (po_some (pe_un un_neg pe_int))) (pa_cons pe_non pa_nil)))))) (pe_c DT (hr.mono (by decide)) (pa_cons (pv 1) (pa_cons pe_int pa_nil))) (fun _ _ => rfl)))
    (pss_cons (ps_set (i := 9) nd rfl (Or.inl rfl) (pe_op op_catA (pe_slice sl_tupA (pv 7) po_none (po_some (pe_un un_neg pe_int))) (pe_tup (pa_cons (pe_un un_neg pe_int) pa_nil))))
    (pss_cons (ps_if (PW.pt (pw_or (pt_cmpR op_isnot_bl (pe_c DS (hr.mono (by decide)) (pa_cons (pv 2) (pa_cons (pv 8) pa_nil))) pe_bl (nomark _)) (pw_or1 (pt_cmpR op_isnot_bl (pe_c DE (hr.mono (by decide)) (pa_cons (pv 2) (pa_cons (pv 8) pa_nil))) pe_bl (nomark _))))) (pss_one (ps_ret pe_bl)) pss_nil)
    (pss_cons (ps_if (PW.pt (pw_or (pt_cmpR op_isnot_bl (pe_c DS (hr.mono (by decide)) (pa_cons (pv 2) (pa_cons (pv 9) pa_nil))) pe_bl (nomark _)) (pw_or1 (pt_cmpR op_isnot_bl (pe_c DE (hr.mono (by decide)) (pa_cons (pv 2) (pa_cons (pv 9) pa_nil))) pe_bl (nomark _))))) (pss_one (ps_ret pe_bl)) pss_nil)
    (pss_cons (ps_for PassesOwn.never rfl (pi_range1 rfl G.range (pa_cons (pe_callB call_len rfl G.len PySem.boot_len (pa_cons (pe_ix ix_tup (pv 2) pe_int (fun _ _ => rfl)) pa_nil)) pa_nil)) (pg_name (i := 10) nd rfl (Or.inl rfl)) (pss_one (ps_if (pt_cmpR op_ne (pe_c DI (hr.mono (by decide)) (pa_cons (pv 2) (pa_cons (pe_ix ix_tup (pe_ix ix_tup (pe_ix ix_tup (pv 2) pe_int (fun _ _ => rfl)) (pv 10) (fun _ _ => rfl)) pe_int (fun _ _ => rfl)) pa_nil))) (pv 10) (nomark _)) (pss_one (ps_ret pe_bl)) pss_nil)))
    (pss_cons (ps_if (PW.pt (pw_or (pt_cmpR op_notN (pe_c DI (hr.mono (by decide)) (pa_cons (pv 2) (pa_cons (pe_ix ix_tup (pe_ix ix_tup (pv 2) pe_int (fun _ _ => rfl)) pe_int (fun _ _ => rfl)) pa_nil))) pe_non (nomark _)) (pw_or1 (pt_cmpR op_notN (pe_c DI (hr.mono (by decide)) (pa_cons (pv 2) (pa_cons pe_str pa_nil))) pe_non (nomark _))))) (pss_one (ps_ret pe_bl)) pss_nil)
    (pss_cons (ps_set (i := 11) nd rfl (Or.inl rfl) (pe_c DRL (hr.mono (by decide)) (pa_cons (pv 1) (pa_cons (pe_callB call_len rfl G.len PySem.boot_len (pa_cons (pe_ix ix_tup (pv 2) pe_int (fun _ _ => rfl)) pa_nil)) (pa_cons pe_int (pa_cons (pe_op op_pow pe_int pe_int) pa_nil))))))
    (pss_cons (ps_if (PW.pt (pw_or (pt_cmpR op_isnot_bl (pe_c DR (hr) (pa_cons (pv 2) (pa_cons (pv 11) pa_nil))) pe_bl (nomark _)) (pw_or1 (pt_cmpR op_isnot_bl (pe_c DR (hr) (pa_cons (pv 2) (pa_cons (pe_tup pa_nil) pa_nil))) pe_bl (nomark _))))) (pss_one (ps_ret pe_bl)) pss_nil)
    (pss_cons (ps_set (i := 12) nd rfl (Or.inl rfl) (pe_lst (pa_cons (pe_tup (pa_cons pe_str (pa_cons (pe_callB call_len rfl G.len PySem.boot_len (pa_cons (pe_ix ix_tup (pv 2) pe_int (fun _ _ => rfl)) pa_nil)) pa_nil))) (pa_cons (pe_tup (pa_cons pe_str (pa_cons (pe_un un_neg pe_int) pa_nil))) (pa_cons (pe_tup (pa_cons pe_str (pa_cons pe_bl pa_nil))) (pa_cons (pe_tup (pa_cons pe_str (pa_cons pe_int (pa_cons (pe_tup (pa_cons (pe_tup (pa_cons pe_str (pa_cons pe_int pa_nil))) pa_nil)) pa_nil)))) (pa_cons (pe_tup (pa_cons pe_str (pa_cons pe_int (pa_cons (pe_tup pa_nil) pa_nil)))) (pa_cons (pe_tup (pa_cons pe_str (pa_cons pe_int pa_nil))) (pa_cons (pe_tup (pa_cons pe_str (pa_cons pe_int pa_nil))) (pa_cons (pe_tup pa_nil) pa_nil))))))))))
    (pss_cons (ps_if (pt_cmpR op_isnot_bl (pe_c DR (hr) (pa_cons (pv 2) (pa_cons (pe_op op_catA (pv 11) (pe_tup (pa_cons (pe_ix ix_list (pv 12) (pe_c DT (hr.mono (by decide)) (pa_cons (pv 1) (pa_cons (pe_callB call_len rfl G.len PySem.boot_len (pa_cons (pv 12) pa_nil)) pa_nil))) (fun _ _ => rfl)) pa_nil))) pa_nil))) pe_bl (nomark _)) (pss_one (ps_ret pe_bl)) pss_nil)
    (pss_cons (ps_if (pt_cmpR op_eq (pe_callB call_len rfl G.len PySem.boot_len (pa_cons (pe_ix ix_tup (pv 2) pe_int (fun _ _ => rfl)) pa_nil)) pe_int (nomark _)) (pss_one (ps_ret pe_bl)) pss_nil)
    (pss_cons (ps_set (i := 13) nd rfl (Or.inl rfl) (pe_tup (pa_cons (pe_tup (pa_cons pe_str (pa_cons pe_int pa_nil))) pa_nil)))
    (pss_one (ps_ret (pe_and (pe_cmpR op_is_bl (pe_c DR (hr) (pa_cons (pv 2) (pa_cons (pe_c DNE (hr.mono (by decide)) (pa_cons (pv 13) (pa_cons pe_int pa_nil))) pa_nil))) pe_bl (nomark _)) (pe_one (pe_cmpR op_is_bl (pe_c DR (hr) (pa_cons (pv 2) (pa_cons (pe_c DNE (hr.mono (by decide)) (pa_cons (pv 13) (pa_cons pe_int pa_nil))) pa_nil))) pe_bl (nomark _))))))))))))))))))))))))), ?_⟩
  refine ⟨_, rfl, as, scr, 160, rfl, hScr, h63, by decide, by decide, fun H1 d p0 e1 hdn hpn hD1 => ?_⟩
  refine ⟨_, rfl, d, p0, 1000, rfl, hD1, by decide, by decide, fun H2 vb kn mv e2 hD2 hb gb => ?_⟩
  obtain ⟨a, a1, a2, x1, x2, rfl, hS, s1, d1, s2, d2⟩ := book_parts hb
  have lx1 : x1.length = kn.length := (dpAll_len d1).trans (List.length_map ..)
  have lx2 : x2.length = mv.length := (dpAll_len d2).trans (List.length_map ..)
  have eH2 : ExtL H H2 := e1.weak.trans e2
  have hT2 := eH2.tabs hT
  refine ⟨_, rfl, a, [.ref a1, .ref a2], 0, .ref a1, rfl, rfl, hS, atI_nat (xs := [V.ref a1, V.ref a2]) (j := 0) rfl, _, _, rfl, .inr ⟨x1, s1, rfl⟩, ?_⟩
  -- the book is one, the spoilt one is none
  refine ⟨_, rfl, [bkD kn mv], .cons hb .nil, rfl, gb.small, hT2, fun H3 e3 => ⟨_, _, rfl, rfl, _, rfl, ?_⟩⟩
  have tb : fBook (bkD kn mv) = true := gb.isBook
  refine ite2 (fun c => ?_) (fun _ => ?_)
  · have c' : (!decide (fBook (bkD kn mv) = true)) = true := c
    rw [tb] at c'
    exact absurd c' (by decide)
  refine ⟨_, rfl, _, rfl, d, p0, _, kn, mv, rfl, hD2.ext e3, e3.dp hb, gb, fun H4 vB DB e4 hD4 hdB bB => ?_⟩
  refine ⟨[DB], .cons hdB .nil, rfl, bB.small, e4.tabs (e3.tabs hT2), fun H5 e5 => ⟨_, _, rfl, rfl, _, rfl, ?_⟩⟩
  refine ite2 (fun c => ?_) (fun _ => ?_)
  · have c' : (!decide (fBook DB = false)) = true := c
    rw [bB.no] at c'
    exact absurd c' (by decide)
  have eP25 : ExtL H2 H5 := (e3.weak.trans e4).trans e5.weak
  have hD5 : Draw H5 d p0 := hD4.ext e5
  -- the names
  refine go_forL (K := K) (ds := duesD) (gvs_cons (gv_tup (gvs_cons gv_str (gvs_cons gv_bl gvs_nil)) (by show 2 ≤ 1000; decide)) (gvs_cons (gv_tup (gvs_cons gv_str (gvs_cons gv_bl gvs_nil)) (by show 2 ≤ 1000; decide)) (gvs_cons (gv_tup (gvs_cons gv_str (gvs_cons gv_bl gvs_nil)) (by show 2 ≤ 1000; decide)) (gvs_cons (gv_tup (gvs_cons gv_str (gvs_cons gv_bl gvs_nil)) (by show 2 ≤ 1000; decide)) (gvs_cons (gv_tup (gvs_cons gv_str (gvs_cons gv_bl gvs_nil)) (by show 2 ≤ 1000; decide)) (gvs_cons (gv_tup (gvs_cons gv_str (gvs_cons gv_bl gvs_nil)) (by show 2 ≤ 1000; decide)) (gvs_cons (gv_tup (gvs_cons gv_str (gvs_cons gv_bl gvs_nil)) (by show 2 ≤ 1000; decide)) (gvs_cons (gv_tup (gvs_cons gv_str (gvs_cons gv_bl gvs_nil)) (by show 2 ≤ 1000; decide)) (gvs_cons (gv_tup (gvs_cons gv_int (gvs_cons gv_bl gvs_nil)) (by show 2 ≤ 1000; decide)) (gvs_cons (gv_tup (gvs_cons gv_str (gvs_cons gv_bl gvs_nil)) (by show 2 ≤ 1000; decide)) (gvs_cons (gv_tup (gvs_cons gv_non (gvs_cons gv_bl gvs_nil)) (by show 2 ≤ 1000; decide)) gvs_nil))))))))))) (by decide) fun H6 vs p e6 hvs hp => ?_
  have e6p : ExtP H5 (upd H6 p (.lst vs)) := e6.trans (Ext.new hp _)
  refine for_list (xs := vs) (fun i σ H' => ∃ (o4 o5 o6 : Option V), σ = [some (.ref as), some (.ref d), some (.ref a), some (.int (x1.length : Nat)), o4, o5, o6, none, none, none, none, none, none, none] ∧ ExtP H5 H' ∧ ExtP (upd H6 p (.lst vs)) H') ⟨none, none, none, rfl, e6p, Ext.refl true _⟩
    (fun i σ H' _ ⟨_, _, _, _, _, e⟩ => e.sqL (SqL.of upd_same)) (fun i x σ H' hx ⟨o4, o5, o6, eσ, e7, e8⟩ => ?_) fun σ H' ⟨o4, o5, o6, eσ, e7, e8⟩ => ?_
  · subst eσ
    obtain ⟨D, hD', hd⟩ := dpAll_get hvs hx
    obtain ⟨nm, b, rfl, hsm, hfn⟩ := allB_mem dues_all (List.mem_of_getElem? hD')
    have hd8 := e8.dp ((Ext.new (dk := true) hp (.lst vs)).dp hd)
    obtain ⟨at_, xs, rfl, hSt, hDt⟩ := dp_tup_inv hd8
    obtain ⟨v1, v2, b1, b2, rfl, eb, hn1, hn2⟩ := dp_two hDt ((dpAll_len hDt).trans rfl)
    cases eb
    cases hn2
    refine ⟨at_, [v1, .bl b], rfl, hSt, rfl, _, _, rfl, _, _, rfl, rfl, ?_⟩
    refine ⟨_, rfl, [nm], .cons hn1 .nil, rfl, hsm, (fun P hP => ?_), fun H7 e9 => ?_⟩
    · rw [List.mem_singleton.mp hP]
      exact e7.tabs (eP25.tabs hT2) TN hN
    have tn : fName nm = b := hfn
    refine ⟨_, rfl, .bool _, .bl _, _, rfl, ?_⟩
    refine ite2 (fun c => absurd (show (!true) = true from c) (by decide)) (fun _ => ?_)
    refine ⟨_, rfl, _, rfl, rfl, _, rfl, ?_⟩
    refine ite2 (fun c => ?_) (fun _ => ?_)
    · have c' : (!decide (V.bl (fName nm) = V.bl b)) = true := c
      rw [tn, decide_eq_true rfl] at c'
      exact absurd c' (by decide)
    exact ⟨_, _, _, rfl, e7.trans e9, e8.trans e9⟩
  · subst eσ
    have hn1 : kn.length ≤ 1000 := Nat.le_trans gb.six (by decide)
    have lk : ((kn.map PyData.str).length : Int) = (x1.length : Int) := by rw [List.length_map, lx1]
    have e27 : ExtL H2 H' := eP25.trans e7.weak
    have hD7 := hD5.ext e7
    refine ⟨_, rfl, _, rfl, 10, 6, rfl, rfl, ⟨by decide, by decide, by decide⟩, d, p0, x1.length, _, rfl, hD7, by omega, by decide, fun H8 ps es e8' hD8 hpsn hps hes1 hes2 => ?_⟩
    have e28 : ExtL H2 H8 := e27.trans e8'
    have hst8 : Dp K H8 (.ref ps) (.tuple (es.map PyData.int)) := .tup (SqT.of hps) (dp_ints es)
    have tE : ∀ {Hx : Hp} {dk : Bool}, Ext dk H2 Hx → Tabs [TE] Hx := fun e P hP => by
      rw [List.mem_singleton.mp hP]
      exact e.tabs hT2 TE hE
    have tR : ∀ {Hx : Hp} {dk : Bool}, Ext dk H2 Hx → Tabs [TR] Hx := fun e P hP => by
      rw [List.mem_singleton.mp hP]
      exact e.tabs hT2 TR hR
    have tS : ∀ lo : Int, lo ≤ 0 → fEntries (.tuple (es.map PyData.int)) (kn.map PyData.str).length lo = true := fun lo hlo => by
      show (decide (((es.map PyData.int).length : Int) = (kn.map PyData.str).length) && (es.map PyData.int).all (okEntry lo)) = true
      rw [lk, List.length_map, hes1, decide_eq_true rfl, Bool.true_and, List.all_eq_true]
      intro D hD
      obtain ⟨e, he, rfl⟩ := List.mem_map.mp hD
      exact decide_eq_true (Int.le_trans hlo (hes2 e he).1)
    refine ⟨_, rfl, _, rfl, .ref a, .ref ps, _, _, _, rfl, e28.dp hb, hst8, tE e28, fun H9 e9 => ⟨_, _, rfl, rfl, _, rfl, ?_⟩⟩
    refine ite2 (fun c => ?_) (fun _ => ?_)
    · have c' : (!decide (fEntries (.tuple (es.map PyData.int)) (kn.map PyData.str).length 0 = true)) = true := c
      rw [tS 0 (by decide)] at c'
      exact absurd c' (by decide)
    have e29 : ExtL H2 H9 := e28.trans e9.weak
    refine ⟨_, rfl, _, rfl, .ref a, .ref ps, _, _, _, rfl, e29.dp hb, e9.dp hst8, tE e29, fun H10 e10 => ⟨_, _, rfl, rfl, _, rfl, ?_⟩⟩
    refine ite2 (fun c => ?_) (fun _ => ?_)
    · have c' : (!decide (fEntries (.tuple (es.map PyData.int)) (kn.map PyData.str).length (-1) = true)) = true := c
      rw [tS (-1) (by decide)] at c'
      exact absurd c' (by decide)
    have e2A : ExtL H2 H10 := e29.trans e10.weak
    have hSt : Dp K H10 (.ref ps) (.tuple (es.map PyData.int)) := (e9.trans e10).dp hst8
    have hD10 := hD8.ext (e9.trans e10)
    have les : (es.map PyData.int).length ≤ 6 := by rw [List.length_map, hes1, lx1]; exact gb.six
    have c1 := cutD_len (es.map PyData.int) none (some (-1))
    have ci : cutD (es.map PyData.int) none (some (-1)) = (es.map PyData.int).take (es.length - 1) := by rw [cutD_init, List.length_map]
    refine go_pick (K := K) (ds := [.tuple (es.map PyData.int ++ [PyData.int 0]), .tuple (cutD (es.map PyData.int) none (some (-1)) ++ [PyData.int (-2)]), .tuple (cutD (es.map PyData.int) none (some (-1)) ++ [PyData.bool true]), .tuple (cutD (es.map PyData.int) none (some (-1))), .none]) (gvs_cons (gv_cat (gv_var rfl hSt) (gv_tup (gvs_cons gv_int gvs_nil) (by show 1 ≤ 1000; decide)) (by (first | omega | (simp only [List.length_append, List.length_cons, List.length_nil, List.length_flatten, List.map_replicate, List.sum_replicate_nat]; omega)))) (gvs_cons (gv_cat (gv_cut (gv_var rfl hSt) go_none go_neg) (gv_tup (gvs_cons gv_neg gvs_nil) (by show 1 ≤ 1000; decide)) (by (first | omega | (simp only [List.length_append, List.length_cons, List.length_nil, List.length_flatten, List.map_replicate, List.sum_replicate_nat]; omega)))) (gvs_cons (gv_cat (gv_cut (gv_var rfl hSt) go_none go_neg) (gv_tup (gvs_cons gv_bl gvs_nil) (by show 1 ≤ 1000; decide)) (by (first | omega | (simp only [List.length_append, List.length_cons, List.length_nil, List.length_flatten, List.map_replicate, List.sum_replicate_nat]; omega)))) (gvs_cons (gv_cut (gv_var rfl hSt) go_none go_neg) (gvs_cons gv_non gvs_nil))))) (by show 5 ≤ 1000; decide) fun H11 vw pw e11 hvw hpw => ?_
    have e11b : ExtP H10 (upd H11 pw (.lst vw)) := e11.trans (Ext.new hpw _)
    refine ⟨_, rfl, d, p0, 5, rfl, hD10.ext e11b, by decide, fun H12 iw e12 hD12 hw0 hw1 => ?_⟩
    have lvw : vw.length = 5 := (dpAll_len hvw).trans rfl
    obtain ⟨xw, hxw, hmw⟩ := atI_mem (xs := vw) hw0 (by rw [lvw]; exact hw1)
    obtain ⟨jw, hjw, ejw⟩ := List.getElem_of_mem hmw
    obtain ⟨DW, hDW, hdw⟩ := dpAll_get hvw (List.getElem?_eq_some_iff.mpr ⟨hjw, ejw⟩)
    refine ⟨pw, vw, iw, xw, rfl, rfl, SqL.of (e12.obj _ _ rfl upd_same), hxw, ?_⟩
    have wAll := wrong_all (es := es) (n := x1.length) hes1 (by rw [lx1]; exact gb.one)
    obtain ⟨w0, w1⟩ := allB_mem wAll (List.mem_of_getElem? hDW)
    have e2C : ExtL H2 H12 := (e2A.trans e11b.weak).trans e12
    have hSt12 := e12.dp (e11b.dp hSt)
    have hdw12 := e12.dp ((Ext.new (dk := true) hpw (.lst vw)).dp hdw)
    -- endless
    refine go_set ((gv_cat (K := K) (gv_cut (gv_var rfl hSt12) go_none go_neg) (gv_tup (gvs_cons gv_neg gvs_nil) (by decide)) (by (first | omega | (simp only [List.length_append, List.length_cons, List.length_nil, List.length_flatten, List.map_replicate, List.sum_replicate_nat]; omega)))) H12 _ (Ext.refl true H12) fun H13 ve e13 hde => ?_)
    have e2D : ExtL H2 H13 := e2C.trans e13.weak
    have w0' : fEntries DW (kn.map PyData.str).length 0 = false := by rw [lk]; exact w0
    have w1' : fEntries DW (kn.map PyData.str).length (-1) = false := by rw [lk]; exact w1
    refine ⟨_, rfl, _, rfl, .ref a, xw, DW, _, _, rfl, e2D.dp hb, e13.dp hdw12, tE e2D, fun H14 e14 => ⟨_, _, rfl, rfl, _, rfl, ?_⟩⟩
    refine ite2 (fun c => ?_) (fun _ => ?_)
    · have c' : (!decide (fEntries DW (kn.map PyData.str).length 0 = false)) = true := c
      rw [w0'] at c'
      exact absurd c' (by decide)
    have e2E : ExtL H2 H14 := e2D.trans e14.weak
    refine ⟨_, rfl, _, rfl, .ref a, xw, DW, _, _, rfl, e2E.dp hb, (e13.trans e14).dp hdw12, tE e2E, fun H15 e15 => ⟨_, _, rfl, rfl, _, rfl, ?_⟩⟩
    refine ite2 (fun c => ?_) (fun _ => ?_)
    · have c' : (!decide (fEntries DW (kn.map PyData.str).length (-1) = false)) = true := c
      rw [w1'] at c'
      exact absurd c' (by decide)
    have e2F : ExtL H2 H15 := e2E.trans e15.weak
    have hde15 := (e14.trans e15).dp hde
    obtain ⟨n0, n1⟩ := endless_is (es := es) (n := x1.length) hes1 (by rw [lx1]; exact gb.one) hes2
    have n0' : fEntries (.tuple (cutD (es.map PyData.int) none (some (-1)) ++ [PyData.int (-1)])) (kn.map PyData.str).length 0 = false := by rw [lk]; exact n0
    have n1' : fEntries (.tuple (cutD (es.map PyData.int) none (some (-1)) ++ [PyData.int (-1)])) (kn.map PyData.str).length (-1) = true := by rw [lk]; exact n1
    refine ⟨_, rfl, _, rfl, .ref a, ve, _, _, _, rfl, e2F.dp hb, hde15, tE e2F, fun H16 e16 => ⟨_, _, rfl, rfl, _, rfl, ?_⟩⟩
    refine ite2 (fun c => ?_) (fun _ => ?_)
    · have c' : (!decide (fEntries (.tuple (cutD (es.map PyData.int) none (some (-1)) ++ [PyData.int (-1)])) (kn.map PyData.str).length 0 = false)) = true := c
      rw [n0'] at c'
      exact absurd c' (by decide)
    have e2G : ExtL H2 H16 := e2F.trans e16.weak
    refine ⟨_, rfl, _, rfl, .ref a, ve, _, _, _, rfl, e2G.dp hb, e16.dp hde15, tE e2G, fun H17 e17 => ⟨_, _, rfl, rfl, _, rfl, ?_⟩⟩
    refine ite2 (fun c => ?_) (fun _ => ?_)
    · have c' : (!decide (fEntries (.tuple (cutD (es.map PyData.int) none (some (-1)) ++ [PyData.int (-1)])) (kn.map PyData.str).length (-1) = true)) = true := c
      rw [n1'] at c'
      exact absurd c' (by decide)
    have e2H : ExtL H2 H17 := e2G.trans e17.weak
    have hD17 : Draw H17 d p0 := hD12.ext ((((e13.trans e14).trans e15).trans e16).trans e17)
    -- the moves' places
    have at0 : atI [V.ref a1, V.ref a2] 0 = some (.ref a1) := atI_nat (xs := [V.ref a1, V.ref a2]) (j := 0) rfl
    have at1 : atI [V.ref a1, V.ref a2] 1 = some (.ref a2) := atI_nat (xs := [V.ref a1, V.ref a2]) (j := 1) rfl
    have hms : ∀ m ∈ mv.map moveD, ∃ n r, m = .tuple (.str n :: r) := fun m hm => by
      obtain ⟨x, _, rfl⟩ := List.mem_map.mp hm
      exact ⟨_, _, rfl⟩
    have lml : (mv.map moveD).length ≤ 1000 := by rw [List.length_map]; exact Nat.le_trans gb.eight (by decide)
    have l8 := gb.eight
    have l6 := gb.six
    have l1 := gb.one
    refine ⟨_, rfl, a, _, 1, _, rfl, rfl, e2H.sqT hS, at1, _, _, rfl, .inr ⟨x2, e2H.sqT s2, rfl⟩, (x2.length : Int), rfl, by omega, by omega, ?_⟩
    rw [Int.toNat_natCast]
    refine for_range (lo := 0) (n := x2.length) (fun i σ H' => ∃ (o4 o5 o6 o10 : Option V), σ = [some (.ref as), some (.ref d), some (.ref a), some (.int (x1.length : Nat)), o4, o5, o6, some (.ref ps), some xw, some ve, o10, none, none, none] ∧ ExtP H17 H')
      ⟨_, _, _, _, rfl, Ext.refl true H17⟩ (fun i σ H' hi ⟨o4, o5, o6, o10, eσ, e18⟩ => ?_) fun σ H' ⟨o4, o5, o6, o10, eσ, e18⟩ => ?_
    · subst eσ
      have e2I : ExtL H2 H' := e2H.trans e18.weak
      have hi2 : i < mv.length := by rw [← lx2]; exact hi
      obtain ⟨m, hm⟩ : ∃ m, mv[i]? = some m := ⟨_, List.getElem?_eq_getElem hi2⟩
      obtain ⟨v, hv, hdv⟩ := dpAll_at d2 (i := i) (d := moveD m) (by rw [List.getElem?_map, hm]; rfl)
      obtain ⟨am, xm, rfl, sm, dm⟩ := dp_tup_inv (e2I.dp hdv)
      obtain ⟨y1, y2, y3, y4, q1, q2, q3, q4, rfl, eq, h1, _⟩ := dp_four dm ((dpAll_len dm).trans rfl)
      cases eq
      cases h1
      have ati : atI x2 (0 + (i : Int)) = some (.ref am) := by
        rw [Int.zero_add]
        exact atI_nat hv
      refine ⟨_, rfl, _, rfl, a, _, 1, _, rfl, rfl, e2I.sqT hS, at1, _, rfl, a2, x2, 0 + (i : Int), _, rfl, rfl, e2I.sqT s2, ati, am, _, 0, .str m.name, rfl, rfl, sm, atI_nat (j := 0) rfl, ?_⟩
      refine ⟨.ref a, m.name, _, _, rfl, e2I.dp hb, hms, lml, fun H18 e19 => ⟨_, rfl, ?_⟩⟩
      have ix : idxOf m.name (mv.map moveD) 0 = some i := gb.place hm
      rw [ix]
      refine ⟨rfl, _, rfl, ?_⟩
      refine ite2 (fun c => ?_) (fun _ => ?_)
      · have c' : (!decide (V.int (i : Int) = V.int (0 + (i : Int)))) = true := c
        rw [Int.zero_add, decide_eq_true rfl] at c'
        exact absurd c' (by decide)
      exact ⟨_, _, _, _, rfl, e18.trans e19⟩
    · subst eσ
      have e2I : ExtL H2 H' := e2H.trans e18.weak
      obtain ⟨k0, kr, hkn⟩ : ∃ k0 kr, kn = k0 :: kr := by
        cases kn with
        | nil => exact absurd l1 (by decide)
        | cons a b => exact ⟨a, b, rfl⟩
      have hk0 : kn[0]? = some k0 := by rw [hkn]; rfl
      obtain ⟨vk, hvk, hdk⟩ := dpAll_at d1 (i := 0) (d := .str k0) (by rw [List.getElem?_map, hk0]; rfl)
      cases hdk
      have atk : atI x1 0 = some (.str k0) := atI_nat (j := 0) hvk
      refine ⟨_, rfl, _, rfl, a, _, 0, _, rfl, rfl, e2I.sqT hS, at0, a1, x1, 0, _, rfl, rfl, e2I.sqT s1, atk, ?_⟩
      refine ⟨.ref a, k0, _, _, rfl, e2I.dp hb, hms, lml, fun H18 e19 => ⟨rfl, _, rfl, ?_⟩⟩
      rw [gb.noKind hk0]
      refine ite2 (fun c => absurd (show (!decide (V.non = V.non)) = true from c) (by decide)) (fun _ => ?_)
      have e2J : ExtL H2 H18 := e2I.trans e19.weak
      refine ⟨_, rfl, .ref a, Str.ofString "x", _, _, rfl, e2J.dp hb, hms, lml, fun H19 e20 => ⟨rfl, _, rfl, ?_⟩⟩
      rw [gb.noX]
      refine ite2 (fun c => absurd (show (!decide (V.non = V.non)) = true from c) (by decide)) (fun _ => ?_)
      have e2K : ExtL H2 H19 := e2J.trans e20.weak
      have hD19 : Draw H19 d p0 := hD17.ext ((e18.trans e19).trans e20)
      -- a run
      refine ⟨_, rfl, _, rfl, a, _, 1, _, rfl, rfl, e2K.sqT hS, at1, _, _, rfl, .inr ⟨x2, e2K.sqT s2, rfl⟩, 10, 12, rfl, rfl, ⟨by decide, by decide, by decide⟩, d, p0, x2.length, 3, _, rfl, by decide, by decide, hD19, by decide, fun H20 vr rs e21 hD20 hrn gR lrs => ?_⟩
      have e2L : ExtL H2 H20 := e2K.trans e21
      have lm : ((mv.map moveD).length : Int) = (x2.length : Int) := by rw [List.length_map, lx2]
      have tR1 : fRunW (mv.map moveD).length 30 (.tuple rs) = true := by rw [lm]; exact gR.ok 30 (by decide)
      refine ⟨_, rfl, _, rfl, .ref a, vr, _, _, _, rfl, e2L.dp hb, hrn, gR.shaped (by decide), tR e2L, fun H21 e22 => ⟨_, _, rfl, rfl, _, rfl, ?_⟩⟩
      refine ite2 (fun c => ?_) (fun _ => ?_)
      · have c' : (!decide (fRunW (mv.map moveD).length 30 (.tuple rs) = true)) = true := c
        rw [tR1] at c'
        exact absurd c' (by decide)
      have e2M : ExtL H2 H21 := e2L.trans e22.weak
      refine ⟨_, rfl, Nat.zero_le _, fun t0 ht0 => ?_⟩
      have e23 : ExtP H21 (upd H21 t0 (.tup [])) := Ext.new ht0 _
      have e2N : ExtL H2 (upd H21 t0 (.tup [])) := e2M.trans e23.weak
      refine ⟨.ref a, .ref t0, .tuple [], _, _, rfl, e2N.dp hb, .tup (SqT.of upd_same) .nil, by decide +kernel, tR e2N, fun H22 e24 => ⟨_, _, rfl, rfl, _, rfl, ?_⟩⟩
      refine ite2 (fun c => absurd (show (!decide (true = true)) = true from c) (by decide)) (fun _ => ?_)
      have e2O : ExtL H2 H22 := e2N.trans e24.weak
      have hrn22 := ((e22.trans e23).trans e24).dp hrn
      have hD22 : Draw H22 d p0 := hD20.ext ((e22.trans e23).trans e24)
      -- the spoilt runs
      refine go_next ?_
      refine go_lst (K := K) (ds := badSteps x2.length) (gvs_cons (gv_tup (gvs_cons gv_str (gvs_cons (?_) gvs_nil)) (by show 2 ≤ 1000; decide)) (gvs_cons (gv_tup (gvs_cons gv_str (gvs_cons gv_neg gvs_nil)) (by show 2 ≤ 1000; decide)) (gvs_cons (gv_tup (gvs_cons gv_str (gvs_cons gv_bl gvs_nil)) (by show 2 ≤ 1000; decide)) (gvs_cons (gv_tup (gvs_cons gv_str (gvs_cons gv_int (gvs_cons (gv_tup (gvs_cons (gv_tup (gvs_cons gv_str (gvs_cons gv_int gvs_nil)) (by show 2 ≤ 1000; decide)) gvs_nil) (by show 1 ≤ 1000; decide)) gvs_nil))) (by show 3 ≤ 1000; decide)) (gvs_cons (gv_tup (gvs_cons gv_str (gvs_cons gv_int (gvs_cons (gv_tup gvs_nil (by show 0 ≤ 1000; decide)) gvs_nil))) (by show 3 ≤ 1000; decide)) (gvs_cons (gv_tup (gvs_cons gv_str (gvs_cons gv_int gvs_nil)) (by show 2 ≤ 1000; decide)) (gvs_cons (gv_tup (gvs_cons gv_str (gvs_cons gv_int gvs_nil)) (by show 2 ≤ 1000; decide)) (gvs_cons (gv_tup gvs_nil (by show 0 ≤ 1000; decide)) gvs_nil)))))))) (by show 8 ≤ 1000; decide) fun H23 vs' pb e25 hvs' hpb => ?_
      · intro HA QA eA qA
        exact ⟨_, rfl, a, _, 1, _, rfl, rfl, (e2O.trans eA.weak).sqT hS, at1, _, _, rfl, .inr ⟨x2, (e2O.trans eA.weak).sqT s2, rfl⟩, qA _ _ (Ext.refl true HA) (.int _)⟩
      have e25b : ExtP H22 (upd H23 pb (.lst vs')) := e25.trans (Ext.new hpb _)
      have lvs' : vs'.length = 8 := (dpAll_len hvs').trans rfl
      refine ⟨_, rfl, _, rfl, _, rfl, _, rfl, _, rfl, _, _, rfl, .inl ⟨vs', SqL.of upd_same, rfl⟩, d, p0, (vs'.length : Int), rfl, hD22.ext e25b, by omega, fun H24 ib e26 hD24 hb0 hb1 => ?_⟩
      obtain ⟨xb, hxb, hmb⟩ := atI_mem (xs := vs') hb0 hb1
      obtain ⟨jb, hjb, ejb⟩ := List.getElem_of_mem hmb
      obtain ⟨DS_, hDS, hds⟩ := dpAll_get hvs' (List.getElem?_eq_some_iff.mpr ⟨hjb, ejb⟩)
      have e2P : ExtL H2 H24 := (e2O.trans e25b.weak).trans e26
      have hds24 := e26.dp ((Ext.new (dk := true) hpb (.lst vs')).dp hds)
      have hrn24 := e26.dp (e25b.dp hrn22)
      obtain ⟨noS, layS, deepS⟩ := allB_mem (badSteps_all x2.length) (List.mem_of_getElem? hDS)
      refine ⟨pb, vs', ib, xb, rfl, rfl, SqL.of (e26.obj _ _ rfl upd_same), hxb, (by show 1 ≤ sizeLine; decide), fun pt hpt => ?_⟩
      have e27 : ExtP H24 (upd H24 pt (.tup [xb])) := Ext.new hpt _
      have hlr : rs.length + 1 ≤ sizeLine := by rw [sizeLine_eq]; omega
      refine catA_of (K := K) (e27.dp hrn24) (.tup (SqT.of upd_same) (.cons (e27.dp hds24) .nil)) (by simp; exact hlr) fun H25 vc e28 hvc => ?_
      have e2Q : ExtL H2 H25 := (e2P.trans e27.weak).trans e28.weak
      refine ⟨.ref a, vc, _, _, _, rfl, e2Q.dp hb, hvc, run_more gR layS deepS, tR e2Q, fun H26 e29 => ⟨_, _, rfl, rfl, _, rfl, ?_⟩⟩
      refine ite2 (fun c => ?_) (fun _ => ?_)
      · have c' : (!decide (fRunW (mv.map moveD).length 30 (.tuple (rs ++ [DS_])) = false)) = true := c
        rw [lm, run_bad noS] at c'
        exact absurd c' (by decide)
      have e2R : ExtL H2 H26 := e2Q.trans e29.weak
      refine ⟨_, rfl, a, _, 1, _, rfl, rfl, e2R.sqT hS, at1, _, _, rfl, .inr ⟨x2, e2R.sqT s2, rfl⟩, rfl, _, rfl, ?_⟩
      refine ite2 (fun _ => q _ (eH2.trans e2R)) (fun c => ?_)
      have hne : (0 : Int) < (x2.length : Int) := by
        rcases Nat.eq_zero_or_pos x2.length with z | z
        · exact absurd (show (decide (V.int (x2.length : Int) = V.int 0)) = true by rw [z]; rfl) c
        · omega
      -- thirty levels, and one more
      refine go_next ?_
      refine go_set ((gv_tup (K := K) (gvs_cons (gv_tup (gvs_cons gv_str (gvs_cons gv_int gvs_nil)) (by decide)) gvs_nil) (by decide)) H26 _ (Ext.refl true H26) fun H27 vl e30 hvl => ?_)
      have hvl' : Dp K H27 vl lastD := hvl
      have e2S : ExtL H2 H27 := e2R.trans e30.weak
      refine ⟨_, rfl, _, rfl, vl, 29, lastD, rfl, by decide, hvl', fun H28 vn e31 hvn => ?_⟩
      have e2T : ExtL H2 H28 := e2S.trans e31.weak
      refine ⟨.ref a, vn, _, _, _, rfl, e2T.dp hb, hvn, by decide +kernel, tR e2T, fun H29 e32 => ⟨_, _, rfl, rfl, _, rfl, ?_⟩⟩
      have e2U : ExtL H2 H29 := e2T.trans e32.weak
      refine ite2 (fun _ => ?_) (fun c => ?_)
      · refine ⟨_, rfl, _, rfl, vl, 30, lastD, rfl, by decide, (e31.trans e32).dp hvl', fun H30 vn' e33 hvn' => ?_⟩
        have e2V : ExtL H2 H30 := e2U.trans e33.weak
        refine ⟨.ref a, vn', _, _, _, rfl, e2V.dp hb, hvn', by decide +kernel, tR e2V, fun H31 e34 => ⟨_, _, rfl, rfl, ?_⟩⟩
        rw [nest_30]
        exact q _ (eH2.trans (e2V.trans e34.weak))
      · have c' : ¬ (decide (fRunW (mv.map moveD).length 30 (nestD 29 lastD) = true)) = true := c
        rw [lm, nest_29 hne] at c'
        exact absurd rfl c'
end
end Mint


namespace Mint
open PySem PySem.Spec PyProof.Rows L2 GxR Gx RZ

/-! ### all of it together -/
/-- the def's code object and its table, as the program's top has left them -/
def TabOf (K : PySem.W.Frag) (fa : Addr) (h : Heap) : Prop :=
  ∀ (o : Obj) (fd : FuncData) (c P : Addr) (e : Value) (dd : Option Addr) (vs : Array Value) (sl : Array (Option Value)), K.lookup fa = some o ∧ o.data = .func fd ∧ fd.code = .ref c ∧ K.lookup c = some ⟨e, dd, .fields vs, sl⟩ ∧ vs[11]? = some (.ref P) →
    h.get? P = some { cls := .none, data := .fields #[] } ∧ PySem.W.CodeHd h c P
theorem tabOf_of {K : PySem.W.Frag} {fa a' c' P' : Addr} {o' : Obj} {fd' : FuncData} {h : Heap} {mg : Str → Option Value} {x : Str} (KX : K.In h) (hmg : mg x = some (.ref fa)) (g1 : mg x = some (.ref a')) (g2 : h.get? a' = some o') (g3 : o'.data = .func fd') (g4 : fd'.code = .ref c') (g5 : h.IsCode c' P' #[]) (g6 : h.TableAt c' P' #[]) : TabOf K fa h := by
  intro o fd c P e dd vs sl q
  obtain ⟨q1, q2, q3, q4, q5⟩ := q
  have e1 := KX _ _ q1
  have e2 := KX _ _ q4
  cases g1.symm.trans hmg
  cases g2.symm.trans e1
  cases g3.symm.trans q2
  cases g4.symm.trans q3
  have hd := PySem.W.CodeHd.of g5 g6
  obtain ⟨⟨oc, vc, u1, _, u3, u4⟩, hP⟩ := g6
  cases u1.symm.trans e2
  cases u3
  cases u4.symm.trans q5
  exact ⟨hP, hd⟩
theorem walkM {l : PySem.W.OpenLaw} {n k : Nat} {q : Program} {loose : List Str} {XP : (Str → Option Value) → Heap → Prop} {YP : World → Heap → Prop} {d : DefRec} {K : Params → PySem.W.Frag} (names : List Str)
    (hn : l.most = some n) (hs : n ≤ sizeLine) (hdf : d.params.defaults = []) (hr : Room k callerA) (hnames : ∀ x ∈ names, ((recsOf q).any fun e => e.name == x) = true) (hY : ∀ (w : World) (h : Heap), YP w h → (K w.params).In h)
    (F : ∀ (w : World) (mg : Str → Option Value) (fa : Addr) (h : Heap), (K w.params).In h → h.Ns mainGlobals mg → mg d.name = some (.ref fa) → (∀ x ∈ names, ∀ fb, mg x = some (.ref fb) → TabOf (K w.params) fb h) → LamX.LawAtS l w (K w.params) CX0 k n "script" mg fa h) :
    PySem.W.WalkO q loose XP YP l.row.toRowW d [] (fun f vs => PySem.call f vs) := by
  refine Att.attach_callB hn hdf ?_
  intro w s0 s1 mg mb fa o pm cd doc a vs ns G Y _ _ _ hmg hobj hints hlen hbits hg
  have KX := hY w _ Y
  have own : ∀ x ∈ names, ∀ fb, mg x = some (.ref fb) → TabOf (K w.params) fb s1.heap := fun x hx fb hfb => by
    obtain ⟨dL, hm, hd⟩ := List.any_eq_true.mp (hnames x hx)
    obtain ⟨a', o', fd', c', P', g1, g2, g3, g4, g5, g6⟩ := G.T.tab dL hm
    rw [beq_iff_eq.mp hd] at g1
    exact tabOf_of KX hfb g1 g2 g3 g4 g5 g6
  obtain ⟨fd, cs, sp, c1, c2, c3, c4, c5, c6⟩ := F w mg fa _ KX G.T.g hmg own
  exact LamX.law_callTs (CX := CX0) KX G.T.g G.T.b G.T.builtins G.T.nolimit hg c1 c2 c3 G.T.bmain hobj hints (Nat.le_trans hlen hs) hr c6 c4 (fun H h1 h2 => c5 H a ns hlen hbits h1 h2) fun _ _ _ z => z
structure At (K : PySem.W.Frag) (mg : Str → Option Value) (x : Str) (st : Stmt) : Prop where
  ex : ∃ (f : Addr) (fd : FuncData), mg x = some (.ref f) ∧ Fun K x x st f fd
structure AtC (K : PySem.W.Frag) (mg : Str → Option Value) (h : Heap) (x : Str) (st : Stmt) (c P : Addr) : Prop where
  ex : ∃ (f : Addr) (fd : FuncData), mg x = some (.ref f) ∧ FunC K x x st f fd c ∧ h.get? P = some { cls := .none, data := .fields #[] } ∧ K.lookup P = none ∧ PySem.W.CodeHd h c P
theorem at_mk {K : PySem.W.Frag} {h : Heap} {mg : Str → Option Value} {x : Str} {st : Stmt} {f : Addr} {oc : Value} {od an : Option Addr} {osl : Array (Option Value)} {kV doc pm cdv ct : Value} (X : K.In h) (G : h.Ns mainGlobals mg) (a : PySem.W.nsIn K mainGlobals x = some (some (.ref f)))
    (l : K.lookup f = some ⟨oc, od, .func (PySem.W.fnOf x x (defArgs st) (defBody st) (defScope st) .none kV doc pm an cdv ct), osl⟩) (c : PySem.W.codeIn K cdv x = true) (k : PySem.W.keepIn K (.ref f) = true) : At K mg x st := ⟨f, _, PySem.W.mg_of X G a, fun_mk l c k⟩
theorem atC_mk {K : PySem.W.Frag} {h : Heap} {mg : Str → Option Value} {x : Str} {st : Stmt} {f cA P : Addr} {oc e : Value} {od an dd : Option Addr} {osl sl : Array (Option Value)} {vs : Array Value} {kV doc pm ct : Value} (X : K.In h) (G : h.Ns mainGlobals mg)
    (T : ∀ fb, mg x = some (.ref fb) → TabOf K fb h) (a : PySem.W.nsIn K mainGlobals x = some (some (.ref f)))
    (l : K.lookup f = some ⟨oc, od, .func (PySem.W.fnOf x x (defArgs st) (defBody st) (defScope st) .none kV doc pm an (.ref cA) ct), osl⟩) (c : PySem.W.codeIn K (.ref cA) x = true) (k : PySem.W.keepIn K (.ref f) = true)
    (l2 : K.lookup cA = some ⟨e, dd, .fields vs, sl⟩) (hP : vs[11]? = some (.ref P)) (nP : K.lookup P = none) : AtC K mg h x st cA P :=
  have m := PySem.W.mg_of X G a
  have t := T f m _ _ cA P e dd vs sl ⟨l, rfl, rfl, l2, hP⟩
  ⟨f, _, m, funC_mk l c k, t.1, nP, t.2⟩
theorem mkDef {P : Program} {w : World} {K : PySem.W.Frag} {mg : Str → Option Value} {base : Heap} {x : Str} {k : Nat} {ps : List Str} {sp : Sp} {f : Addr} {fd : FuncData} (F : FnOk P w K mg base CX0 k f fd ps sp) (m : mg x = some (.ref f)) (kp : PySem.W.keepIn K (.ref f) = true) (b : Binds K fd ps []) : Def P w K mg base x k ps sp := ⟨f, fd, F, m, kp, b⟩
theorem conv {base : Heap} {mg : Str → Option Value} {p : Addr × Addr} (t : LamX.TabB base mg p.1 p.2) : GxR.TabB base mg p.1 p.2 := ⟨t.code, t.bm, t.gP⟩
theorem law_at {l : PySem.W.OpenLaw} {w : World} {K : PySem.W.Frag} {h : Heap} {mg : Str → Option Value} {fa : Addr} (C : Cst K mg) (G : Glb mg) (hfa : mg "law" = some (.ref fa)) (AL : At K mg "law" sLaw)
    (A0 : At K mg "is_integer" sIsInteger)
    (A1 : At K mg "is_book" sBook)
    (A2 : At K mg "are_units" sUnits)
    (A3 : At K mg "is_stock" sStock)
    (A4 : At K mg "is_extended" sExtended)
    (A5 : At K mg "is_run" sRun)
    (A6 : At K mg "is_step" sStep)
    (A7 : At K mg "move_index" sIndex)
    (A8 : At K mg "_law_mix" sMix)
    (A9 : At K mg "_law_numbers" sNumbers)
    (A10 : At K mg "_law_draws" sDraws)
    (A11 : At K mg "_law_take" sTake)
    (A12 : At K mg "_law_named" sNamed)
    (A13 : At K mg "_law_stock" sStockL)
    (A14 : At K mg "_law_book" sBookL)
    (A15 : At K mg "_law_run" sRunL)
    (A16 : At K mg "_law_bad_book" sBadL)
    (A17 : At K mg "_law_nested" sNested)
    {c19 P19 : Addr} (A19 : AtC K mg h "is_name" sIsName c19 P19)
    {c20 P20 : Addr} (A20 : AtC K mg h "are_integers" sEntries c20 P20)
    {c21 P21 : Addr} (A21 : AtC K mg h "are_kinds" sKinds c21 P21)
    {c22 P22 : Addr} (A22 : AtC K mg h "is_move" sMove c22 P22)
    {c23 P23 : Addr} (A23 : AtC K mg h "are_moves" sMoves c23 P23)
    {c24 P24 : Addr} (A24 : AtC K mg h "is_run_within" sRunW c24 P24) : LamX.LawAtS l w K CX0 95 63 "script" mg fa h := by
  obtain ⟨f0, fd0, m0, F0⟩ := A0.ex
  have b0 := F0.binds (ps := ["value"]) fun _ _ _ _ _ _ us hl => match us, hl with | [_], _ => rfl
  obtain ⟨f1, fd1, m1, F1⟩ := A1.ex
  have b1 := F1.binds (ps := ["value"]) fun _ _ _ _ _ _ us hl => match us, hl with | [_], _ => rfl
  obtain ⟨f2, fd2, m2, F2⟩ := A2.ex
  have b2 := F2.binds (ps := ["value", "width"]) fun _ _ _ _ _ _ us hl => match us, hl with | [_, _], _ => rfl
  obtain ⟨f3, fd3, m3, F3⟩ := A3.ex
  have b3 := F3.binds (ps := ["book", "value"]) fun _ _ _ _ _ _ us hl => match us, hl with | [_, _], _ => rfl
  obtain ⟨f4, fd4, m4, F4⟩ := A4.ex
  have b4 := F4.binds (ps := ["book", "value"]) fun _ _ _ _ _ _ us hl => match us, hl with | [_, _], _ => rfl
  obtain ⟨f5, fd5, m5, F5⟩ := A5.ex
  have b5 := F5.binds (ps := ["book", "value"]) fun _ _ _ _ _ _ us hl => match us, hl with | [_, _], _ => rfl
  obtain ⟨f6, fd6, m6, F6⟩ := A6.ex
  have b6 := F6.binds (ps := ["book", "value", "depth"]) fun _ _ _ _ _ _ us hl => match us, hl with | [_, _, _], _ => rfl
  obtain ⟨f7, fd7, m7, F7⟩ := A7.ex
  have b7 := F7.binds (ps := ["book", "name"]) fun _ _ _ _ _ _ us hl => match us, hl with | [_, _], _ => rfl
  obtain ⟨f8, fd8, m8, F8⟩ := A8.ex
  have b8 := F8.binds (ps := ["first", "second"]) fun _ _ _ _ _ _ us hl => match us, hl with | [_, _], _ => rfl
  obtain ⟨f9, fd9, m9, F9⟩ := A9.ex
  have b9 := F9.binds (ps := ["script", "count"]) fun _ _ _ _ _ _ us hl => match us, hl with | [_, _], _ => rfl
  obtain ⟨f10, fd10, m10, F10⟩ := A10.ex
  have b10 := F10.binds (ps := ["script", "count"]) fun _ _ _ _ _ _ us hl => match us, hl with | [_, _], _ => rfl
  obtain ⟨f11, fd11, m11, F11⟩ := A11.ex
  have b11 := F11.binds (ps := ["draws", "bound"]) fun _ _ _ _ _ _ us hl => match us, hl with | [_, _], _ => rfl
  obtain ⟨f12, fd12, m12, F12⟩ := A12.ex
  have b12 := F12.binds (ps := ["draws"]) fun _ _ _ _ _ _ us hl => match us, hl with | [_], _ => rfl
  obtain ⟨f13, fd13, m13, F13⟩ := A13.ex
  have b13 := F13.binds (ps := ["draws", "n", "most"]) fun _ _ _ _ _ _ us hl => match us, hl with | [_, _, _], _ => rfl
  obtain ⟨f14, fd14, m14, F14⟩ := A14.ex
  have b14 := F14.binds (ps := ["draws", "most"]) fun _ _ _ _ _ _ us hl => match us, hl with | [_, _], _ => rfl
  obtain ⟨f15, fd15, m15, F15⟩ := A15.ex
  have b15 := F15.binds (ps := ["draws", "moves", "depth", "times"]) fun _ _ _ _ _ _ us hl => match us, hl with | [_, _, _, _], _ => rfl
  obtain ⟨f16, fd16, m16, F16⟩ := A16.ex
  have b16 := F16.binds (ps := ["draws", "book"]) fun _ _ _ _ _ _ us hl => match us, hl with | [_, _], _ => rfl
  obtain ⟨f17, fd17, m17, F17⟩ := A17.ex
  have b17 := F17.binds (ps := ["run", "depth"]) fun _ _ _ _ _ _ us hl => match us, hl with | [_, _], _ => rfl
  obtain ⟨f19, fd19, m19, G19, t19, n19, h19⟩ := A19.ex
  have F19 := G19.fun
  have b19 := F19.binds (ps := ["value"]) fun _ _ _ _ _ _ us hl => match us, hl with | [_], _ => rfl
  obtain ⟨f20, fd20, m20, G20, t20, n20, h20⟩ := A20.ex
  have F20 := G20.fun
  have b20 := F20.binds (ps := ["value", "width", "low"]) fun _ _ _ _ _ _ us hl => match us, hl with | [_, _, _], _ => rfl
  obtain ⟨f21, fd21, m21, G21, t21, n21, h21⟩ := A21.ex
  have F21 := G21.fun
  have b21 := F21.binds (ps := ["value"]) fun _ _ _ _ _ _ us hl => match us, hl with | [_], _ => rfl
  obtain ⟨f22, fd22, m22, G22, t22, n22, h22⟩ := A22.ex
  have F22 := G22.fun
  have b22 := F22.binds (ps := ["value", "width"]) fun _ _ _ _ _ _ us hl => match us, hl with | [_, _], _ => rfl
  obtain ⟨f23, fd23, m23, G23, t23, n23, h23⟩ := A23.ex
  have F23 := G23.fun
  have b23 := F23.binds (ps := ["value", "width"]) fun _ _ _ _ _ _ us hl => match us, hl with | [_, _], _ => rfl
  obtain ⟨f24, fd24, m24, G24, t24, n24, h24⟩ := A24.ex
  have F24 := G24.fun
  have b24 := F24.binds (ps := ["book", "value", "depth"]) fun _ _ _ _ _ _ us hl => match us, hl with | [_, _, _], _ => rfl
  obtain ⟨f', fd', m', F'⟩ := AL.ex
  cases m'.symm.trans hfa
  have bnd : ∀ (s : Shared) (u : Value), BindsTo s fd' ⟨[u], []⟩ [("script", u)] := by
    obtain ⟨_, _, _, _, _, _, _, _, _, e, _⟩ := F'.ex
    subst e
    exact fun s u => .of_eq rfl
  refine ⟨fd', [(c19, P19), (c20, P20), (c21, P21), (c22, P22), (c23, P23), (c24, P24)], spLaw K [P19, P20, P21, P22, P23, P24], ?_, ?_, ?_, bnd, ?_, ?_⟩
  · intro p hp
    simp only [List.mem_cons, List.not_mem_nil, or_false] at hp
    rcases hp with rfl | rfl | rfl | rfl | rfl | rfl
    · exact t19
    · exact t20
    · exact t21
    · exact t22
    · exact t23
    · exact t24
  · intro p hp
    simp only [List.mem_cons, List.not_mem_nil, or_false] at hp
    rcases hp with rfl | rfl | rfl | rfl | rfl | rfl
    · exact n19
    · exact n20
    · exact n21
    · exact n22
    · exact n23
    · exact n24
  · intro p hp
    simp only [List.mem_cons, List.not_mem_nil, or_false] at hp
    rcases hp with rfl | rfl | rfl | rfl | rfl | rfl
    · exact h19
    · exact h20
    · exact h21
    · exact h22
    · exact h23
    · exact h24
  · intro H a ns hl _ hT hS
    refine ⟨a, ns, rfl, hS, hl, fun P hP => ?_, fun _ _ => rfl⟩
    have hp : ∃ p ∈ ([(c19, P19), (c20, P20), (c21, P21), (c22, P22), (c23, P23), (c24, P24)] : List (Addr × Addr)), p.2 = P := by
      simp only [List.mem_cons, List.not_mem_nil, or_false] at hP
      rcases hP with e | e | e | e | e | e
      · exact ⟨(c19, P19), by simp, e.symm⟩
      · exact ⟨(c20, P20), by simp, e.symm⟩
      · exact ⟨(c21, P21), by simp, e.symm⟩
      · exact ⟨(c22, P22), by simp, e.symm⟩
      · exact ⟨(c23, P23), by simp, e.symm⟩
      · exact ⟨(c24, P24), by simp, e.symm⟩
    obtain ⟨p, hp, rfl⟩ := hp
    exact ⟨#[], hT p hp, by simp [TriplesOk]⟩
  intro base _ _ hb
  have T19 : GxR.TabB base mg c19 P19 := conv (hb (c19, P19) (by simp))
  have T20 : GxR.TabB base mg c20 P20 := conv (hb (c20, P20) (by simp))
  have T21 : GxR.TabB base mg c21 P21 := conv (hb (c21, P21) (by simp))
  have T22 : GxR.TabB base mg c22 P22 := conv (hb (c22, P22) (by simp))
  have T23 : GxR.TabB base mg c23 P23 := conv (hb (c23, P23) (by simp))
  have T24 : GxR.TabB base mg c24 P24 := conv (hb (c24, P24) (by simp))
  have DI := mkDef (ok_integer (P := l.prog) (w := w) (base := base) F0 G) m0 F0.kp b0
  have DN := mkDef (ok_name (P := l.prog) (w := w) (base := base) G19 G C T19) m19 F19.kp b19
  have DEn := mkDef (ok_entries (P := l.prog) (w := w) (base := base) G20 G T20 DI) m20 F20.kp b20
  have DU := mkDef (ok_units (P := l.prog) (w := w) (base := base) F2 G C DEn) m2 F2.kp b2
  have DS := mkDef (ok_stock (P := l.prog) (w := w) (base := base) F3 G DEn) m3 F3.kp b3
  have DE := mkDef (ok_extended (P := l.prog) (w := w) (base := base) F4 G C DEn) m4 F4.kp b4
  have DK := mkDef (ok_kinds (P := l.prog) (w := w) (base := base) G21 G C T21 DN) m21 F21.kp b21
  have DM := mkDef (ok_move (P := l.prog) (w := w) (base := base) G22 G T22 DN DU) m22 F22.kp b22
  have DMs := mkDef (ok_moves (P := l.prog) (w := w) (base := base) G23 G C T23 DM) m23 F23.kp b23
  have DB := mkDef (ok_book (P := l.prog) (w := w) (base := base) F1 G (Ps := [P19, P20, P21, P22, P23, P24]) (by simp) (by simp) DK DMs) m1 F1.kp b1
  have DW := ok_runs (P := l.prog) (w := w) (base := base) G24 m24 b24 F6 m6 b6 G T24 DI 30
  have DR := mkDef (ok_run (P := l.prog) (w := w) (base := base) F5 C DW) m5 F5.kp b5
  have DX := mkDef (ok_index (P := l.prog) (w := w) (base := base) F7 G) m7 F7.kp b7
  have DMi := mkDef (ok_mix (P := l.prog) (w := w) (base := base) F8 G) m8 F8.kp b8
  have DNu := mkDef (ok_numbers (P := l.prog) (w := w) (base := base) F9 G DMi) m9 F9.kp b9
  have DD := mkDef (ok_draws (P := l.prog) (w := w) (base := base) F10 G DNu) m10 F10.kp b10
  have DT := mkDef (ok_take (P := l.prog) (w := w) (base := base) F11 G) m11 F11.kp b11
  have DNa := mkDef (ok_named (P := l.prog) (w := w) (base := base) F12 G DT) m12 F12.kp b12
  have DSL := mkDef (ok_stockL (P := l.prog) (w := w) (base := base) F13 G DT) m13 F13.kp b13
  have DBL := mkDef (ok_bookL (P := l.prog) (w := w) (base := base) F14 G DT DNa DSL) m14 F14.kp b14
  have DRL := ok_runsL (P := l.prog) (w := w) (base := base) F15 m15 b15 G DT 4
  have DBB := mkDef (ok_badL (P := l.prog) (w := w) (base := base) F16 G DT) m16 F16.kp b16
  have DNE := mkDef (ok_nested (P := l.prog) (w := w) (base := base) F17 G) m17 F17.kp b17
  exact ok_law F' G (by simp) (by simp) (by simp) DB DN DS DE DR DX DD DT DBL DSL DBB DRL DNE
end Mint


namespace Mint
open PySem PySem.Spec PyProof.Rows L2 GxR Gx RZ
theorem cst_mk {K : PySem.W.Frag} {h : Heap} {mg : Str → Option Value} {u1 u2 u3 u4 u5 u6 u7 u8 t1 t2 t3 t4 : Tok} {r n : Nat} {dd : Option Addr} {sl : Array (Option Value)} (X : K.In h) (G : h.Ns mainGlobals mg)
    (a1 : PySem.W.nsIn K mainGlobals "LETTERS" = some (some (.str lettersS u1))) (a2 : PySem.W.nsIn K mainGlobals "NAME_SIGNS" = some (some (.str signsS u2))) (a3 : PySem.W.nsIn K mainGlobals "MOST_SIGNS" = some (some (.int 12 u3))) (a4 : PySem.W.nsIn K mainGlobals "MOST_KINDS" = some (some (.int 6 u4)))
    (a5 : PySem.W.nsIn K mainGlobals "MOST_MOVES" = some (some (.int 8 u5))) (a6 : PySem.W.nsIn K mainGlobals "MOST_UNITS" = some (some (.int 1000 u6))) (a7 : PySem.W.nsIn K mainGlobals "MOST_DEPTH" = some (some (.int 30 u7)))
    (a10 : PySem.W.nsIn K mainGlobals "ENDLESS" = some (some (.int (-1) u8)))
    (a8 : PySem.W.nsIn K mainGlobals "RESERVED" = some (some (.ref r))) (l : K.lookup r = some ⟨.type "tuple", dd, .seq #[.str "kinds" t1, .str "nothing" t2, .str "endless" t3, .str "x" t4] n, sl⟩) : Cst K mg :=
  ⟨⟨_, PySem.W.mg_of X G a1⟩, ⟨_, PySem.W.mg_of X G a2⟩, ⟨_, PySem.W.mg_of X G a8, fun _ => .inr ⟨_, _, _, l, rfl, rfl, (by show 4 ≤ sizeLine; decide), .cons ⟨_, rfl⟩ (.cons ⟨_, rfl⟩ (.cons ⟨_, rfl⟩ (.cons ⟨_, rfl⟩ .nil)))⟩⟩,
    ⟨_, PySem.W.mg_of X G a3⟩, ⟨_, PySem.W.mg_of X G a4⟩, ⟨_, PySem.W.mg_of X G a5⟩, ⟨_, PySem.W.mg_of X G a6⟩, ⟨_, PySem.W.mg_of X G a7⟩, ⟨_, PySem.W.mg_of X G a10⟩⟩
theorem none_mk {K : PySem.W.Frag} {h : Heap} {mg : Str → Option Value} {x : Str} (X : K.In h) (G : h.Ns mainGlobals mg) (z : PySem.W.nsIn K mainGlobals x = some none) : mg x = none := PySem.W.mg_none_of X G z
theorem atC_ex {K : PySem.W.Frag} {h : Heap} {mg : Str → Option Value} {x : Str} {st : Stmt} {f cA P : Addr} {oc e : Value} {od an dd : Option Addr} {osl sl : Array (Option Value)} {vs : Array Value} {kV doc pm ct : Value} (X : K.In h) (G : h.Ns mainGlobals mg)
    (T : ∀ fb, mg x = some (.ref fb) → TabOf K fb h) (a : PySem.W.nsIn K mainGlobals x = some (some (.ref f)))
    (l : K.lookup f = some ⟨oc, od, .func (PySem.W.fnOf x x (defArgs st) (defBody st) (defScope st) .none kV doc pm an (.ref cA) ct), osl⟩) (c : PySem.W.codeIn K (.ref cA) x = true) (k : PySem.W.keepIn K (.ref f) = true)
    (l2 : K.lookup cA = some ⟨e, dd, .fields vs, sl⟩) (hP : vs[11]? = some (.ref P)) (nP : K.lookup P = none) : ∃ c P, AtC K mg h x st c P := ⟨cA, P, atC_mk X G T a l c k l2 hP nP⟩
end Mint
open PySem PySem.W PyProof.Rows
set_option maxRecDepth 100000 in
set_option maxHeartbeats 0 in
theorem PySem.Challenge.cw_mintlaw_k00_forms_holds : PySem.Challenge.rw_mintlaw_k00_forms.Holds := by
  w_on; o_law; k_head; (case hw => w_witness2)
  k_fill
  refine Mint.walkM (k := 95) (n := 63) (l := PySem.Challenge.rw_mintlaw_k00_forms) ["is_name", "are_integers", "are_kinds", "is_move", "are_moves", "is_run_within"] rfl (by decide) rfl ⟨rfl, by decide, by decide⟩ ?hnm (fun w h Y => PySem.W.kIn_of Y) ?hfx
  case hnm =>
    intro x hx
    simp only [List.mem_cons, List.not_mem_nil, or_false] at hx
    rcases hx with rfl | rfl | rfl | rfl | rfl | rfl <;> decide +kernel
  case hfx =>
    intro w mg fa h KX G hmg own
    have C : Mint.Cst (cw_mintlaw_k00_forms_holds.heap_39 w.params) mg := by
      refine' Mint.cst_mk KX G ?a1 ?a2 ?a3 ?a4 ?a5 ?a6 ?a7 ?a10 ?a8 ?a9
      (case a1 => k_is); (case a2 => k_is); (case a3 => k_is); (case a4 => k_is); (case a5 => k_is); (case a6 => k_is); (case a7 => k_is); (case a10 => k_is); (case a8 => k_is); (case a9 => k_is)
    have B : Mint.Glb mg := ⟨Mint.none_mk KX G (by k_is), Mint.none_mk KX G (by k_is), Mint.none_mk KX G (by k_is), Mint.none_mk KX G (by k_is), Mint.none_mk KX G (by k_is), Mint.none_mk KX G (by k_is), Mint.none_mk KX G (by k_is), Mint.none_mk KX G (by k_is), Mint.none_mk KX G (by k_is), Mint.none_mk KX G (by k_is), Mint.none_mk KX G (by k_is), Mint.none_mk KX G (by k_is), Mint.none_mk KX G (by k_is), Mint.none_mk KX G (by k_is), Mint.none_mk KX G (by k_is)⟩
    have AL : Mint.At (cw_mintlaw_k00_forms_holds.heap_39 w.params) mg "law" Mint.sLaw := by
      (refine' Mint.at_mk KX G ?za ?zl ?zc ?zk; (case za => k_is); (case zl => k_is); (case zc => k_is); (case zk => k_is))
    have A0 : Mint.At (cw_mintlaw_k00_forms_holds.heap_39 w.params) mg "is_integer" Mint.sIsInteger := by
      (refine' Mint.at_mk KX G ?za ?zl ?zc ?zk; (case za => k_is); (case zl => k_is); (case zc => k_is); (case zk => k_is))
    have A1 : Mint.At (cw_mintlaw_k00_forms_holds.heap_39 w.params) mg "is_book" Mint.sBook := by
      (refine' Mint.at_mk KX G ?za ?zl ?zc ?zk; (case za => k_is); (case zl => k_is); (case zc => k_is); (case zk => k_is))
    have A2 : Mint.At (cw_mintlaw_k00_forms_holds.heap_39 w.params) mg "are_units" Mint.sUnits := by
      (refine' Mint.at_mk KX G ?za ?zl ?zc ?zk; (case za => k_is); (case zl => k_is); (case zc => k_is); (case zk => k_is))
    have A3 : Mint.At (cw_mintlaw_k00_forms_holds.heap_39 w.params) mg "is_stock" Mint.sStock := by
      (refine' Mint.at_mk KX G ?za ?zl ?zc ?zk; (case za => k_is); (case zl => k_is); (case zc => k_is); (case zk => k_is))
    have A4 : Mint.At (cw_mintlaw_k00_forms_holds.heap_39 w.params) mg "is_extended" Mint.sExtended := by
      (refine' Mint.at_mk KX G ?za ?zl ?zc ?zk; (case za => k_is); (case zl => k_is); (case zc => k_is); (case zk => k_is))
    have A5 : Mint.At (cw_mintlaw_k00_forms_holds.heap_39 w.params) mg "is_run" Mint.sRun := by
      (refine' Mint.at_mk KX G ?za ?zl ?zc ?zk; (case za => k_is); (case zl => k_is); (case zc => k_is); (case zk => k_is))
    have A6 : Mint.At (cw_mintlaw_k00_forms_holds.heap_39 w.params) mg "is_step" Mint.sStep := by
      (refine' Mint.at_mk KX G ?za ?zl ?zc ?zk; (case za => k_is); (case zl => k_is); (case zc => k_is); (case zk => k_is))
    have A7 : Mint.At (cw_mintlaw_k00_forms_holds.heap_39 w.params) mg "move_index" Mint.sIndex := by
      (refine' Mint.at_mk KX G ?za ?zl ?zc ?zk; (case za => k_is); (case zl => k_is); (case zc => k_is); (case zk => k_is))
    have A8 : Mint.At (cw_mintlaw_k00_forms_holds.heap_39 w.params) mg "_law_mix" Mint.sMix := by
      (refine' Mint.at_mk KX G ?za ?zl ?zc ?zk; (case za => k_is); (case zl => k_is); (case zc => k_is); (case zk => k_is))
    have A9 : Mint.At (cw_mintlaw_k00_forms_holds.heap_39 w.params) mg "_law_numbers" Mint.sNumbers := by
      (refine' Mint.at_mk KX G ?za ?zl ?zc ?zk; (case za => k_is); (case zl => k_is); (case zc => k_is); (case zk => k_is))
    have A10 : Mint.At (cw_mintlaw_k00_forms_holds.heap_39 w.params) mg "_law_draws" Mint.sDraws := by
      (refine' Mint.at_mk KX G ?za ?zl ?zc ?zk; (case za => k_is); (case zl => k_is); (case zc => k_is); (case zk => k_is))
    have A11 : Mint.At (cw_mintlaw_k00_forms_holds.heap_39 w.params) mg "_law_take" Mint.sTake := by
      (refine' Mint.at_mk KX G ?za ?zl ?zc ?zk; (case za => k_is); (case zl => k_is); (case zc => k_is); (case zk => k_is))
    have A12 : Mint.At (cw_mintlaw_k00_forms_holds.heap_39 w.params) mg "_law_named" Mint.sNamed := by
      (refine' Mint.at_mk KX G ?za ?zl ?zc ?zk; (case za => k_is); (case zl => k_is); (case zc => k_is); (case zk => k_is))
    have A13 : Mint.At (cw_mintlaw_k00_forms_holds.heap_39 w.params) mg "_law_stock" Mint.sStockL := by
      (refine' Mint.at_mk KX G ?za ?zl ?zc ?zk; (case za => k_is); (case zl => k_is); (case zc => k_is); (case zk => k_is))
    have A14 : Mint.At (cw_mintlaw_k00_forms_holds.heap_39 w.params) mg "_law_book" Mint.sBookL := by
      (refine' Mint.at_mk KX G ?za ?zl ?zc ?zk; (case za => k_is); (case zl => k_is); (case zc => k_is); (case zk => k_is))
    have A15 : Mint.At (cw_mintlaw_k00_forms_holds.heap_39 w.params) mg "_law_run" Mint.sRunL := by
      (refine' Mint.at_mk KX G ?za ?zl ?zc ?zk; (case za => k_is); (case zl => k_is); (case zc => k_is); (case zk => k_is))
    have A16 : Mint.At (cw_mintlaw_k00_forms_holds.heap_39 w.params) mg "_law_bad_book" Mint.sBadL := by
      (refine' Mint.at_mk KX G ?za ?zl ?zc ?zk; (case za => k_is); (case zl => k_is); (case zc => k_is); (case zk => k_is))
    have A17 : Mint.At (cw_mintlaw_k00_forms_holds.heap_39 w.params) mg "_law_nested" Mint.sNested := by
      (refine' Mint.at_mk KX G ?za ?zl ?zc ?zk; (case za => k_is); (case zl => k_is); (case zc => k_is); (case zk => k_is))
    have own0 := own "is_name" (by simp)
    have own1 := own "are_integers" (by simp)
    have own2 := own "are_kinds" (by simp)
    have own3 := own "is_move" (by simp)
    have own4 := own "are_moves" (by simp)
    have own5 := own "is_run_within" (by simp)
    clear own
    obtain ⟨cc0, PP0, B0⟩ : ∃ c P, Mint.AtC (cw_mintlaw_k00_forms_holds.heap_39 w.params) mg h "is_name" Mint.sIsName c P := by
      (refine' Mint.atC_ex KX G own0 ?za ?zl ?zc ?zk ?zm ?zp ?zn; (case za => k_is); (case zl => k_is); (case zc => k_is); (case zk => k_is); (case zm => k_is); (case zp => rfl); (case zn => rfl))
    obtain ⟨cc1, PP1, B1⟩ : ∃ c P, Mint.AtC (cw_mintlaw_k00_forms_holds.heap_39 w.params) mg h "are_integers" Mint.sEntries c P := by
      (refine' Mint.atC_ex KX G own1 ?za ?zl ?zc ?zk ?zm ?zp ?zn; (case za => k_is); (case zl => k_is); (case zc => k_is); (case zk => k_is); (case zm => k_is); (case zp => rfl); (case zn => rfl))
    obtain ⟨cc2, PP2, B2⟩ : ∃ c P, Mint.AtC (cw_mintlaw_k00_forms_holds.heap_39 w.params) mg h "are_kinds" Mint.sKinds c P := by
      (refine' Mint.atC_ex KX G own2 ?za ?zl ?zc ?zk ?zm ?zp ?zn; (case za => k_is); (case zl => k_is); (case zc => k_is); (case zk => k_is); (case zm => k_is); (case zp => rfl); (case zn => rfl))
    obtain ⟨cc3, PP3, B3⟩ : ∃ c P, Mint.AtC (cw_mintlaw_k00_forms_holds.heap_39 w.params) mg h "is_move" Mint.sMove c P := by
      (refine' Mint.atC_ex KX G own3 ?za ?zl ?zc ?zk ?zm ?zp ?zn; (case za => k_is); (case zl => k_is); (case zc => k_is); (case zk => k_is); (case zm => k_is); (case zp => rfl); (case zn => rfl))
    obtain ⟨cc4, PP4, B4⟩ : ∃ c P, Mint.AtC (cw_mintlaw_k00_forms_holds.heap_39 w.params) mg h "are_moves" Mint.sMoves c P := by
      (refine' Mint.atC_ex KX G own4 ?za ?zl ?zc ?zk ?zm ?zp ?zn; (case za => k_is); (case zl => k_is); (case zc => k_is); (case zk => k_is); (case zm => k_is); (case zp => rfl); (case zn => rfl))
    obtain ⟨cc5, PP5, B5⟩ : ∃ c P, Mint.AtC (cw_mintlaw_k00_forms_holds.heap_39 w.params) mg h "is_run_within" Mint.sRunW c P := by
      (refine' Mint.atC_ex KX G own5 ?za ?zl ?zc ?zk ?zm ?zp ?zn; (case za => k_is); (case zl => k_is); (case zc => k_is); (case zk => k_is); (case zm => k_is); (case zp => rfl); (case zn => rfl))
    exact Mint.law_at C B hmg AL A0 A1 A2 A3 A4 A5 A6 A7 A8 A9 A10 A11 A12 A13 A14 A15 A16 A17 B0 B1 B2 B3 B4 B5

